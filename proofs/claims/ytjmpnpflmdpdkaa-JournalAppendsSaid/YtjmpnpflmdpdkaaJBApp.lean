/- The body of JournalAppends. -/
import Derived.Test.YtjmpnpflmdpdkaaJSc
import Derived.Test.YtjmpnpflmdpdkaaJSb
namespace Go.Proofs.Ytjmpnpflmdpdkaa
open Go Go.RowKit FM

set_option maxHeartbeats 8000000 in
theorem appends_law (A : Option Addr) (n c : Nat) (l : List Ent) (w : World) (hx : AE w A n l) (hn : n ≤ maxLen) :
    Calls Try.prog 3 #[.slice A n c] w fun e w' => e = .returned (.bool true) ∧ Below w.heap.size w w' := by
  have HX := hide hx
  have HN := hide hn
  have hl := hx.len
  clear hx
  go_enter Try.func3, Try.ntmps3
  go_wp2_with fail
  (with_reducible refine (awake_yes _).mono ?_)
  rintro e w1 ⟨rfl, hb1⟩
  have HB1 := hide hb1
  clear hb1
  unfold maxLen at hn
  go_wp2_with fail
  obtain ⟨fb, hfb⟩ : ∃ fb, fewB l = fb := ⟨_, rfl⟩
  have HF := hide hfb
  (with_reducible refine (few_any A n c l _ (HX.out.below HB1.out) HN.out fb HF.out).mono ?_)
  rintro e w' ⟨rfl, rfl⟩
  cases fb with
  | false =>
    clear HF hfb
    go_wp2_with fail
    (with_reducible refine (awake_yes _).mono ?_)
    rintro e w2 ⟨rfl, hb2⟩
    have HB2 := hide (Below.next HB1.out hb2)
    clear hb2
    go_wp2_with fail
    go_ret
    exact ⟨rfl, HB2.out⟩
  | true =>
    clear HF hfb
    go_wp2_with fail
    (with_reducible refine (new_any _).mono ?_)
    rintro e w2 ⟨p, rfl, hj, hb⟩
    have HJ2 := hide hj
    have HB2 := hide hb
    clear hj hb
    go_wp2_with fail
    (with_reducible refine (rnew_any _).mono ?_)
    rintro e w3 ⟨q, rfl, hr, hb3⟩
    have HT := hide (two_first HJ2.out HB2.out hr hb3)
    have HX1 := hide (HX.out.below HB1.out)
    clear hr hb3 HJ2 HB2
    go_wp2_with fail
    go_loopw [5] (fun v5 wr => ∃ (i : Nat) (F G : Nat → Prop), v5 = .int .i64 (i : Int) ∧ i ≤ n ∧ Hid (Two w1 wr p q F G (mkT l i))) (fun v5 _ => n - (intOf v5).toNat)
    case atStart => exact ⟨0, _, _, rfl, by omega, hide (by rw [mkT_zero]; exact HT.out)⟩
    case round =>
      clear HT
      obtain ⟨i, F, G, rfl, hi, HT⟩ := hrel
      by_cases hlt : i < n
      · obtain ⟨b, o, k, x, Ad, nd, cd, rfl, he, hk, c0, c1, hbd, hnd⟩ := HX1.out.at_ hlt
        have HM := hide (mkT_succ he)
        have HK := hide hk
        have HND := hide hnd
        have HBD := hide hbd
        have hbw : Below w1.heap.size w1 wr := HT.out.2.2.2
        have HJ := hide HT.out.1
        have KS : Hid (∀ w', Below w1.heap.size w1 w' → w'.cell? ⟨b, o + i * 2, none⟩ = some (.int .u8 (k : Int)) ∧ w'.cell? ⟨b, o + i * 2 + 1, none⟩ = some (.slice Ad nd cd)) := fun w' hb =>
          ⟨(hb.cell (p := ⟨b, o + i * 2, none⟩) (World.block_lt_of_cell? w1 _ c0)).trans c0, (hb.cell (p := ⟨b, o + i * 2 + 1, none⟩) (World.block_lt_of_cell? w1 _ c1)).trans c1⟩
        have i1 : (i : Int) < (n : Int) := by omega
        have i2 : (0 : Int) ≤ (i : Int) := by omega
        clear c0 c1 hbd hnd hk he
        go_wp2_with fail
        go_region_held3 (fun w' => w'.cell? ⟨b, o + i * 2, none⟩ = some (.int .u8 (k : Int)) ∧ w'.cell? ⟨b, o + i * 2 + 1, none⟩ = some (.slice Ad nd cd))
          (exact KS.out _ (by ((repeat (first | (with_reducible assumption) | (with_reducible exact Below.refl _ _) | (with_reducible refine Below.drewS ?_) | (with_reducible refine Below.allocS ?_ _))); (first | done | fail))))
          (first
            | (go_simp; go_at_call 14; (with_reducible refine (putc_any p w1.heap.size F (mkT l i) _ (HJ.out.below (by ((repeat (first | (with_reducible assumption) | (with_reducible exact Below.refl _ _) | (with_reducible refine Below.drewS ?_) | (with_reducible refine Below.allocS ?_ _))); (first | done | fail)))) (szB (show Below w1.heap.size w1 _ from by ((repeat (first | (with_reducible assumption) | (with_reducible exact Below.refl _ _) | (with_reducible refine Below.drewS ?_) | (with_reducible refine Below.allocS ?_ _))); (first | done | fail)))) k HK.out Ad nd cd x (HBD.out.below (by ((repeat (first | (with_reducible assumption) | (with_reducible exact Below.refl _ _) | (with_reducible refine Below.drewS ?_) | (with_reducible refine Below.allocS ?_ _))); (first | done | fail)))) HND.out).mono ?_); rintro e w4 ⟨rfl, hj3, ht3⟩; have HMid := hide (HT.out.mid (by ((repeat (first | (with_reducible assumption) | (with_reducible exact Below.refl _ _) | (with_reducible refine Below.drewS ?_) | (with_reducible refine Below.allocS ?_ _))); (first | done | fail))) hj3 ht3); have E3 : Below w1.heap.size w1 w4 := HMid.out.2.2.2; have HR := hide HMid.out.2.1)
            | (go_simp; go_at_call 15; (with_reducible refine (rput_any q w1.heap.size G (mkT l i) _ (HR.out.below (by ((repeat (first | (with_reducible assumption) | (with_reducible exact Below.refl _ _) | (with_reducible refine Below.drewS ?_) | (with_reducible refine Below.allocS ?_ _))); (first | done | fail)))) (szB (show Below w1.heap.size w1 _ from by ((repeat (first | (with_reducible assumption) | (with_reducible exact Below.refl _ _) | (with_reducible refine Below.drewS ?_) | (with_reducible refine Below.allocS ?_ _))); (first | done | fail)))) k HK.out Ad nd cd x (HBD.out.below (by ((repeat (first | (with_reducible assumption) | (with_reducible exact Below.refl _ _) | (with_reducible refine Below.drewS ?_) | (with_reducible refine Below.allocS ?_ _))); (first | done | fail)))) HND.out).mono ?_); rintro e w5 ⟨rfl, hr4, ht4⟩; have HTw := hide (HMid.out.two (by ((repeat (first | (with_reducible assumption) | (with_reducible exact Below.refl _ _) | (with_reducible refine Below.drewS ?_) | (with_reducible refine Below.allocS ?_ _))); (first | done | fail))) hr4 ht4); have E4 : Below w1.heap.size w1 w5 := HTw.out.2.2.2))
        all_goals
          clear hr4 ht4 HR HMid hj3 ht3 HJ HT
          go_wp2_with fail
          go_roundw
          case measure => simp [intOf]; omega
          case rel => exact ⟨i + 1, _, _, by go_num, by omega, hide (by rw [HM.out]; exact HTw.out)⟩
      · obtain rfl : i = n := by omega
        have HBE := hide (Below.next HB1.out HT.out.2.2.2)
        have HJ9 := hide HT.out.1
        have HR9 := hide HT.out.2.1
        clear HT
        go_wp2_with fail
        (with_reducible refine (samej_any p q _ _ _ _ _ _ HJ9.out HR9.out).mono ?_)
        rintro e w6 ⟨rfl, hb6⟩
        have HB6 := hide (Below.next HBE.out hb6)
        clear hb6 HJ9 HR9
        go_wp2_with fail
        go_ret
        exact ⟨rfl, HB6.out⟩
end Go.Proofs.Ytjmpnpflmdpdkaa
