/- The body of JournalAgain. -/
import Derived.Test.YtjmpnpflmdpdkaaJSc
import Derived.Test.YtjmpnpflmdpdkaaJSb
namespace Go.Proofs.Ytjmpnpflmdpdkaa
open Go Go.RowKit FM

/-- two journals of the program, of the same entries, apart -/
def Duo (w0 w : World) (p q : Nat) (F G : Nat → Prop) (es es' : List Ent) : Prop :=
  JN w w0.heap.size F p es ∧ JN w w0.heap.size G q es' ∧ Sep F G ∧ Below w0.heap.size w0 w
section
variable {w0 w wx w2 : World} {p q : Nat} {F G : Nat → Prop} {es es' es2 : List Ent}
theorem Duo.left (h : Duo w0 w p q F G es es') (hx : Below w.heap.size w wx) (hj : JN w2 w0.heap.size (Plus F wx w2) p es2) (t : Turn F wx w2) : Duo w0 w2 p q (Plus F wx w2) G es2 es' := by
  obtain ⟨h1, h2, h3, h4⟩ := h
  have r2 := (h2.below hx)
  refine ⟨hj, r2.turn t h3.symm, h3.plus r2.lt, t.onto (h4.trans (hx.mono h4.size)) fun k hk => (h1.rng k hk).1⟩
theorem Duo.right (h : Duo w0 w p q F G es es') (hx : Below w.heap.size w wx) (hj : JN w2 w0.heap.size (Plus G wx w2) q es2) (t : Turn G wx w2) : Duo w0 w2 p q F (Plus G wx w2) es es2 := by
  obtain ⟨h1, h2, h3, h4⟩ := h
  have r1 := h1.below hx
  refine ⟨r1.turn t h3, hj, (h3.symm.plus r1.lt).symm, t.onto (h4.trans (hx.mono h4.size)) fun k hk => (h2.rng k hk).1⟩
end
set_option maxRecDepth 100000 in
set_option maxHeartbeats 8000000 in
theorem again_law (A : Option Addr) (n c : Nat) (l : List Ent) (A' : Option Addr) (m c' : Nat) (l' : List Ent) (w : World) (hx : AE w A n l) (hn : n ≤ maxLen) (hx' : AE w A' m l') (hm : m ≤ maxLen) :
    Calls Try.prog 7 #[.slice A n c, .slice A' m c'] w fun e w' => e = .returned (.bool true) ∧ Below w.heap.size w w' := by
  have HX := hide hx
  have HY := hide hx'
  have HN := hide hn
  have HM := hide hm
  have hl := hx.len
  have hl' := hx'.len
  clear hx hx'
  go_enter Try.func7, Try.ntmps7
  go_wp2_with fail
  (with_reducible refine (awake_yes _).mono ?_)
  rintro e w1 ⟨rfl, hb1⟩
  have HB1 := hide hb1
  clear hb1
  unfold maxLen at hm hn
  go_wp2_with fail
  obtain ⟨fb, hfb⟩ : ∃ fb, fewB l = fb := ⟨_, rfl⟩
  have HF := hide hfb
  (with_reducible refine (few_any A n c l _ (HX.out.below HB1.out) HN.out fb HF.out).mono ?_)
  rintro e w' ⟨rfl, rfl⟩
  cases fb with
  | false =>
    clear HF hfb
    go_wp2_with fail
    (with_reducible refine (awake_yes _).mono ?_)
    rintro e w2 ⟨rfl, hb2⟩
    have HB2 := hide (Below.next HB1.out hb2)
    clear hb2
    go_wp2_with fail
    go_ret
    exact ⟨rfl, HB2.out⟩
  | true =>
    have HFew := hide (fewB_iff.1 hfb)
    clear HF hfb
    go_wp2_with fail
    obtain ⟨fb2, hfb⟩ : ∃ fb2, fewB l' = fb2 := ⟨_, rfl⟩
    have HF := hide hfb
    (with_reducible refine (few_any A' m c' l' _ (HY.out.below HB1.out) HM.out fb2 HF.out).mono ?_)
    rintro e w' ⟨rfl, rfl⟩
    cases fb2 with
    | false =>
      clear HF hfb
      go_wp2_with fail
      (with_reducible refine (awake_yes _).mono ?_)
      rintro e w2 ⟨rfl, hb2⟩
      have HB2 := hide (Below.next HB1.out hb2)
      clear hb2
      go_wp2_with fail
      go_ret
      exact ⟨rfl, HB2.out⟩
    | true =>
      clear HF hfb
      have HMk := hide (mk_few HFew.out)
      have HOk := hide (few_ok HFew.out HX.out.kinds)
      have hN1 := few_len HFew.out
      obtain ⟨N, hN⟩ : ∃ N, (jb l).length = N := ⟨_, rfl⟩
      have HLN := hide hN
      rw [hN] at hN1
      have hOE : oE (jb l) = 0 := oE_0 (by omega) (by have := jb_ge l; omega) (List.take_left' (show coin.length = 5 from rfl))
      clear hN
      go_wp2_with fail
      (with_reducible refine (made_any A n c l _ (HX.out.below HB1.out) HN.out).mono ?_)
      rintro e w2 ⟨p, q, F, G, rfl, hT⟩
      rw [HMk.out] at hT
      have HJ2 := hide hT.1
      have HB2 := hide hT.2.2.2
      clear hT
      go_wp2_with fail
      (with_reducible refine (jbytes_any p _ _ _ _ HJ2.out N HLN.out).mono ?_)
      rintro e w3 ⟨A3, c3, rfl, hr3, hb3⟩
      have hc3 := Row.le hr3
      have HA3 := hide (RB.br hr3 (jb_by HOk.out))
      have HJ3 := hide (HJ2.out.below hb3)
      have HB3 := hide (Below.next HB2.out hb3)
      unfold maxLen at hc3
      clear hr3 hb3 HJ2 HB2
      go_wp2_with fail
      (with_reducible refine (jopen_any A3 N c3 _ _ HA3.out (by omega) (by unfold maxLen; omega)).mono ?_)
      rintro e w4 ⟨hb4, ⟨h0, -⟩ | ⟨-, p2, es, r, rfl, hrd, hj4⟩⟩
      · exact absurd hOE h0
      · obtain ⟨rfl, rfl⟩ := hrd.uniq (reads_all HOk.out)
        have HT := hide (show Duo w1 w4 p p2 F (Plus Non w3 w4) es es from ⟨HJ3.out.below hb4, hj4.low HB3.out.size, (Sep.new (fun k hk => by rcases hk with hk | hk; exact hk.elim; exact hk.1) HJ3.out.lt).symm, Below.next HB3.out hb4⟩)
        have HY1 := hide (HY.out.below HB1.out)
        clear hb4 hrd hj4 HJ3 HB3 HA3 hOE
        go_wp2_with fail
        go_loopw [10] (fun v10 wr => ∃ (i : Nat) (F G : Nat → Prop) (fs : List Ent), v10 = .int .i64 (i : Int) ∧ i ≤ m ∧ Hid (Duo w1 wr p p2 F G fs fs)) (fun v10 _ => m - (intOf v10).toNat)
        case atStart => exact ⟨0, _, _, _, rfl, by omega, HT⟩
        case round =>
          clear HT
          obtain ⟨i, F, G, fs, rfl, hi, HT⟩ := hrel
          by_cases hlt : i < m
          · obtain ⟨b, o, k, x, Ad, nd, cd, rfl, he, hk, c0, c1, hbd, hnd⟩ := HY1.out.at_ hlt
            have HK := hide hk
            have HND := hide hnd
            have HBD := hide hbd
            have hbw : Below w1.heap.size w1 wr := HT.out.2.2.2
            have HJ := hide HT.out.1
            have KS : Hid (∀ w', Below w1.heap.size w1 w' → w'.cell? ⟨b, o + i * 2, none⟩ = some (.int .u8 (k : Int)) ∧ w'.cell? ⟨b, o + i * 2 + 1, none⟩ = some (.slice Ad nd cd)) := fun w' hb =>
              ⟨(hb.cell (p := ⟨b, o + i * 2, none⟩) (World.block_lt_of_cell? w1 _ c0)).trans c0, (hb.cell (p := ⟨b, o + i * 2 + 1, none⟩) (World.block_lt_of_cell? w1 _ c1)).trans c1⟩
            have i1 : (i : Int) < (m : Int) := by omega
            have i2 : (0 : Int) ≤ (i : Int) := by omega
            clear c0 c1 hbd hnd hk he
            go_wp2_with fail
            go_region_held3 (fun w' => w'.cell? ⟨b, o + i * 2, none⟩ = some (.int .u8 (k : Int)) ∧ w'.cell? ⟨b, o + i * 2 + 1, none⟩ = some (.slice Ad nd cd))
              (exact KS.out _ (by ((repeat (first | (with_reducible assumption) | (with_reducible exact Below.refl _ _) | (with_reducible refine Below.drewS ?_) | (with_reducible refine Below.allocS ?_ _))); (first | done | fail))))
              (first
                | (go_simp; go_at_call 14; (with_reducible refine (putc_any p w1.heap.size F fs _ (HJ.out.below (by ((repeat (first | (with_reducible assumption) | (with_reducible exact Below.refl _ _) | (with_reducible refine Below.drewS ?_) | (with_reducible refine Below.allocS ?_ _))); (first | done | fail)))) (szB (show Below w1.heap.size w1 _ from by ((repeat (first | (with_reducible assumption) | (with_reducible exact Below.refl _ _) | (with_reducible refine Below.drewS ?_) | (with_reducible refine Below.allocS ?_ _))); (first | done | fail)))) k HK.out Ad nd cd x (HBD.out.below (by ((repeat (first | (with_reducible assumption) | (with_reducible exact Below.refl _ _) | (with_reducible refine Below.drewS ?_) | (with_reducible refine Below.allocS ?_ _))); (first | done | fail)))) HND.out).mono ?_); rintro e w4 ⟨rfl, hj3, ht3⟩; have HMid := hide (HT.out.left (by ((repeat (first | (with_reducible assumption) | (with_reducible exact Below.refl _ _) | (with_reducible refine Below.drewS ?_) | (with_reducible refine Below.allocS ?_ _))); (first | done | fail))) hj3 ht3); have E3 : Below w1.heap.size w1 w4 := HMid.out.2.2.2; have HR := hide HMid.out.2.1)
                | (go_simp; go_at_call 14; (with_reducible refine (putc_any p2 w1.heap.size G fs _ (HR.out.below (by ((repeat (first | (with_reducible assumption) | (with_reducible exact Below.refl _ _) | (with_reducible refine Below.drewS ?_) | (with_reducible refine Below.allocS ?_ _))); (first | done | fail)))) (szB (show Below w1.heap.size w1 _ from by ((repeat (first | (with_reducible assumption) | (with_reducible exact Below.refl _ _) | (with_reducible refine Below.drewS ?_) | (with_reducible refine Below.allocS ?_ _))); (first | done | fail)))) k HK.out Ad nd cd x (HBD.out.below (by ((repeat (first | (with_reducible assumption) | (with_reducible exact Below.refl _ _) | (with_reducible refine Below.drewS ?_) | (with_reducible refine Below.allocS ?_ _))); (first | done | fail)))) HND.out).mono ?_); rintro e w5 ⟨rfl, hr4, ht4⟩; have HTw := hide (HMid.out.right (by ((repeat (first | (with_reducible assumption) | (with_reducible exact Below.refl _ _) | (with_reducible refine Below.drewS ?_) | (with_reducible refine Below.allocS ?_ _))); (first | done | fail))) hr4 ht4); have E4 : Below w1.heap.size w1 w5 := HTw.out.2.2.2))
            all_goals
              clear hr4 ht4 HR HMid hj3 ht3 HJ HT
              go_wp2_with fail
              go_roundw
              case measure => simp [intOf]; omega
              case rel => exact ⟨i + 1, _, _, _, by go_num, by omega, HTw⟩
          · obtain rfl : i = m := by omega
            have HBE := hide (Below.next HB1.out HT.out.2.2.2)
            have HJ5 := hide HT.out.1
            have HO5 := hide HT.out.2.1
            obtain ⟨M, hM⟩ : ∃ M, (jb fs).length = M := ⟨_, rfl⟩
            have HLM := hide hM
            clear HT hM
            go_wp2_with fail
            (with_reducible refine (jbytes_any p _ _ _ _ HJ5.out M HLM.out).mono ?_)
            rintro e w6 ⟨A6, c6, rfl, hr6, hb6⟩
            have HX6 := hide (RB.br hr6 (jb_by HJ5.out.ok.1))
            have HJ6 := hide (HJ5.out.below hb6)
            have HO6 := hide (HO5.out.below hb6)
            have HB6 := hide (Below.next HBE.out hb6)
            clear hr6 hb6 HJ5 HO5 HBE
            go_wp2_with fail
            (with_reducible refine (jbytes_any p2 _ _ _ _ HO6.out M HLM.out).mono ?_)
            rintro e w7 ⟨A7, c7, rfl, hr7, hb7⟩
            have HX7 := hide (RB.br hr7 (jb_by HO6.out.ok.1))
            have HX8 := hide (HX6.out.below hb7)
            have HJ7 := hide (HJ6.out.below hb7)
            have HO7 := hide (HO6.out.below hb7)
            have HB7 := hide (Below.next HB6.out hb7)
            clear hr7 hb7 HX6 HJ6 HO6 HB6
            go_wp2_with fail
            (with_reducible refine (bytes_any A6 M c6 _ A7 M c7 _ _ HX8.out HX7.out true (by simp)).mono ?_)
            rintro e w' ⟨rfl, rfl⟩
            go_wp2_with fail
            (with_reducible refine (len_any p _ _ _ _ HJ7.out).mono ?_)
            rintro e w' ⟨rfl, rfl⟩
            go_wp2_with fail
            (with_reducible refine (len_any p2 _ _ _ _ HO7.out).mono ?_)
            rintro e w' ⟨rfl, rfl⟩
            go_wp2_with fail
            go_ret
            exact ⟨rfl, HB7.out⟩
end Go.Proofs.Ytjmpnpflmdpdkaa
