/- made: two journals side by side. -/
import Derived.Test.YtjmpnpflmdpdkaaJSa
namespace Go.Proofs.Ytjmpnpflmdpdkaa
open Go Go.RowKit FM

/-- two journals of the same entries, apart, made since w0 -/
def Two (w0 w : World) (p q : Nat) (F G : Nat → Prop) (es : List Ent) : Prop :=
  JN w w0.heap.size F p es ∧ RJ w w0.heap.size G q es ∧ Sep F G ∧ Below w0.heap.size w0 w
section
variable {w0 w wx wy w2 w3 : World} {p q : Nat} {F G F1 : Nat → Prop} {es es' : List Ent}
/-- the first has taken an entry, the second has not yet -/
def Mid (w0 w : World) (p q : Nat) (F G : Nat → Prop) (es es' : List Ent) : Prop :=
  JN w w0.heap.size F p es' ∧ RJ w w0.heap.size G q es ∧ Sep F G ∧ Below w0.heap.size w0 w
theorem Two.size (h : Two w0 w p q F G es) : w0.heap.size ≤ w.heap.size := h.2.2.2.size
theorem Two.mid (h : Two w0 w p q F G es) (hx : Below w.heap.size w wx) (hj : JN w2 w0.heap.size (Plus F wx w2) p es') (t : Turn F wx w2) : Mid w0 w2 p q (Plus F wx w2) G es es' := by
  obtain ⟨h1, h2, h3, h4⟩ := h
  have r2 := (h2.below hx)
  refine ⟨hj, r2.turn t h3.symm, h3.plus r2.lt, t.onto (h4.trans (hx.mono h4.size)) fun k hk => (h1.rng k hk).1⟩
theorem Mid.two (h : Mid w0 w p q F1 G es es') (hx : Below w.heap.size w wy) (hr : RJ w3 w0.heap.size (Plus G wy w3) q es') (t : Turn G wy w3) : Two w0 w3 p q F1 (Plus G wy w3) es' := by
  obtain ⟨h1, h2, h3, h4⟩ := h
  have r1 := h1.below hx
  refine ⟨r1.turn t h3, hr, (h3.symm.plus r1.lt).symm, t.onto (h4.trans (hx.mono h4.size)) fun k hk => (h2.rng k hk).1⟩
theorem Two.below (h : Two w0 w p q F G es) (hx : Below w.heap.size w w2) : Two w0 w2 p q F G es := ⟨h.1.below hx, h.2.1.below hx, h.2.2.1, h.2.2.2.trans (hx.mono h.2.2.2.size)⟩
theorem Mid.below (h : Mid w0 w p q F G es es') (hx : Below w.heap.size w w2) : Mid w0 w2 p q F G es es' := ⟨h.1.below hx, h.2.1.below hx, h.2.2.1, h.2.2.2.trans (hx.mono h.2.2.2.size)⟩
theorem two_first {w1 w2 : World} (hj : JN w1 w0.heap.size (Plus Non w0 w1) p []) (hb : Below w0.heap.size w0 w1) (hr : RJ w2 w1.heap.size (Plus Non w1 w2) q []) (hb2 : Below w1.heap.size w1 w2) : Two w0 w2 p q (Plus Non w0 w1) (Plus Non w1 w2) [] :=
  ⟨hj.below hb2, hr.low hb.size, (Sep.new (fun k hk => (hr.rng k hk).1) hj.lt).symm, hb.trans (hb2.mono hb.size)⟩
end
set_option maxHeartbeats 8000000 in
theorem made_any (A : Option Addr) (n c : Nat) (l : List Ent) (w : World) (hx : AE w A n l) (hn : n ≤ maxLen) :
    Calls Try.prog 17 #[.slice A n c] w fun e w' => ∃ p q F G, e = .returned (.tuple #[.pointer (some ⟨p, 0, none⟩), .pointer (some ⟨q, 0, none⟩)]) ∧ Two w w' p q F G (mk l) := by
  have HX := hide hx
  have hl := hx.len
  unfold maxLen at hn
  clear hx
  go_enter Try.func17, Try.ntmps17
  go_wp2_with fail
  (with_reducible refine (new_any _).mono ?_)
  rintro e w1 ⟨p, rfl, hj, hb⟩
  have HJ1 := hide hj
  have HB1 := hide hb
  clear hj hb
  go_wp2_with fail
  (with_reducible refine (rnew_any _).mono ?_)
  rintro e w2 ⟨q, rfl, hr, hb2⟩
  have HT := hide (two_first HJ1.out HB1.out hr hb2)
  clear hr hb2 HJ1 HB1
  go_wp2_with fail
  go_loopw [6] (fun v6 wr => ∃ (i : Nat) (F G : Nat → Prop), v6 = .int .i64 (i : Int) ∧ i ≤ n ∧ Hid (Two w wr p q F G (mkT l i))) (fun v6 _ => n - (intOf v6).toNat)
  case atStart => exact ⟨0, _, _, rfl, by omega, hide (by rw [mkT_zero]; exact HT.out)⟩
  case round =>
    clear HT
    obtain ⟨i, F, G, rfl, hi, HT⟩ := hrel
    by_cases hlt : i < n
    · obtain ⟨b, o, k, x, Ad, nd, cd, rfl, he, hk, c0, c1, hbd, hnd⟩ := HX.out.at_ hlt
      have HM := hide (mkT_succ he)
      have HK := hide hk
      have HND := hide hnd
      have HBD := hide hbd
      have hbw : Below w.heap.size w wr := HT.out.2.2.2
      have HJ := hide HT.out.1
      have KS : Hid (∀ w', Below w.heap.size w w' → w'.cell? ⟨b, o + i * 2, none⟩ = some (.int .u8 (k : Int)) ∧ w'.cell? ⟨b, o + i * 2 + 1, none⟩ = some (.slice Ad nd cd)) := fun w' hb =>
        ⟨(hb.cell (p := ⟨b, o + i * 2, none⟩) (World.block_lt_of_cell? w _ c0)).trans c0, (hb.cell (p := ⟨b, o + i * 2 + 1, none⟩) (World.block_lt_of_cell? w _ c1)).trans c1⟩
      have i1 : (i : Int) < (n : Int) := by omega
      have i2 : (0 : Int) ≤ (i : Int) := by omega
      clear c0 c1 hbd hnd hk he
      go_wp2_with fail
      go_region_held3 (fun w' => w'.cell? ⟨b, o + i * 2, none⟩ = some (.int .u8 (k : Int)) ∧ w'.cell? ⟨b, o + i * 2 + 1, none⟩ = some (.slice Ad nd cd))
        (exact KS.out _ (by ((repeat (first | (with_reducible assumption) | (with_reducible exact Below.refl _ _) | (with_reducible refine Below.drewS ?_) | (with_reducible refine Below.allocS ?_ _))); (first | done | fail))))
        ((go_simp; go_at_call 14; (with_reducible refine (putc_any p w.heap.size F (mkT l i) _ (HJ.out.below (by ((repeat (first | (with_reducible assumption) | (with_reducible exact Below.refl _ _) | (with_reducible refine Below.drewS ?_) | (with_reducible refine Below.allocS ?_ _))); (first | done | fail)))) (szB (show Below w.heap.size w _ from by ((repeat (first | (with_reducible assumption) | (with_reducible exact Below.refl _ _) | (with_reducible refine Below.drewS ?_) | (with_reducible refine Below.allocS ?_ _))); (first | done | fail)))) k HK.out Ad nd cd x (HBD.out.below (by ((repeat (first | (with_reducible assumption) | (with_reducible exact Below.refl _ _) | (with_reducible refine Below.drewS ?_) | (with_reducible refine Below.allocS ?_ _))); (first | done | fail)))) HND.out).mono ?_); rintro e w3 ⟨rfl, hj3, ht3⟩; have HMid := hide (HT.out.mid (by ((repeat (first | (with_reducible assumption) | (with_reducible exact Below.refl _ _) | (with_reducible refine Below.drewS ?_) | (with_reducible refine Below.allocS ?_ _))); (first | done | fail))) hj3 ht3); have E3 : Below w.heap.size w w3 := HMid.out.2.2.2))
      all_goals
        clear hj3 ht3 HJ HT
        have HR := hide HMid.out.2.1
        go_wp2_with fail
        go_region_held3 (fun w' => w'.cell? ⟨b, o + i * 2, none⟩ = some (.int .u8 (k : Int)) ∧ w'.cell? ⟨b, o + i * 2 + 1, none⟩ = some (.slice Ad nd cd))
          (exact KS.out _ (by ((repeat (first | (with_reducible assumption) | (with_reducible exact Below.refl _ _) | (with_reducible refine Below.drewS ?_) | (with_reducible refine Below.allocS ?_ _))); (first | done | fail))))
          ((go_simp; go_at_call 15; (with_reducible refine (rput_any q w.heap.size G (mkT l i) _ (HR.out.below (by ((repeat (first | (with_reducible assumption) | (with_reducible exact Below.refl _ _) | (with_reducible refine Below.drewS ?_) | (with_reducible refine Below.allocS ?_ _))); (first | done | fail)))) (szB (show Below w.heap.size w _ from by ((repeat (first | (with_reducible assumption) | (with_reducible exact Below.refl _ _) | (with_reducible refine Below.drewS ?_) | (with_reducible refine Below.allocS ?_ _))); (first | done | fail)))) k HK.out Ad nd cd x (HBD.out.below (by ((repeat (first | (with_reducible assumption) | (with_reducible exact Below.refl _ _) | (with_reducible refine Below.drewS ?_) | (with_reducible refine Below.allocS ?_ _))); (first | done | fail)))) HND.out).mono ?_); rintro e w4 ⟨rfl, hr4, ht4⟩; have HTw := hide (HMid.out.two (by ((repeat (first | (with_reducible assumption) | (with_reducible exact Below.refl _ _) | (with_reducible refine Below.drewS ?_) | (with_reducible refine Below.allocS ?_ _))); (first | done | fail))) hr4 ht4); have E4 : Below w.heap.size w w4 := HTw.out.2.2.2))
        all_goals
          clear hr4 ht4 HR HMid
          go_wp2_with fail
          go_roundw
          case measure => simp [intOf]; omega
          case rel => exact ⟨i + 1, _, _, by go_num, by omega, hide (by rw [HM.out]; exact HTw.out)⟩
    · obtain rfl : i = n := by omega
      have HT2 := hide (show Two w wr p q F G (mk l) from by have := HT.out; rwa [← hl, mkT_all] at this)
      go_wp2_with fail
      refine bodyPost_ret (v := .tuple #[.pointer (some ⟨p, 0, none⟩), .pointer (some ⟨q, 0, none⟩)]) (by simp [results, Try.results17, go_sem]) rfl ?_
      exact ⟨p, q, F, G, rfl, HT2.out⟩
end Go.Proofs.Ytjmpnpflmdpdkaa
