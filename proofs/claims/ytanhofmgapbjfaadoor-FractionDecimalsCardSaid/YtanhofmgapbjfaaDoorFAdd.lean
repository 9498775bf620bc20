/- The contracts of fraction.Add, Sub, Cmp. -/
import Derived.Test.YtanhofmgapbjfaaDoorBaseE
import Derived.Test.YtanhofmgapbjfaaDoorFSum
import Derived.Test.YtanhofmgapbjfaaDoorFSign
namespace Go.Proofs.YtanhofmgapbjfaaDoor
open Go Go.RowKit

set_option maxHeartbeats 1000000 in
theorem fadd_any (L : Nat) (h1L : 1 ≤ L) (hL : L ≤ 10000) (p : Bool) (A : Option Addr) (n c u : Nat) (B : Option Addr) (m d v : Nat) (p' : Bool) (A' : Option Addr) (n' c' u' : Nat) (B' : Option Addr) (m' d' v' : Nat) (w : World) (hA : Nt w L A n c u) (hB : Nt w L B m d v) (hA' : Nt w L A' n' c' u') (hB' : Nt w L B' m' d' v') (r : Rat) (hr : qv p u v + qv p' u' v' = r) :
    Calls Tryd.prog 20 #[.agg #[.bool p, .slice A n c, .slice B m d], .agg #[.bool p', .slice A' n' c', .slice B' m' d']] w (GivesR r w) := by
  have HR := hide hr
  clear hr
  go_enter Tryd.func20, Tryd.ntmps20
  go_wp2_with fail
  generalize hW : ((w.alloc _).alloc _).alloc _ = W
  obtain ⟨hbW, b0, b1, bR, -⟩ := boxesA3 hW
  clear hW
  have hA := hA.below hbW
  have hB := hB.below hbW
  have hA' := hA'.below hbW
  have hB' := hB'.below hbW
  refine (fsum_any L h1L hL p A n c u B m d v p' A' n' c' u' B' m' d' v' _ hA hB hA' hB' r HR.out).mono ?_
  rintro e w1 ⟨p1, u1, v1, hq, A1, n1, c1, B1, m1, d1, rfl, h1, i1, hb1⟩
  have HQ := hide hq
  clear hq
  have hbA := hbW.trans (hb1.mono hbW.size)
  have bR := bR.below' hb1
  clear hb1 hbW hA hB hA' hB' b0 b1
  go_wp2_with fail
  refine (fnorm_any (2 * L + 3) (by omega) (by omega) p1 A1 n1 c1 u1 B1 m1 d1 v1 _ h1 i1 r HQ.out).mono ?_
  rintro e w2 ⟨A2, n2, c2, B2, m2, d2, rfl, h2, i2, hb2⟩
  have hbA := hbA.trans (hb2.mono hbA.size)
  have bR := bR.below' hb2
  clear hb2 h1 i1
  have g0 : w2.cell? ⟨w.heap.size + 1 + 1, 0, none⟩ = some (.bool false) := bR.at_ 0
  have g1 : w2.cell? ⟨w.heap.size + 1 + 1, 1, none⟩ = some (.slice none 0 0) := bR.at_ 1
  have g2 : w2.cell? ⟨w.heap.size + 1 + 1, 2, none⟩ = some (.slice none 0 0) := bR.at_ 2
  have f0 := bR.frozen 0
  have f1 := bR.frozen 1
  have f2 := bR.frozen 2
  go_wp2
  clear g0 g1 g2 f0 f1 f2
  generalize hW3 : ((w2.setCell _ _).setCell _ _).setCell _ _ = W3
  obtain ⟨b3, N3, C3, B3, -⟩ := put3 bR hW3
  clear hW3
  have k0 : W3.cell? ⟨w.heap.size + 1 + 1, 0, none⟩ = some (.bool (decide (r.num < 0))) := b3.at_ 0
  have k1 : W3.cell? ⟨w.heap.size + 1 + 1, 1, none⟩ = some (.slice A2 n2 c2) := b3.at_ 1
  have k2 : W3.cell? ⟨w.heap.size + 1 + 1, 2, none⟩ = some (.slice B2 m2 d2) := b3.at_ 2
  refine bodyPost_ret (v := .agg #[.bool (decide (r.num < 0)), .slice A2 n2 c2, .slice B2 m2 d2]) (by simp [results, Tryd.results20, go_sem, k0, k1, k2]) rfl ?_
  exact ⟨A2, n2, c2, B2, m2, d2, rfl, C3 _ _ _ _ h2, C3 _ _ _ _ i2, B3 _ _ hbA (by omega)⟩
set_option maxHeartbeats 1000000 in
theorem fsub_any (L : Nat) (h1L : 1 ≤ L) (hL : L ≤ 10000) (p : Bool) (A : Option Addr) (n c u : Nat) (B : Option Addr) (m d v : Nat) (p' : Bool) (A' : Option Addr) (n' c' u' : Nat) (B' : Option Addr) (m' d' v' : Nat) (w : World) (hA : Nt w L A n c u) (hB : Nt w L B m d v) (hA' : Nt w L A' n' c' u') (hB' : Nt w L B' m' d' v') (r : Rat) (hr : qv p u v - qv p' u' v' = r) :
    Calls Tryd.prog 22 #[.agg #[.bool p, .slice A n c, .slice B m d], .agg #[.bool p', .slice A' n' c', .slice B' m' d']] w (GivesR r w) := by
  have HR := hide (show qv p u v + qv (!p') u' v' = r from by rw [← hr, ← qv_minus, Rat.sub_eq_add_neg])
  have hL2 := hL
  clear hr
  go_enter Tryd.func22, Tryd.ntmps22
  go_wp2_with fail
  generalize hW : ((w.alloc _).alloc _).alloc _ = W
  obtain ⟨hbW, b0, b1, bR, -⟩ := boxesA3 hW
  clear hW
  have hA := hA.below hbW
  have hB := hB.below hbW
  have hA' := hA'.below hbW
  have hB' := hB'.below hbW
  have lt0 := b0.lt
  have lt1 := b1.lt
  have ltR := bR.lt
  have P0 : Below W.heap.size W W.drew := (Below.refl _ _).drew
  have KS : Hid (∀ w', Below W.heap.size W w' → w'.cell? ⟨w.heap.size, 0, none⟩ = some (.bool p) ∧ w'.cell? ⟨w.heap.size, 1, none⟩ = some (.slice A n c) ∧ w'.cell? ⟨w.heap.size, 2, none⟩ = some (.slice B m d) ∧ w'.cell? ⟨w.heap.size + 1, 0, none⟩ = some (.bool p') ∧ w'.cell? ⟨w.heap.size + 1, 1, none⟩ = some (.slice A' n' c') ∧ w'.cell? ⟨w.heap.size + 1, 2, none⟩ = some (.slice B' m' d')) := fun w' h =>
    ⟨(b0.below h lt0).at_ 0, (b0.below h lt0).at_ 1, (b0.below h lt0).at_ 2, (b1.below h lt1).at_ 0, (b1.below h lt1).at_ 1, (b1.below h lt1).at_ 2⟩
  have KB : Hid (∀ w', Below W.heap.size W w' → Box w' (w.heap.size + 1 + 1) #[.bool false, .slice none 0 0, .slice none 0 0] 26) := fun w' h => bR.below h ltR
  have HF : Hid (∀ w', Box w' (w.heap.size + 1 + 1) #[.bool false, .slice none 0 0, .slice none 0 0] 26 → w'.cell? ⟨w.heap.size + 1 + 1, 0, none⟩ = some (.bool false) ∧ w'.cell? ⟨w.heap.size + 1 + 1, 1, none⟩ = some (.slice none 0 0) ∧ w'.cell? ⟨w.heap.size + 1 + 1, 2, none⟩ = some (.slice none 0 0) ∧ w'.frozen? ⟨w.heap.size + 1 + 1, 0, none⟩ = false ∧ w'.frozen? ⟨w.heap.size + 1 + 1, 1, none⟩ = false ∧ w'.frozen? ⟨w.heap.size + 1 + 1, 2, none⟩ = false) :=
    fun w' h => ⟨h.at_ 0, h.at_ 1, h.at_ 2, h.frozen 0, h.frozen 1, h.frozen 2⟩
  have ST : Hid (∀ w' (x y z : Value), Below W.heap.size W w' → (fun w' => w'.cell? ⟨w.heap.size, 0, none⟩ = some (.bool p) ∧ w'.cell? ⟨w.heap.size, 1, none⟩ = some (.slice A n c) ∧ w'.cell? ⟨w.heap.size, 2, none⟩ = some (.slice B m d) ∧ w'.cell? ⟨w.heap.size + 1, 0, none⟩ = some (.bool p') ∧ w'.cell? ⟨w.heap.size + 1, 1, none⟩ = some (.slice A' n' c') ∧ w'.cell? ⟨w.heap.size + 1, 2, none⟩ = some (.slice B' m' d')) (((w'.setCell ⟨w.heap.size + 1 + 1, 0, none⟩ x).setCell ⟨w.heap.size + 1 + 1, 1, none⟩ y).setCell ⟨w.heap.size + 1 + 1, 2, none⟩ z)) := fun w' x y z h => by
    obtain ⟨q0, q1, q2, q3, q4, q5⟩ := KS.out w' h
    refine ⟨?_, ?_, ?_, ?_, ?_, ?_⟩
    · rw [cell_far _ _ _ _ (by simp; omega), cell_far _ _ _ _ (by simp; omega), cell_far _ _ _ _ (by simp; omega)]; exact q0
    · rw [cell_far _ _ _ _ (by simp; omega), cell_far _ _ _ _ (by simp; omega), cell_far _ _ _ _ (by simp; omega)]; exact q1
    · rw [cell_far _ _ _ _ (by simp; omega), cell_far _ _ _ _ (by simp; omega), cell_far _ _ _ _ (by simp; omega)]; exact q2
    · rw [cell_far _ _ _ _ (by simp), cell_far _ _ _ _ (by simp), cell_far _ _ _ _ (by simp)]; exact q3
    · rw [cell_far _ _ _ _ (by simp), cell_far _ _ _ _ (by simp), cell_far _ _ _ _ (by simp)]; exact q4
    · rw [cell_far _ _ _ _ (by simp), cell_far _ _ _ _ (by simp), cell_far _ _ _ _ (by simp)]; exact q5
  clear b0 b1 lt0 lt1
  go_region_held3 (fun w' => w'.cell? ⟨w.heap.size, 0, none⟩ = some (.bool p) ∧ w'.cell? ⟨w.heap.size, 1, none⟩ = some (.slice A n c) ∧ w'.cell? ⟨w.heap.size, 2, none⟩ = some (.slice B m d) ∧ w'.cell? ⟨w.heap.size + 1, 0, none⟩ = some (.bool p') ∧ w'.cell? ⟨w.heap.size + 1, 1, none⟩ = some (.slice A' n' c') ∧ w'.cell? ⟨w.heap.size + 1, 2, none⟩ = some (.slice B' m' d'))
    (first | exact KS.out _ En | exact KS.out _ Es | exact KS.out _ Em | exact ST.out _ _ _ _ En | exact ST.out _ _ _ _ Es | exact ST.out _ _ _ _ Em | exact KS.out _ (Below.refl _ _) | exact KS.out _ P0)
    (first | (go_at_call_of 43 (Value.slice A' n' c'); (with_reducible refine (minus_any L p' A' n' c' u' B' m' d' v' _ (hA'.below P0) (hB'.below P0)).mono ?_); rintro e wm ⟨Am, nm, cm, Bm, mm, dm, rfl, hAm, hBm, hxwm⟩; have Em := (P0).trans (hxwm.mono (P0).size)) | (go_at_call_of 45 (Value.slice A n c); (with_reducible refine (fsum_any L h1L hL2 p A n c u B m d v (!p') Am nm cm u' Bm mm dm v' _ (hA.below Em) (hB.below Em) hAm hBm r HR.out).mono ?_); rintro e ws ⟨p1, u1, v1, hq, A1, n1, c1, B1, m1, d1, rfl, h1, i1, hxws⟩; have Es := (Em).trans (hxws.mono (Em).size); have HQ := hide (hq); clear hq) | (go_at_call_of 14 (Value.slice A1 n1 c1); (with_reducible refine (fnorm_any (2 * L + 3) (by omega) (by omega) p1 A1 n1 c1 u1 B1 m1 d1 v1 _ h1 i1 r HQ.out).mono ?_); rintro e wn ⟨A2, n2, c2, B2, m2, d2, rfl, h2, i2, hxwn⟩; have En := (Es).trans (hxwn.mono (Es).size); obtain ⟨g0, g1, g2, f0, f1, f2⟩ := HF.out _ (KB.out _ En)))
  clear g0 g1 g2 f0 f1 f2
  have X10 := KB.out _ En
  have hbZ := hbW.trans (En.mono hbW.size)
  generalize hW10 : ((wn.setCell _ _).setCell _ _).setCell _ _ = W10
  obtain ⟨b10, N10, C10, B10, -⟩ := put3 X10 hW10
  clear hW10
  have k0 : W10.cell? ⟨w.heap.size + 1 + 1, 0, none⟩ = some (.bool (decide (r.num < 0))) := b10.at_ 0
  have k1 : W10.cell? ⟨w.heap.size + 1 + 1, 1, none⟩ = some (.slice A2 n2 c2) := b10.at_ 1
  have k2 : W10.cell? ⟨w.heap.size + 1 + 1, 2, none⟩ = some (.slice B2 m2 d2) := b10.at_ 2
  go_wp2
  refine bodyPost_ret (v := .agg #[.bool (decide (r.num < 0)), .slice A2 n2 c2, .slice B2 m2 d2]) (by simp [results, Tryd.results22, go_sem, k0, k1, k2]) rfl ?_
  exact ⟨A2, n2, c2, B2, m2, d2, rfl, C10 _ _ _ _ h2, C10 _ _ _ _ i2, B10 _ _ hbZ (by omega)⟩
set_option maxHeartbeats 1000000 in
theorem fcmp_any (L : Nat) (h1L : 1 ≤ L) (hL : L ≤ 5000) (p : Bool) (A : Option Addr) (n c u : Nat) (B : Option Addr) (m d v : Nat) (p' : Bool) (A' : Option Addr) (n' c' u' : Nat) (B' : Option Addr) (m' d' v' : Nat) (w : World) (hA : Nt w L A n c u) (hB : Nt w L B m d v) (hA' : Nt w L A' n' c' u') (hB' : Nt w L B' m' d' v') (r : Int) (hr : (qv p u v - qv p' u' v').num.sign = r) :
    Calls Tryd.prog 26 #[.agg #[.bool p, .slice A n c, .slice B m d], .agg #[.bool p', .slice A' n' c', .slice B' m' d']] w fun e w' => e = .returned (.int .i64 r) ∧ Below w.heap.size w w' := by
  have HR := hide (show ∀ p1 u1 v1, qv p1 u1 v1 = qv p u v + qv (!p') u' v' → sg p1 u1 v1 = r from fun p1 u1 v1 h => by rw [sg_sign, h, ← qv_minus, ← Rat.sub_eq_add_neg, hr])
  have hL2 : L ≤ 10000 := by omega
  clear hr
  go_enter Tryd.func26, Tryd.ntmps26
  go_wp2_with fail
  generalize hW : (w.alloc _).alloc _ = W
  obtain ⟨hbW, b0, b1, -⟩ := boxesA2 hW
  clear hW
  have hA := hA.below hbW
  have hB := hB.below hbW
  have hA' := hA'.below hbW
  have hB' := hB'.below hbW
  have lt0 := b0.lt
  have lt1 := b1.lt
  have P0 : Below W.heap.size W W.drew := (Below.refl _ _).drew
  have KS : Hid (∀ w', Below W.heap.size W w' → w'.cell? ⟨w.heap.size, 0, none⟩ = some (.bool p) ∧ w'.cell? ⟨w.heap.size, 1, none⟩ = some (.slice A n c) ∧ w'.cell? ⟨w.heap.size, 2, none⟩ = some (.slice B m d) ∧ w'.cell? ⟨w.heap.size + 1, 0, none⟩ = some (.bool p') ∧ w'.cell? ⟨w.heap.size + 1, 1, none⟩ = some (.slice A' n' c') ∧ w'.cell? ⟨w.heap.size + 1, 2, none⟩ = some (.slice B' m' d')) := fun w' h =>
    ⟨(b0.below h lt0).at_ 0, (b0.below h lt0).at_ 1, (b0.below h lt0).at_ 2, (b1.below h lt1).at_ 0, (b1.below h lt1).at_ 1, (b1.below h lt1).at_ 2⟩
  clear b0 b1 lt0 lt1
  go_region_held3 (fun w' => w'.cell? ⟨w.heap.size, 0, none⟩ = some (.bool p) ∧ w'.cell? ⟨w.heap.size, 1, none⟩ = some (.slice A n c) ∧ w'.cell? ⟨w.heap.size, 2, none⟩ = some (.slice B m d) ∧ w'.cell? ⟨w.heap.size + 1, 0, none⟩ = some (.bool p') ∧ w'.cell? ⟨w.heap.size + 1, 1, none⟩ = some (.slice A' n' c') ∧ w'.cell? ⟨w.heap.size + 1, 2, none⟩ = some (.slice B' m' d'))
    (first | exact KS.out _ En | exact KS.out _ Es | exact KS.out _ Em | exact KS.out _ (Below.refl _ _) | exact KS.out _ P0)
    (first | (go_at_call_of 43 (Value.slice A' n' c'); (with_reducible refine (minus_any L p' A' n' c' u' B' m' d' v' _ (hA'.below P0) (hB'.below P0)).mono ?_); rintro e wm ⟨Am, nm, cm, Bm, mm, dm, rfl, hAm, hBm, hxwm⟩; have Em := (P0).trans (hxwm.mono (P0).size)) | (go_at_call_of 45 (Value.slice A n c); (with_reducible refine (fsum_any L h1L hL2 p A n c u B m d v (!p') Am nm cm u' Bm mm dm v' _ (hA.below Em) (hB.below Em) hAm hBm _ rfl).mono ?_); rintro e ws ⟨p1, u1, v1, hq, A1, n1, c1, B1, m1, d1, rfl, h1, i1, hxws⟩; have Es := (Em).trans (hxws.mono (Em).size); have HQ := hide (HR.out p1 u1 v1 hq); clear hq) | (go_at_call_of 18 (Value.slice A1 n1 c1); (with_reducible refine (fsign_any (2 * L + 3) (by omega) p1 A1 n1 c1 u1 B1 m1 d1 v1 _ h1 i1 r HQ.out).mono ?_); rintro e wn ⟨rfl, hxwn⟩; have En := (Es).trans (hxwn.mono (Es).size)))
  have hbA := hbW.trans (En.mono hbW.size)
  clear En Es Em hxwn hxws hxwm h1 i1 hAm hBm KS
  go_wp2
  go_ret
  exact ⟨rfl, hbA⟩
end Go.Proofs.YtanhofmgapbjfaaDoor
