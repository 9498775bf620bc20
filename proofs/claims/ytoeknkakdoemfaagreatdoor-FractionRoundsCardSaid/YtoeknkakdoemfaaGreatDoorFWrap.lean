/- The contracts of fraction.Neg, Mul. -/
import Derived.Test.YtoeknkakdoemfaaGreatDoorBaseE
import Derived.Test.YtoeknkakdoemfaaGreatDoorFProd
namespace Go.Proofs.YtoeknkakdoemfaaGreatDoor
open Go Go.RowKit

set_option maxHeartbeats 1000000 in
theorem fmul_any (L : Nat) (hL : L ≤ 20000) (p : Bool) (A : Option Addr) (n c u : Nat) (B : Option Addr) (m d v : Nat) (p' : Bool) (A' : Option Addr) (n' c' u' : Nat) (B' : Option Addr) (m' d' v' : Nat) (w : World) (hA : Nt w L A n c u) (hB : Nt w L B m d v) (hA' : Nt w L A' n' c' u') (hB' : Nt w L B' m' d' v') (r : Rat) (hr : qv p u v * qv p' u' v' = r) :
    Calls Tryz.prog 26 #[.agg #[.bool p, .slice A n c, .slice B m d], .agg #[.bool p', .slice A' n' c', .slice B' m' d']] w (GivesR r w) := by
  have HR := hide ((qv_mul p p' u v u' v').symm.trans hr)
  clear hr
  go_enter Tryz.func26, Tryz.ntmps26
  go_wp2_with fail
  generalize hW : ((w.alloc _).alloc _).alloc _ = W
  obtain ⟨hbW, b0, b1, bR, -⟩ := boxesA3 hW
  clear hW
  have hA := hA.below hbW
  have hB := hB.below hbW
  have hA' := hA'.below hbW
  have hB' := hB'.below hbW
  refine (fproduct_any L hL p A n c u B m d v p' A' n' c' u' B' m' d' v' _ hA hB hA' hB').mono ?_
  rintro e w1 ⟨A1, n1, c1, B1, m1, d1, rfl, h1, i1, hb1⟩
  have hbA := hbW.trans (hb1.mono hbW.size)
  have bR := bR.below' hb1
  clear hb1 hbW hA hB hA' hB' b0 b1
  go_wp2_with fail
  refine (fnorm_any (2 * L + 2) (by omega) (by omega) (p != p') A1 n1 c1 (u * u') B1 m1 d1 (v * v') _ h1 i1 r HR.out).mono ?_
  rintro e w2 ⟨A2, n2, c2, B2, m2, d2, rfl, h2, i2, hb2⟩
  have hbA := hbA.trans (hb2.mono hbA.size)
  have bR := bR.below' hb2
  clear hb2 h1 i1
  have g0 : w2.cell? ⟨w.heap.size + 1 + 1, 0, none⟩ = some (.bool false) := bR.at_ 0
  have g1 : w2.cell? ⟨w.heap.size + 1 + 1, 1, none⟩ = some (.slice none 0 0) := bR.at_ 1
  have g2 : w2.cell? ⟨w.heap.size + 1 + 1, 2, none⟩ = some (.slice none 0 0) := bR.at_ 2
  have f0 := bR.frozen 0
  have f1 := bR.frozen 1
  have f2 := bR.frozen 2
  go_wp2
  clear g0 g1 g2 f0 f1 f2
  generalize hW3 : ((w2.setCell _ _).setCell _ _).setCell _ _ = W3
  obtain ⟨b3, N3, C3, B3, -⟩ := put3 bR hW3
  clear hW3
  have k0 : W3.cell? ⟨w.heap.size + 1 + 1, 0, none⟩ = some (.bool (decide (r.num < 0))) := b3.at_ 0
  have k1 : W3.cell? ⟨w.heap.size + 1 + 1, 1, none⟩ = some (.slice A2 n2 c2) := b3.at_ 1
  have k2 : W3.cell? ⟨w.heap.size + 1 + 1, 2, none⟩ = some (.slice B2 m2 d2) := b3.at_ 2
  refine bodyPost_ret (v := .agg #[.bool (decide (r.num < 0)), .slice A2 n2 c2, .slice B2 m2 d2]) (by simp [results, Tryz.results26, go_sem, k0, k1, k2]) rfl ?_
  exact ⟨A2, n2, c2, B2, m2, d2, rfl, C3 _ _ _ _ h2, C3 _ _ _ _ i2, B3 _ _ hbA (by omega)⟩
end Go.Proofs.YtoeknkakdoemfaaGreatDoor
