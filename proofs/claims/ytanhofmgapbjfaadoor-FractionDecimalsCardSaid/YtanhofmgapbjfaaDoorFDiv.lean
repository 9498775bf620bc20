/- The contract of fraction.Div. -/
import Derived.Test.YtanhofmgapbjfaaDoorFAdd
namespace Go.Proofs.YtanhofmgapbjfaaDoor
open Go Go.RowKit

/-- the canonical fraction of a number, and an error's number -/
def GivesRE (r : Rat) (er : Int) (w : World) (e : Ending) (w' : World) : Prop :=
  ∃ A n c B m d, e = .returned (.tuple #[.agg #[.bool (decide (r.num < 0)), .slice A n c, .slice B m d], .int .i64 er]) ∧ Cn w' A n c r.num.natAbs ∧ Cn w' B m d r.den ∧ Below w.heap.size w w'

set_option maxHeartbeats 1000000 in
theorem fdiv_ok (L : Nat) (hL : L ≤ 10000) (p : Bool) (A : Option Addr) (n c u : Nat) (B : Option Addr) (m d v : Nat) (p' : Bool) (A' : Option Addr) (n' c' u' : Nat) (B' : Option Addr) (m' d' v' : Nat) (w : World)
    (hA : Nt w L A n c u) (hB : Nt w L B m d v) (hA' : Nt w L A' n' c' u') (hB' : Nt w L B' m' d' v') (hs : sg p' u' v' ≠ 0) (r : Rat) (hr : qv p u v / qv p' u' v' = r) :
    Calls Tryd.prog 28 #[.agg #[.bool p, .slice A n c, .slice B m d], .agg #[.bool p', .slice A' n' c', .slice B' m' d']] w (GivesRE r 0 w) := by
  have HR := hide ((qv_div p p' u v u' v').symm.trans hr)
  clear hr
  obtain ⟨o, ho⟩ : ∃ o, sg p' u' v' = o := ⟨_, rfl⟩
  have HO := hide ho
  rw [ho] at hs
  have hs2 : (o == 0) = false := by simp [hs]
  have hs3 : decide (o = 0) = false := by simp [hs]
  clear ho hs
  go_enter Tryd.func28, Tryd.ntmps28
  go_wp2_with fail
  generalize hW : (((w.alloc _).alloc _).alloc _) = W
  obtain ⟨hbW, b0, b1, bR, -⟩ := boxesA3 hW
  clear hW
  have hA := hA.below hbW
  have hB := hB.below hbW
  have hA' := hA'.below hbW
  have hB' := hB'.below hbW
  refine (fsign_any L (by omega) p' A' n' c' u' B' m' d' v' _ hA' hB' o HO.out).mono ?_
  rintro e w1 ⟨rfl, hb1⟩
  have hbA := hbW.trans (hb1.mono hbW.size)
  have hA := hA.below hb1
  have hB := hB.below hb1
  have hA' := hA'.below hb1
  have hB' := hB'.below hb1
  have b0 := b0.below' hb1
  have b1 := b1.below' hb1
  have bR := bR.below' hb1
  clear hb1 hbW
  have k0 : w1.cell? ⟨w.heap.size, 0, none⟩ = some (.bool p) := b0.at_ 0
  have k1 : w1.cell? ⟨w.heap.size, 1, none⟩ = some (.slice A n c) := b0.at_ 1
  have k2 : w1.cell? ⟨w.heap.size, 2, none⟩ = some (.slice B m d) := b0.at_ 2
  have k3 : w1.cell? ⟨w.heap.size + 1, 0, none⟩ = some (.bool p') := b1.at_ 0
  have k4 : w1.cell? ⟨w.heap.size + 1, 1, none⟩ = some (.slice A' n' c') := b1.at_ 1
  have k5 : w1.cell? ⟨w.heap.size + 1, 2, none⟩ = some (.slice B' m' d') := b1.at_ 2
  go_wp2_with fail
  refine (fproduct_any L (by omega) p A n c u B m d v p' B' m' d' v' A' n' c' u' _ hA hB hB' hA').mono ?_
  rintro e w2 ⟨A2, n2, c2, B2, m2, d2, rfl, h2, i2, hb2⟩
  have hbA := hbA.trans (hb2.mono hbA.size)
  have bR := bR.below' hb2
  clear hb2 hA hB hA' hB' b0 b1 k0 k1 k2 k3 k4 k5
  go_wp2_with fail
  refine (fnorm_any (2 * L + 2) (by omega) (by omega) (p != p') A2 n2 c2 (u * v') B2 m2 d2 (v * u') _ h2 i2 r HR.out).mono ?_
  rintro e w3 ⟨A3, n3, c3, B3, m3, d3, rfl, h3, i3, hb3⟩
  have hbA := hbA.trans (hb3.mono hbA.size)
  have bR := bR.below' hb3
  clear hb3 h2 i2
  have g0 : w3.cell? ⟨w.heap.size + 1 + 1, 0, none⟩ = some (.bool false) := bR.at_ 0
  have g1 : w3.cell? ⟨w.heap.size + 1 + 1, 1, none⟩ = some (.slice none 0 0) := bR.at_ 1
  have g2 : w3.cell? ⟨w.heap.size + 1 + 1, 2, none⟩ = some (.slice none 0 0) := bR.at_ 2
  have f0 := bR.frozen 0
  have f1 := bR.frozen 1
  have f2 := bR.frozen 2
  go_wp2_with fail
  clear g0 g1 g2 f0 f1 f2
  generalize hW3 : ((w3.setCell _ _).setCell _ _).setCell _ _ = W3
  obtain ⟨b3, -, C3, B4, -⟩ := put3 bR hW3
  clear hW3
  have k0 : W3.cell? ⟨w.heap.size + 1 + 1, 0, none⟩ = some (.bool (decide (r.num < 0))) := b3.at_ 0
  have k1 : W3.cell? ⟨w.heap.size + 1 + 1, 1, none⟩ = some (.slice A3 n3 c3) := b3.at_ 1
  have k2 : W3.cell? ⟨w.heap.size + 1 + 1, 2, none⟩ = some (.slice B3 m3 d3) := b3.at_ 2
  refine bodyPost_ret (v := .tuple #[.agg #[.bool (decide (r.num < 0)), .slice A3 n3 c3, .slice B3 m3 d3], .int .i64 0]) (by simp [results, Tryd.results28, go_sem, k0, k1, k2]) rfl ?_
  exact ⟨A3, n3, c3, B3, m3, d3, rfl, C3 _ _ _ _ h3, C3 _ _ _ _ i3, B4 _ _ hbA (by omega)⟩
set_option maxHeartbeats 1000000 in
theorem fdiv_zero (L : Nat) (hL : L ≤ 10000) (p : Bool) (A : Option Addr) (n c : Nat) (B : Option Addr) (m d : Nat) (p' : Bool) (A' : Option Addr) (n' c' u' : Nat) (B' : Option Addr) (m' d' v' : Nat) (w : World)
    (hA' : Nt w L A' n' c' u') (hB' : Nt w L B' m' d' v') (hs : sg p' u' v' = 0) :
    Calls Tryd.prog 28 #[.agg #[.bool p, .slice A n c, .slice B m d], .agg #[.bool p', .slice A' n' c', .slice B' m' d']] w fun e w' => e = .returned (.tuple #[.agg #[.bool false, .slice none 0 0, .slice none 0 0], .int .i64 12]) ∧ Below w.heap.size w w' := by
  have HS := hide hs
  clear hs
  go_enter Tryd.func28, Tryd.ntmps28
  go_wp2_with fail
  generalize hW : (((w.alloc _).alloc _).alloc _) = W
  obtain ⟨hbW, -, -, bR, -⟩ := boxesA3 hW
  clear hW
  have hA' := hA'.below hbW
  have hB' := hB'.below hbW
  refine (fsign_any L (by omega) p' A' n' c' u' B' m' d' v' _ hA' hB' 0 HS.out).mono ?_
  rintro e w1 ⟨rfl, hb1⟩
  have hbA := hbW.trans (hb1.mono hbW.size)
  have bR := bR.below' hb1
  clear hb1 hbW hA' hB'
  have g0 : w1.cell? ⟨w.heap.size + 1 + 1, 0, none⟩ = some (.bool false) := bR.at_ 0
  have g1 : w1.cell? ⟨w.heap.size + 1 + 1, 1, none⟩ = some (.slice none 0 0) := bR.at_ 1
  have g2 : w1.cell? ⟨w.heap.size + 1 + 1, 2, none⟩ = some (.slice none 0 0) := bR.at_ 2
  have f0 := bR.frozen 0
  have f1 := bR.frozen 1
  have f2 := bR.frozen 2
  go_wp2_with fail
  clear g0 g1 g2 f0 f1 f2
  generalize hW3 : ((w1.setCell _ _).setCell _ _).setCell _ _ = W3
  obtain ⟨b3, -, C3, B4, -⟩ := put3 bR hW3
  clear hW3
  have k0 : W3.cell? ⟨w.heap.size + 1 + 1, 0, none⟩ = some (.bool false) := b3.at_ 0
  have k1 : W3.cell? ⟨w.heap.size + 1 + 1, 1, none⟩ = some (.slice none 0 0) := b3.at_ 1
  have k2 : W3.cell? ⟨w.heap.size + 1 + 1, 2, none⟩ = some (.slice none 0 0) := b3.at_ 2
  refine bodyPost_ret (v := .tuple #[.agg #[.bool false, .slice none 0 0, .slice none 0 0], .int .i64 12]) (by simp [results, Tryd.results28, go_sem, k0, k1, k2]) rfl ?_
  exact ⟨rfl, B4 _ _ hbA (by omega)⟩
end Go.Proofs.YtanhofmgapbjfaaDoor
