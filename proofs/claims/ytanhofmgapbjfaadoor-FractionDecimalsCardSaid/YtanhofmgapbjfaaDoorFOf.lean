/- The contracts of fraction.magnitude, Of. -/
import Derived.Test.YtanhofmgapbjfaaDoorBaseE
import Derived.Deep.RegionHeld3
namespace Go.Proofs.YtanhofmgapbjfaaDoor
open Go Go.RowKit

set_option maxHeartbeats 1000000 in
theorem fmag_any (i : Int) (w : World) (h1 : -9223372036854775808 ≤ i) (h2 : i ≤ 9223372036854775807) (u : Nat) (hu : i.natAbs = u) :
    Calls Tryd.prog 36 #[.int .i64 i] w (GivesN u w) := by
  have HU := hide hu
  clear hu
  by_cases h0 : i < 0
  · have hd : decide (i < 0) = true := by simp; omega
    have hw : IntKind.u64.wrap (-IntKind.u64.wrap i) = ((u : Nat) : Int) := by
      rw [← HU.out]
      simp only [IntKind.wrap, IntKind.bits, IntKind.signed, Bool.false_and, Bool.false_eq_true, if_false]
      show -(i % 18446744073709551616) % 18446744073709551616 = _
      omega
    have HW := hide hw
    clear hw
    go_enter Tryd.func36, Tryd.ntmps36
    go_wp2_with fail
    generalize hW : w.alloc _ = W
    obtain ⟨hbW, b0, -⟩ := boxes1 hW
    clear hW
    rw [HW.out]
    refine (of_any u _ (by have := HU.out; omega)).mono ?_
    rintro e w1 ⟨A1, n1, c1, rfl, h1, hn1, hc1, hb1⟩
    have b0 := b0.below' hb1
    have hbA := hbW.trans (hb1.mono hbW.size)
    have g0 := b0.cell
    have f0 := b0.frozen 0
    clear hb1 hbW
    go_wp2
    refine bodyPost_ret (v := .agg #[.slice A1 n1 c1]) (by simp [results, Tryd.results36, go_sem, g0]) rfl ?_
    exact ⟨A1, n1, c1, rfl, h1.put b0 _, hn1, hc1, hbA.setCell (Nat.le_refl _) _⟩
  · have hd : decide (i < 0) = false := by simp; omega
    have hi : i = ((u : Nat) : Int) := by have := HU.out; omega
    subst hi
    go_enter Tryd.func36, Tryd.ntmps36
    go_wp2_with fail
    generalize hW : w.alloc _ = W
    obtain ⟨hbW, b0, -⟩ := boxes1 hW
    clear hW
    refine (of_any u _ (by omega)).mono ?_
    rintro e w1 ⟨A1, n1, c1, rfl, h1, hn1, hc1, hb1⟩
    have b0 := b0.below' hb1
    have hbA := hbW.trans (hb1.mono hbW.size)
    have g0 := b0.cell
    have f0 := b0.frozen 0
    clear hb1 hbW
    go_wp2
    refine bodyPost_ret (v := .agg #[.slice A1 n1 c1]) (by simp [results, Tryd.results36, go_sem, g0]) rfl ?_
    exact ⟨A1, n1, c1, rfl, h1.put b0 _, hn1, hc1, hbA.setCell (Nat.le_refl _) _⟩
set_option maxHeartbeats 1000000 in
theorem fof_any (i j : Int) (w : World) (h1 : -9223372036854775808 ≤ i) (h2 : i ≤ 9223372036854775807) (h3 : -9223372036854775808 ≤ j) (h4 : j ≤ 9223372036854775807) (r : Rat) (hr : qv (decide (i < 0) != decide (j < 0)) i.natAbs j.natAbs = r) :
    Calls Tryd.prog 12 #[.int .i64 i, .int .i64 j] w (GivesR r w) := by
  have HR := hide hr
  have HU := hide (show i.natAbs < B9 ^ 3 from by show i.natAbs < 1000000000 ^ 3; omega)
  have HV := hide (show j.natAbs < B9 ^ 3 from by show j.natAbs < 1000000000 ^ 3; omega)
  have G1 := hide (show -9223372036854775808 ≤ i ∧ i ≤ 9223372036854775807 from ⟨h1, h2⟩)
  have G2 := hide (show -9223372036854775808 ≤ j ∧ j ≤ 9223372036854775807 from ⟨h3, h4⟩)
  clear hr h1 h2 h3 h4
  obtain ⟨u, hu⟩ : ∃ u, i.natAbs = u := ⟨_, rfl⟩
  obtain ⟨v, hv⟩ : ∃ v, j.natAbs = v := ⟨_, rfl⟩
  rw [hu, hv] at HR
  rw [hu] at HU
  rw [hv] at HV
  have HI := hide hu
  have HJ := hide hv
  clear hu hv
  go_enter Tryd.func12, Tryd.ntmps12
  go_wp2_with fail
  generalize hW : w.alloc _ = W
  obtain ⟨hbW, bR, -⟩ := boxesA1 hW
  clear hW
  refine (fmag_any i _ G1.out.1 G1.out.2 u HI.out).mono ?_
  rintro e w1 ⟨A1, n1, c1, rfl, h1, hn1, hc1, hb1⟩
  have hbA := hbW.trans (hb1.mono hbW.size)
  have bR := bR.below' hb1
  have h1 : Cn w1 A1 n1 c1 u := ⟨h1, hn1, hc1⟩
  clear hb1 hbW hn1 hc1
  go_wp2_with fail
  refine (fmag_any j _ G2.out.1 G2.out.2 v HJ.out).mono ?_
  rintro e w2 ⟨A2, n2, c2, rfl, h2, hn2, hc2, hb2⟩
  have hbA := hbA.trans (hb2.mono hbA.size)
  have bR := bR.below' hb2
  have h1 := h1.below hb2
  have h2 : Cn w2 A2 n2 c2 v := ⟨h2, hn2, hc2⟩
  clear hb2 hn2 hc2
  go_wp2_with fail
  refine (fnorm_any 3 (by omega) (by omega) _ A1 n1 c1 u A2 n2 c2 v _ (h1.nt HU.out) (h2.nt HV.out) r HR.out).mono ?_
  rintro e w3 ⟨A4, n4, c4, B4, m4, d4, rfl, h4, i4, hb4⟩
  have hbA := hbA.trans (hb4.mono hbA.size)
  have bR := bR.below' hb4
  clear hb4 h1 h2
  have g0 : w3.cell? ⟨w.heap.size, 0, none⟩ = some (.bool false) := bR.at_ 0
  have g1 : w3.cell? ⟨w.heap.size, 1, none⟩ = some (.slice none 0 0) := bR.at_ 1
  have g2 : w3.cell? ⟨w.heap.size, 2, none⟩ = some (.slice none 0 0) := bR.at_ 2
  have f0 := bR.frozen 0
  have f1 := bR.frozen 1
  have f2 := bR.frozen 2
  go_wp2
  clear g0 g1 g2 f0 f1 f2
  generalize hW3 : ((w3.setCell _ _).setCell _ _).setCell _ _ = W3
  obtain ⟨b3, N3, C3, B3, -⟩ := put3 bR hW3
  clear hW3
  have k0 : W3.cell? ⟨w.heap.size, 0, none⟩ = some (.bool (decide (r.num < 0))) := b3.at_ 0
  have k1 : W3.cell? ⟨w.heap.size, 1, none⟩ = some (.slice A4 n4 c4) := b3.at_ 1
  have k2 : W3.cell? ⟨w.heap.size, 2, none⟩ = some (.slice B4 m4 d4) := b3.at_ 2
  refine bodyPost_ret (v := .agg #[.bool (decide (r.num < 0)), .slice A4 n4 c4, .slice B4 m4 d4]) (by simp [results, Tryd.results12, go_sem, k0, k1, k2]) rfl ?_
  exact ⟨A4, n4, c4, B4, m4, d4, rfl, C3 _ _ _ _ h4, C3 _ _ _ _ i4, B3 _ _ hbA (Nat.le_refl _)⟩
end Go.Proofs.YtanhofmgapbjfaaDoor
