/- The contracts of package natural at naturals of a limit. -/
import Derived.Test.YtjmiaodjapclbaaDoorQuo
namespace Go.Proofs.YtjmiaodjapclbaaDoor
open Go Go.RowKit

section
variable {L : Nat} {A : Option Addr} {n c u : Nat} {A' : Option Addr} {m d v : Nat} {w : World}
theorem cmp_n (hA : Nt w L A n c u) (hB : Nt w L A' m d v) (hL : L ≤ 100000) (r : Int) (h : cmpI u v = r) :
    Calls Tryd.prog 32 #[.agg #[.slice A n c], .agg #[.slice A' m d]] w fun e w' => e = .returned (.int .i64 r) ∧ Below w.heap.size w w' := by
  obtain ⟨xs, h1, h2, h3, h4, h5, h6⟩ := hA
  obtain ⟨ys, i1, i2, i3, i4, i5, i6⟩ := hB
  exact cmp_g A n c xs A' m d ys w h1 h2 h3 (by omega) h5 i1 i2 i3 (by omega) i5 u v h6 i6 r h
theorem mul_n (hA : Nt w L A n c u) (hB : Nt w L A' m d v) (hL : L ≤ 100000) (T : Nat) (h : u * v = T) :
    Calls Tryd.prog 35 #[.agg #[.slice A n c], .agg #[.slice A' m d]] w (GivesN T w) := by
  obtain ⟨xs, h1, h2, h3, h4, h5, h6⟩ := hA
  obtain ⟨ys, i1, i2, i3, i4, i5, i6⟩ := hB
  exact mul_g A n c xs A' m d ys w h1 h2 h3 (by omega) h5 i1 i2 i3 (by omega) i5 u v T h6 i6 h
theorem add_n (hA : Nt w L A n c u) (hB : Nt w L A' m d v) (hL : L ≤ 100000) (T : Nat) (h : u + v = T) :
    Calls Tryd.prog 33 #[.agg #[.slice A n c], .agg #[.slice A' m d]] w (GivesN T w) := by
  obtain ⟨xs, h1, h2, h3, h4, h5, h6⟩ := hA
  obtain ⟨ys, i1, i2, i3, i4, i5, i6⟩ := hB
  exact add_g A n c xs A' m d ys w h1 h2 h3 (by omega) h5 i1 i2 i3 (by omega) i5 u v T h6 i6 h
theorem sub_n (hA : Nt w L A n c u) (hB : Nt w L A' m d v) (hL : L ≤ 100000) (T : Nat) (h : u - v = T) (hle : v ≤ u) :
    Calls Tryd.prog 50 #[.agg #[.slice A n c], .agg #[.slice A' m d]] w (GivesNE T 0 w) := by
  obtain ⟨xs, h1, h2, h3, h4, h5, h6⟩ := hA
  obtain ⟨ys, i1, i2, i3, i4, i5, i6⟩ := hB
  exact sub_g A n c xs A' m d ys w h1 h2 h3 (by omega) h5 i1 i2 i3 (by omega) i5 u v h6 i6 T 0 h (if_neg (by omega))
theorem div_n (hA : Nt w L A n c u) (hB : Nt w L A' m d v) (hL : L ≤ 100000) (hv : v ≠ 0) (q r : Nat) (hq : u / v = q) (hr : u % v = r) :
    Calls Tryd.prog 63 #[.agg #[.slice A n c], .agg #[.slice A' m d]] w (GivesDM q r 0 w) := by
  obtain ⟨xs, h1, h2, h3, h4, h5, h6⟩ := hA
  obtain ⟨ys, i1, i2, i3, i4, i5, i6⟩ := hB
  have := divMod_nz A n c xs A' m d ys w h1 h2 h3 (by omega) h5 i1 i2 i3 (by omega) i5 (by rw [i6]; exact hv)
  rw [h6, i6, hq, hr] at this
  exact this
end
/-- what a call of package natural gives, as a canonical natural -/
theorem GivesN.cn {u : Nat} {w w' : World} {e : Ending} (h : GivesN u w e w') : ∃ A n c, e = .returned (.agg #[.slice A n c]) ∧ Cn w' A n c u ∧ Below w.heap.size w w' := by
  obtain ⟨A, n, c, h1, h2, h3, h4, h5⟩ := h
  exact ⟨A, n, c, h1, ⟨h2, h3, h4⟩, h5⟩
theorem GivesNE.cn {u : Nat} {er : Int} {w w' : World} {e : Ending} (h : GivesNE u er w e w') : ∃ A n c, e = .returned (.tuple #[.agg #[.slice A n c], .int .i64 er]) ∧ Cn w' A n c u ∧ Below w.heap.size w w' := by
  obtain ⟨A, n, c, h1, h2, h3, h4, h5⟩ := h
  exact ⟨A, n, c, h1, ⟨h2, h3, h4⟩, h5⟩
theorem GivesDM.cn {u v : Nat} {er : Int} {w w' : World} {e : Ending} (h : GivesDM u v er w e w') :
    ∃ A n c B m d, e = .returned (.tuple #[.agg #[.slice A n c], .agg #[.slice B m d], .int .i64 er]) ∧ Cn w' A n c u ∧ Cn w' B m d v ∧ Below w.heap.size w w' := by
  obtain ⟨A, n, c, B, m, d, h1, h2, h3, h4, h5, h6, h7, h8⟩ := h
  exact ⟨A, n, c, B, m, d, h1, ⟨h2, h3, h4⟩, ⟨h5, h6, h7⟩, h8⟩
end Go.Proofs.YtjmiaodjapclbaaDoor
