/- The contract of natural.Gcd at naturals of a limit. -/
import Derived.Test.YtoeknkakdoemfaaGreatDoorBaseM
import Derived.Test.YtoeknkakdoemfaaGreatDoorGcd
namespace Go.Proofs.YtoeknkakdoemfaaGreatDoor
open Go Go.RowKit

section
variable {L : Nat} {A : Option Addr} {n c u : Nat} {A' : Option Addr} {m d v : Nat} {w : World}
theorem gcd_n (hA : Nt w L A n c u) (hB : Nt w L A' m d v) (hL : L ≤ 100000) (T : Nat) (h : Nat.gcd u v = T) :
    Calls Tryz.prog 41 #[.agg #[.slice A n c], .agg #[.slice A' m d]] w (GivesN T w) := by
  obtain ⟨xs, h1, h2, h3, h4, h5, h6⟩ := hA
  obtain ⟨ys, i1, i2, i3, i4, i5, i6⟩ := hB
  exact gcd_any A n c xs A' m d ys w h1 h2 h3 (by omega) h5 i1 i2 i3 (by omega) i5 T (by rw [h6, i6]; exact h)
end
end Go.Proofs.YtoeknkakdoemfaaGreatDoor
