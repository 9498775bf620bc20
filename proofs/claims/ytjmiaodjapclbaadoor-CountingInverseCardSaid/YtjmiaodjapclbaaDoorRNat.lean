/- The contracts of the reference's naturals at naturals of a limit. -/
import Derived.Test.YtjmiaodjapclbaaDoorNatN
import Derived.Test.YtjmiaodjapclbaaDoorRCmp
import Derived.Test.YtjmiaodjapclbaaDoorRAdd
import Derived.Test.YtjmiaodjapclbaaDoorRSub
import Derived.Test.YtjmiaodjapclbaaDoorRMul
namespace Go.Proofs.YtjmiaodjapclbaaDoor
open Go Go.RowKit

section
variable {L : Nat} {A : Option Addr} {n c u : Nat} {A' : Option Addr} {m d v : Nat} {w : World}
theorem rcmp_n (hA : Nt w L A n c u) (hB : Nt w L A' m d v) (hL : L ≤ 100000) (r : Int) (h : cmpI u v = r) :
    Calls Tryd.prog 52 #[.agg #[.slice A n c], .agg #[.slice A' m d]] w fun e w' => e = .returned (.int .i64 r) ∧ Below w.heap.size w w' := by
  obtain ⟨xs, h1, h2, h3, h4, h5, h6⟩ := hA
  obtain ⟨ys, i1, i2, i3, i4, i5, i6⟩ := hB
  exact rcmp_any A n c xs A' m d ys w h1 h2 h3 (by omega) h5 i1 i2 i3 (by omega) i5 u v h6 i6 r h
theorem rmul_n (hA : Nt w L A n c u) (hB : Nt w L A' m d v) (hL : L ≤ 100000) (T : Nat) (h : u * v = T) :
    Calls Tryd.prog 43 #[.agg #[.slice A n c], .agg #[.slice A' m d]] w (GivesN T w) := by
  obtain ⟨xs, h1, h2, h3, h4, h5, h6⟩ := hA
  obtain ⟨ys, i1, i2, i3, i4, i5, i6⟩ := hB
  exact rmul_any A n c xs A' m d ys w h1 h2 h3 (by omega) h5 i1 i2 i3 (by omega) i5 u v h6 i6 T h
theorem radd_n (hA : Nt w L A n c u) (hB : Nt w L A' m d v) (hL : L ≤ 100000) (T : Nat) (h : u + v = T) :
    Calls Tryd.prog 48 #[.agg #[.slice A n c], .agg #[.slice A' m d]] w (GivesN T w) := by
  obtain ⟨xs, h1, h2, h3, h4, h5, h6⟩ := hA
  obtain ⟨ys, i1, i2, i3, i4, i5, i6⟩ := hB
  exact radd_any A n c xs A' m d ys w h1 h2 h3 (by omega) h5 i1 i2 i3 (by omega) i5 u v h6 i6 T h
theorem rsub_n (hA : Nt w L A n c u) (hB : Nt w L A' m d v) (hL : L ≤ 100000) (T : Nat) (h : u - v = T) (hle : v ≤ u) :
    Calls Tryd.prog 53 #[.agg #[.slice A n c], .agg #[.slice A' m d]] w (GivesNE T 0 w) := by
  obtain ⟨xs, h1, h2, h3, h4, h5, h6⟩ := hA
  obtain ⟨ys, i1, i2, i3, i4, i5, i6⟩ := hB
  exact rsub_g A n c xs A' m d ys w h1 h2 h3 (by omega) h5 i1 i2 i3 (by omega) i5 u v h6 i6 T 0 h (if_neg (by omega))
end
end Go.Proofs.YtjmiaodjapclbaaDoor
