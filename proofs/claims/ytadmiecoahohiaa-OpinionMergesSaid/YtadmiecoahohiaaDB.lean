/- slices.BinarySearchFunc at decisions and at marks. -/
import Derived.Test.YtadmiecoahohiaaDC
import Derived.Deep.LoopGhost
import Derived.IntWalk
namespace Go.Proofs.Ytadmiecoahohiaa
open Go Go.RowKit Go.Lib
theorem or2_lt {x y : Mk} (hx : vM x = true) (hy : vM y = true) : (cmpM x y < 0 ↔ x.key < y.key) ∧ (cmpM x y = 0 ↔ x.key = y.key) := by
  rw [vM_true] at hx hy
  unfold cmpM or2 cI Mk.key
  constructor
  · split <;> split <;> (try split) <;> (try split) <;> omega
  · split <;> split <;> (try split) <;> (try split) <;> omega
theorem wrap_lh {lo hi : Nat} (h : lo + hi ≤ 2000) : wrap64 ((lo : Int) + (hi : Int)) = (lo : Int) + (hi : Int) := by unfold wrap64; omega
theorem wrap_lhU {lo hi : Nat} (h : lo + hi ≤ 2000) : IntKind.u64.wrap ((lo : Int) + (hi : Int)) = (lo : Int) + (hi : Int) := IntWalk.u64_in _ (by omega)
/-- one with this key is there -/
def fnd {α : Type} (κ : α → Int) (k : Int) (l : List α) : Bool := decide (∃ y, l[cnt κ k l]? = some y ∧ κ y = k)
end Go.Proofs.Ytadmiecoahohiaa
