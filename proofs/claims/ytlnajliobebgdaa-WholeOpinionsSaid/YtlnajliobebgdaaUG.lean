/- Finding a key, in the reference: at and find. -/
import Derived.Test.YtlnajliobebgdaaUF
namespace Go.Proofs.Ytlnajliobebgdaa
open Go Go.RowKit Go.Lib
theorem take_ne {α : Type} {κ : α → Int} {ys : List α} {j : Nat} {y : α} {k : Int} (h : ys[j]? = some y) (hn : ∀ e ∈ ys.take j, κ e ≠ k) (hk : κ y ≠ k) : ∀ e ∈ ys.take (j + 1), κ e ≠ k := by
  intro e he
  rw [take_next h] at he
  rcases List.mem_append.1 he with h1 | h1
  · exact hn e h1
  · rw [List.mem_singleton] at h1; rw [h1]; exact hk
/-- where find says that a change is -/
def Fnd (ys : List Chg) (k : Int) (v : Int) : Prop := (v = -1 ∧ hitC ys k = none) ∨ ∃ (j : Nat) (y : Chg), v = (j : Int) ∧ ys[j]? = some y ∧ y.k = k ∧ hitC ys k = some y
end Go.Proofs.Ytlnajliobebgdaa
