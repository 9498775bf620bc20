/- What every row of this seat asks of a world: the three tables. And a world that has them. -/
import Derived.Test.YtjmiaodjapclbaaDoorRows
import Derived.Test.YtjmiaodjapclbaaDoorBaseD
import Derived.WalkKit
import Derived.ProofKit
import Derived.OpenShut
import Derived.Deep.DeepHandedRow
import Derived.Lib.LaidTab
import Derived.LaidSub
namespace Go.Proofs.YtjmiaodjapclbaaDoor
open Go Go.ChangeShapes Go.WideShapes Go.ChangeAt Go.RowKit

theorem own : ownKnob Tryd.prog.godebug = none := by kernel_rfl

def tens : List Int := [1, 10, 100, 1000, 10000, 100000, 1000000, 10000000, 100000000, 1000000000, 10000000000, 100000000000, 1000000000000, 10000000000000, 100000000000000, 1000000000000000, 10000000000000000, 100000000000000000, 1000000000000000000, 10000000000000000000]

/-- the list of every row -/
def three : List (String × DataW Unit) := Rows.countingProductsRow.laid
theorem three_eq : three = [("math/bits.deBruijn32tab", Rows.laid_math_bits_deBruijn32tab), ("math/bits.deBruijn64tab", Rows.laid_math_bits_deBruijn64tab), ("internal/strconv.uint64pow10", Rows.laid_internal_strconv_uint64pow10)] := rfl

def isTens (x : String × DataW Unit) : Bool := match x.2 with
  | .agg l => l.length == 20
  | _ => false
theorem three_tens : three.filter isTens = [("internal/strconv.uint64pow10", Lib.tabData .u64 tens)] := by rw [three_eq]; rfl

theorem gTab : Tryd.prog.globalNamed "internal/strconv.uint64pow10" = some 0 := by kernel_rfl

theorem tens_at : ∀ k < 20, tens.getD k 0 = ((10 ^ k : Nat) : Int) := by decide

theorem gTabType : (Tryd.prog.globals[0]?).map (·.type) = some 82 := by kernel_rfl
theorem cellsTab : Tryd.prog.cellsOf 82 = 20 := by kernel_rfl
theorem cellsU64 : Tryd.prog.cellsOf 44 = 1 := by kernel_rfl

/-- what the list gives: the table of the powers of ten -/
theorem tab_of {W : World} (h : laidMetH Tryd.prog three W) : Tab W := by
  have h' := h.filter isTens
  rw [three_tens] at h'
  have ht : Lib.TabIs Tryd.prog W "internal/strconv.uint64pow10" .u64 tens :=
    Lib.tabIs_of_head (rest := []) gTab gTabType Tryd.underlying82 Tryd.underlying44 cellsU64 cellsTab h'
  intro k hk
  rw [← tens_at k hk]
  exact ht.cell gTab k hk

def litOf : DataW Unit → Value
  | .lit (.int k n) => .int k n
  | _ => .bool false
def cellsIn : DataW Unit → Array Value
  | .agg l => (l.map litOf).toArray
  | _ => #[]
/-- put the cells into block g -/
def laysAt (d : DataW Unit) (g : Nat) (w : World) : World := { w with heap := w.heap.modify g fun
      | .cells _ t frozen => .cells (cellsIn d) t frozen
      | o => o }
/-- a world for the witness: the settled one, the three tables as their initialisers lay them -/
noncomputable def laidWorld (os : Os) : World :=
  laysAt Rows.laid_math_bits_deBruijn32tab 1 (laysAt Rows.laid_math_bits_deBruijn64tab 2 (laysAt Rows.laid_internal_strconv_uint64pow10 0 (World.holding Tryd.prog os ⟨#[], #[], []⟩)))
end Go.Proofs.YtjmiaodjapclbaaDoor
