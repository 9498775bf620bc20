/- What every row of this seat asks of a world: three tables and two errors. And a world that has them. -/
import Derived.Test.YtihadabaehcmiaaDoorRows
import Derived.Test.YtihadabaehcmiaaDoorYText
import Derived.WalkKit
import Derived.ProofKit
import Derived.OpenShut
import Derived.Deep.DeepHandedRow
import Derived.Deep.DeepWitnessRowRef
import Derived.Lib.LaidTab
import Derived.LaidSub
import Derived.Stop.LaidErr
namespace Go.Proofs.YtihadabaehcmiaaDoor
open Go Go.ChangeShapes Go.WideShapes Go.ChangeAt Go.RowKit

theorem own : ownKnob Tryd.prog.godebug = none := by kernel_rfl
theorem laidOut : laidOutB Tryd.prog = true := by kernel_rfl

/-- the list of every row -/
def five : List (String × DataW Unit) := Rows.yearsOrdersRow.laid
theorem five_eq : five = [("math/bits.deBruijn32tab", Rows.laid_math_bits_deBruijn32tab), ("math/bits.deBruijn64tab", Rows.laid_math_bits_deBruijn64tab), ("internal/strconv.uint64pow10", Rows.laid_internal_strconv_uint64pow10), ("strconv.ErrRange", Rows.laid_strconv_ErrRange), ("strconv.ErrSyntax", Rows.laid_strconv_ErrSyntax)] := rfl

def isTens (x : String × DataW Unit) : Bool := match x.2 with
  | .agg l => l.length == 20
  | _ => false
def isErr (x : String × DataW Unit) : Bool := match x.2 with
  | .iface _ _ => true
  | _ => false
theorem five_tens : five.filter isTens = [("internal/strconv.uint64pow10", Lib.tabData .u64 Lib.pow10Tab)] := by rw [five_eq]; rfl
theorem five_errs : five.filter isErr = [("strconv.ErrRange", Rows.laid_strconv_ErrRange), ("strconv.ErrSyntax", Rows.laid_strconv_ErrSyntax)] := by rw [five_eq]; rfl
theorem five_handles : (five.filter isErr).filter (fun x => x.2.handleName?.isNone) = five.filter isErr := by rw [five_errs]; rfl

theorem gTabType : (Tryd.prog.globals[3]?).map (·.type) = some 123 := by kernel_rfl
theorem gSynType : (Tryd.prog.globals[1]?).map (·.type) = some 64 := by kernel_rfl
theorem gRngType : (Tryd.prog.globals[2]?).map (·.type) = some 64 := by kernel_rfl
theorem cellsTab : Tryd.prog.cellsOf 123 = 20 := by kernel_rfl
theorem cellsU64 : Tryd.prog.cellsOf 72 = 1 := by kernel_rfl
theorem cellsStr : Tryd.prog.cellsOf 9 = 1 := by kernel_rfl
theorem cellsErr : Tryd.prog.cellsOf 130 = 1 := by kernel_rfl
theorem rowErr (u : TypeId) (h : Tryd.prog.typeName? 3 u = some "*errors.errorString") : u = 128 :=
  typeName_ptr_named (nm := "errors.errorString") (by kernel_rfl) (by kernel_rfl) (by decide) u h

theorem lw_of {W : World} (h : laidMetH Tryd.prog five W) (hs : W.ShapedOpen Tryd.prog) : Lw W := by
  have h' := h.filter isTens
  rw [five_tens] at h'
  have ht : Lib.TabIs Tryd.prog W "internal/strconv.uint64pow10" .u64 Lib.pow10Tab :=
    Lib.tabIs_of_head (rest := []) gPow gTabType Tryd.underlying123 Tryd.underlying72 cellsU64 cellsTab h'
  have he := (laidMetH_iff.1 (h.filter isErr)).1
  rw [five_handles, five_errs] at he
  obtain ⟨a1, s1, h1, -⟩ := laid_sentinel he gRng gRngType Tryd.underlying64 rowErr Tryd.underlying128 Tryd.underlying130 rfl rfl Tryd.underlying9 cellsErr cellsStr
  obtain ⟨a2, s2, h2, -⟩ := laid_sentinel he.tail gSyn gSynType Tryd.underlying64 rowErr Tryd.underlying128 Tryd.underlying130 rfl rfl Tryd.underlying9 cellsErr cellsStr
  exact ⟨ht, ⟨_, _, h2⟩, ⟨_, _, h1⟩, Tryd.laysM145.s1_3 W hs⟩

def litOf : DataW Unit → Value
  | .lit (.int k n) => .int k n
  | _ => .bool false
def cellsIn : DataW Unit → Array Value
  | .agg l => (l.map litOf).toArray
  | _ => #[]
def textIn : DataW Unit → Value
  | .iface _ (.ptr (.agg [.lit (.string l)])) => .string ⟨l.toArray⟩
  | _ => .bool false
/-- put the cells into block g -/
def putAt (cs : Array Value) (g : Nat) (w : World) : World := { w with heap := w.heap.modify g fun
      | .cells _ t frozen => .cells cs t frozen
      | o => o }
/-- a world for the witness: the settled one, with what the initialisers lay -/
noncomputable def laidWorld (os : Os) : World :=
  let N := (World.settled Tryd.prog os).heap.size
  putAt #[.iface 128 (.pointer (some ⟨N, 0, none⟩))] 2 (putAt #[.iface 128 (.pointer (some ⟨N + 1, 0, none⟩))] 1
    (putAt (cellsIn Rows.laid_math_bits_deBruijn32tab) 4 (putAt (cellsIn Rows.laid_math_bits_deBruijn64tab) 5 (putAt (cellsIn Rows.laid_internal_strconv_uint64pow10) 3
      (World.holding Tryd.prog os ⟨#[.cells #[textIn Rows.laid_strconv_ErrRange] 130, .cells #[textIn Rows.laid_strconv_ErrSyntax] 130], #[], []⟩)))))
end Go.Proofs.YtihadabaehcmiaaDoor
