/- Small laws with which the ways through a drawn region that makes variables are closed. -/
import Derived.Test.YtoeknkakdoemfaaGreatDoorFSum
import Derived.Test.YtoeknkakdoemfaaGreatDoorRows
import Derived.Test.YtoeknkakdoemfaaGreatDoorBaseD
import Derived.WalkKit
import Derived.ProofKit
import Derived.OpenShut
import Derived.Deep.DeepHandedRow
import Derived.Lib.LaidTab
import Derived.LaidSub
import Derived.Test.YtoeknkakdoemfaaGreatDoorDec
namespace Go.Proofs.YtoeknkakdoemfaaGreatDoor
open Go Go.RowKit

section
variable {w w' : World} {g h i : Nat} {vs : Array Value} {t t' : TypeId} {p0 p : Bool} {S T A B : Option Addr} {s s' r r' n c m d u L : Nat}
theorem Box.newE (w : World) (vs : Array Value) (t : TypeId) (e : g = w.heap.size) : Box (w.alloc (.cells vs t)) g vs t := by
  subst e; exact Box.new w vs t
theorem Box.far3 (b : Box w h vs t) (e : h ≠ g) (x y z : Value) : Box (((w.setCell ⟨g, 0, none⟩ x).setCell ⟨g, 1, none⟩ y).setCell ⟨g, 2, none⟩ z) h vs t := ((b.far e _).far e _).far e _
theorem Box.put3 (b : Box w g #[.bool p0, .slice S s s', .slice T r r'] t) : Box (((w.setCell ⟨g, 0, none⟩ (.bool p)).setCell ⟨g, 1, none⟩ (.slice A n c)).setCell ⟨g, 2, none⟩ (.slice B m d)) g #[.bool p, .slice A n c, .slice B m d] t :=
  (Go.Proofs.YtoeknkakdoemfaaGreatDoor.put3 b rfl).1
theorem Box.far1 (b : Box w h vs t) (e : h ≠ g) (x : Value) : Box (w.setCell ⟨g, 0, none⟩ x) h vs t := b.far e _
theorem Box.put1 (b : Box w g #[.slice S s s'] t) : Box (w.setCell ⟨g, 0, none⟩ (.slice A n c)) g #[.slice A n c] t := b.put _
theorem Cn.drewS (q : Cn w A n c u) : Cn w.drew A n c u := q
theorem Cn.allocS (q : Cn w A n c u) (o : Obj) : Cn (w.alloc o) A n c u := q.below ((Below.refl _ _).alloc (Nat.le_refl _) _)
theorem Cn.far1 (q : Cn w A n c u) (b : Box w g #[.slice S s s'] t) (x : Value) : Cn (w.setCell ⟨g, 0, none⟩ x) A n c u := q.far b noInt1 _
theorem Cn.far3 (q : Cn w A n c u) (b : Box w g #[.bool p0, .slice S s s', .slice T r r'] t) (p : Bool) (A' : Option Addr) (n' c' : Nat) (B' : Option Addr) (m' d' : Nat) : Cn (((w.setCell ⟨g, 0, none⟩ (.bool p)).setCell ⟨g, 1, none⟩ (.slice A' n' c')).setCell ⟨g, 2, none⟩ (.slice B' m' d')) A n c u :=
  (put3 b rfl).2.2.1 _ _ _ _ q
end
section
variable {w : World} {g : Nat} {p : Bool} {A B : Option Addr} {n c m d u : Nat}
theorem Box.put1z (b : Box w g #[.slice none 0 0] 24) : Box (w.setCell ⟨g, 0, none⟩ (.slice A n c)) g #[.slice A n c] 24 := b.put _
theorem Box.put3z (b : Box w g #[.bool false, .slice none 0 0, .slice none 0 0] 26) : Box (((w.setCell ⟨g, 0, none⟩ (.bool p)).setCell ⟨g, 1, none⟩ (.slice A n c)).setCell ⟨g, 2, none⟩ (.slice B m d)) g #[.bool p, .slice A n c, .slice B m d] 26 :=
  (Go.Proofs.YtoeknkakdoemfaaGreatDoor.put3 b rfl).1
theorem Cn.far1z (q : Cn w A n c u) (b : Box w g #[.slice none 0 0] 24) (x : Value) : Cn (w.setCell ⟨g, 0, none⟩ x) A n c u := q.far b noInt1 _
theorem Cn.far3z (q : Cn w A n c u) (b : Box w g #[.bool false, .slice none 0 0, .slice none 0 0] 26) (p : Bool) (A' : Option Addr) (n' c' : Nat) (B' : Option Addr) (m' d' : Nat) : Cn (((w.setCell ⟨g, 0, none⟩ (.bool p)).setCell ⟨g, 1, none⟩ (.slice A' n' c')).setCell ⟨g, 2, none⟩ (.slice B' m' d')) A n c u :=
  (put3 b rfl).2.2.1 _ _ _ _ q
end
/-- a natural of the value u in a new box that a slot points to -/
def MadeN (W : World) (u : Nat) (s : Value) (wx : World) : Prop :=
  ∃ g A n c, s = .pointer (some ⟨g, 0, none⟩) ∧ W.heap.size ≤ g ∧ Box wx g #[.slice A n c] 24 ∧ Cn wx A n c u
end Go.Proofs.YtoeknkakdoemfaaGreatDoor

/- What every row of this seat asks of a world: the three tables. And a world that has them. -/
namespace Go.Proofs.YtoeknkakdoemfaaGreatDoor
open Go Go.ChangeShapes Go.WideShapes Go.ChangeAt Go.RowKit

theorem own : ownKnob Tryz.prog.godebug = none := by kernel_rfl

def tens : List Int := [1, 10, 100, 1000, 10000, 100000, 1000000, 10000000, 100000000, 1000000000, 10000000000, 100000000000, 1000000000000, 10000000000000, 100000000000000, 1000000000000000, 10000000000000000, 100000000000000000, 1000000000000000000, 10000000000000000000]

/-- the list of every row -/
def three : List (String × DataW Unit) := Rows.fractionMeansRow.laid
theorem three_eq : three = [("math/bits.deBruijn32tab", Rows.laid_math_bits_deBruijn32tab), ("math/bits.deBruijn64tab", Rows.laid_math_bits_deBruijn64tab), ("internal/strconv.uint64pow10", Rows.laid_internal_strconv_uint64pow10)] := rfl

def isTens (x : String × DataW Unit) : Bool := match x.2 with
  | .agg l => l.length == 20
  | _ => false
theorem three_tens : three.filter isTens = [("internal/strconv.uint64pow10", Lib.tabData .u64 tens)] := by rw [three_eq]; rfl

theorem gTab : Tryz.prog.globalNamed "internal/strconv.uint64pow10" = some 1 := by kernel_rfl

theorem tens_at : ∀ k < 20, tens.getD k 0 = ((10 ^ k : Nat) : Int) := by decide

theorem gTabType : (Tryz.prog.globals[1]?).map (·.type) = some 144 := by kernel_rfl
theorem cellsTab : Tryz.prog.cellsOf 144 = 20 := by kernel_rfl
theorem cellsU64 : Tryz.prog.cellsOf 70 = 1 := by kernel_rfl

/-- what the list gives: the table of the powers of ten -/
theorem tab_of {W : World} (h : laidMetH Tryz.prog three W) : Tab W := by
  have h' := h.filter isTens
  rw [three_tens] at h'
  have ht : Lib.TabIs Tryz.prog W "internal/strconv.uint64pow10" .u64 tens :=
    Lib.tabIs_of_head (rest := []) gTab gTabType Tryz.underlying144 Tryz.underlying70 cellsU64 cellsTab h'
  intro k hk
  rw [← tens_at k hk]
  exact ht.cell gTab k hk

def litOf : DataW Unit → Value
  | .lit (.int k n) => .int k n
  | _ => .bool false
def cellsIn : DataW Unit → Array Value
  | .agg l => (l.map litOf).toArray
  | _ => #[]
/-- put the cells into block g -/
def laysAt (d : DataW Unit) (g : Nat) (w : World) : World := { w with heap := w.heap.modify g fun
      | .cells _ t frozen => .cells (cellsIn d) t frozen
      | o => o }
/-- a world for the witness: the settled one, the three tables as their initialisers lay them -/
noncomputable def laidWorld (os : Os) : World :=
  laysAt Rows.laid_math_bits_deBruijn32tab 4 (laysAt Rows.laid_math_bits_deBruijn64tab 5 (laysAt Rows.laid_internal_strconv_uint64pow10 1 (World.holding Tryz.prog os ⟨#[], #[], []⟩)))
end Go.Proofs.YtoeknkakdoemfaaGreatDoor

/- Strings as lists of bytes. -/
namespace Go.Proofs.YtoeknkakdoemfaaGreatDoor
open Go Go.RowKit

/-- the bytes of a string -/
def bytesOf (s : ByteArray) : List Nat := s.data.toList.map UInt8.toNat
theorem bytesOf_length (s : ByteArray) : (bytesOf s).length = s.size := by simp [bytesOf]
theorem bytesOf_at (s : ByteArray) (k : Nat) (h : k < s.size) : (bytesOf s)[k]? = some s[k].toNat := by
  unfold bytesOf
  rw [List.getElem?_map, List.getElem?_eq_getElem (by simpa using h)]
  rfl
theorem bytesOf_lt (s : ByteArray) : ∀ x ∈ bytesOf s, x < 256 := by
  intro x hx
  unfold bytesOf at hx
  obtain ⟨y, _, rfl⟩ := List.mem_map.1 hx
  exact UInt8.toNat_lt y
theorem strN_bytesOf (s : ByteArray) : strN (bytesOf s) = s := by
  apply ByteArray.ext
  simp [strN, bytesOf, Function.comp_def]
theorem bytesOf_strN {l : List Nat} (h : ∀ x ∈ l, x < 256) : bytesOf (strN l) = l := by
  unfold bytesOf strN
  simp only [List.map_map]
  conv => rhs; rw [← List.map_id l]
  apply List.map_congr_left
  intro x hx
  have := h x hx
  simp [Nat.mod_eq_of_lt this]
theorem bytesOf_inj {s t : ByteArray} (h : bytesOf s = bytesOf t) : s = t := by rw [← strN_bytesOf s, h, strN_bytesOf]
theorem bytesOf_extract (s : ByteArray) (a b : Nat) : bytesOf (s.extract a b) = ((bytesOf s).take b).drop a := by
  unfold bytesOf
  rw [← List.map_take, ← List.map_drop]
  congr 1
  simp [ByteArray.data_extract, List.drop_take]
theorem AllDig.lt256 {l : List Nat} (h : AllDig l) : ∀ x ∈ l, x < 256 := fun x hx => by have := h x hx; omega

theorem bytesOf_append (a b : ByteArray) : bytesOf (a ++ b) = bytesOf a ++ bytesOf b := by
  unfold bytesOf
  rw [ByteArray.data_append, Array.toList_append, List.map_append]
end Go.Proofs.YtoeknkakdoemfaaGreatDoor
