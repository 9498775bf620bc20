/- Small laws with which the ways through a drawn region that makes naturals' variables are closed. -/
import Derived.Test.YtjmiaodjapclbaaDoorNatN
namespace Go.Proofs.YtjmiaodjapclbaaDoor
open Go Go.RowKit

theorem Below.drewS {w W : World} (h : Below w.heap.size w W) : Below w.heap.size w W.drew := h.drew
theorem Below.allocS {w W : World} (h : Below w.heap.size w W) (o : Obj) : Below w.heap.size w (W.alloc o) := h.alloc h.size o
theorem Below.setS {w W : World} (h : Below w.heap.size w W) {g i : Nat} (hg : w.heap.size ≤ g) (v : Value) : Below w.heap.size w (W.setCell ⟨g, i, none⟩ v) := h.setCell hg v
theorem Below.next {w W W' : World} (h : Below w.heap.size w W) (hx : Below W.heap.size W W') : Below w.heap.size w W' := h.trans (hx.mono h.size)
theorem Box.drewS {w : World} {g : Nat} {vs : Array Value} {t : TypeId} (h : Box w g vs t) : Box w.drew g vs t := h
section
variable {w w' : World} {g h i : Nat} {vs : Array Value} {t t' : TypeId} {S A : Option Addr} {s s' n c m d u L : Nat}
theorem Box.newE (w : World) (vs : Array Value) (t : TypeId) (e : g = w.heap.size) : Box (w.alloc (.cells vs t)) g vs t := by
  subst e; exact Box.new w vs t
theorem Box.far1 (b : Box w h vs t) (e : h ≠ g) (x : Value) : Box (w.setCell ⟨g, 0, none⟩ x) h vs t := b.far e _
theorem Box.put1 (b : Box w g #[.slice S s s'] t) : Box (w.setCell ⟨g, 0, none⟩ (.slice A n c)) g #[.slice A n c] t := b.put _
theorem Cn.drewS (q : Cn w A n c u) : Cn w.drew A n c u := q
theorem Cn.allocS (q : Cn w A n c u) (o : Obj) : Cn (w.alloc o) A n c u := q.below ((Below.refl _ _).alloc (Nat.le_refl _) _)
theorem Cn.far1 (q : Cn w A n c u) (b : Box w g #[.slice S s s'] t) (x : Value) : Cn (w.setCell ⟨g, 0, none⟩ x) A n c u := q.far b noInt1 _
end
section
variable {w : World} {g : Nat} {A B : Option Addr} {n c m d u : Nat}
theorem Box.put1z (b : Box w g #[.slice none 0 0] 25) : Box (w.setCell ⟨g, 0, none⟩ (.slice A n c)) g #[.slice A n c] 25 := b.put _
theorem Cn.far1z (q : Cn w A n c u) (b : Box w g #[.slice none 0 0] 25) (x : Value) : Cn (w.setCell ⟨g, 0, none⟩ x) A n c u := q.far b noInt1 _
end
/-- a natural of the value u in a new box that a slot points to -/
def MadeN (W : World) (u : Nat) (s : Value) (wx : World) : Prop :=
  ∃ g A n c, s = .pointer (some ⟨g, 0, none⟩) ∧ W.heap.size ≤ g ∧ Box wx g #[.slice A n c] 25 ∧ Cn wx A n c u
end Go.Proofs.YtjmiaodjapclbaaDoor
