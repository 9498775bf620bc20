/- Words for boxes: a block of known cells. -/
import Derived.Test.YtadmiecoahohiaaMem
namespace Go.Proofs.Ytadmiecoahohiaa
open Go Go.RowKit

/-- Block g is just these cells. -/
def Box (w : World) (g : Nat) (vs : Array Value) (t : TypeId) : Prop := w.heap[g]? = some (.cells vs t (0, 0))
section
variable {w w' : World} {g B : Nat} {vs : Array Value} {t : TypeId} {v : Value}
theorem Box.lt (h : Box w g vs t) : g < w.heap.size := by
  rcases Nat.lt_or_ge g w.heap.size with hlt | hge
  · exact hlt
  · unfold Box at h; rw [Array.getElem?_eq_none hge] at h; cases h
theorem Box.at_ (h : Box w g vs t) (j : Nat) : w.cell? ⟨g, j, none⟩ = vs[j]? := cell_of_row w g j _ t (0, 0) h
theorem Box.cell (h : Box w g #[v] t) : w.cell? ⟨g, 0, none⟩ = some v := by rw [h.at_ 0]; rfl
theorem Box.frozen (h : Box w g vs t) (j : Nat) : w.frozen? ⟨g, j, none⟩ = false := frozen_of_row w g j _ t h
theorem Box.below (h : Box w g vs t) (hb : Below B w w') (hg : g < B) : Box w' g vs t := (hb.block g hg).trans h
theorem Box.below' (h : Box w g vs t) (hb : Below w.heap.size w w') : Box w' g vs t := h.below hb h.lt
theorem Box.far (h : Box w g vs t) {p : Addr} (hp : g ≠ p.block) (u : Value) : Box (w.setCell p u) g vs t := (Below.heap_setCell w p u g hp).trans h
theorem Box.set_ (h : Box w g vs t) (i : Nat) (u : Value) : Box (w.setCell ⟨g, i, none⟩ u) g (vs.setIfInBounds i u) t := by
  unfold Box at h ⊢
  simp [World.setCell, Array.getElem?_modify, h]
theorem Box.put (h : Box w g #[v] t) (u : Value) : Box (w.setCell ⟨g, 0, none⟩ u) g #[u] t := by
  have := h.set_ 0 u
  simpa using this
theorem Box.drewN (h : Box w g vs t) (m : Nat) : Box (w.drewN m) g vs t := h
theorem Box.alloc (h : Box w g vs t) (o : Obj) : Box (w.alloc o) g vs t := (Below.heap_alloc w o g h.lt).trans h
theorem Box.new (w : World) (vs : Array Value) (t : TypeId) : Box (w.alloc (.cells vs t)) w.heap.size vs t := heap_alloc_new w _
end
/-- no cell of a block of other things reads as a number -/
theorem RL.box {w : World} {k : IntKind} {A : Option Addr} {n : Nat} {xs : List Nat} {g i : Nat} {vs : Array Value} {t : TypeId} (h : RL w k A n xs) (hg : Box w g vs t) (hv : ∀ (j : Nat) (x : Int), vs[j]? ≠ some (Value.int k x)) (u : Value) : RL (w.setCell ⟨g, i, none⟩ u) k A n xs := by
  refine ⟨h.1, fun hn => ?_⟩
  obtain ⟨b, o, e, hc⟩ := h.2 hn
  have hne : b ≠ g := by
    rintro rfl
    have hl : 0 < xs.length := by have := h.1; omega
    have := hc 0 xs[0] (List.getElem?_eq_getElem hl)
    rw [hg.at_] at this
    exact hv _ _ this
  exact ⟨b, o, e, fun j x hx => (World.cell?_of_block (a := ⟨b, o + j, none⟩) (Below.heap_setCell w ⟨g, i, none⟩ u b hne)).trans (hc j x hx)⟩
theorem no_int1 {S : Option Addr} {m c : Nat} {k : IntKind} : ∀ (j : Nat) (x : Int), (#[Value.slice S m c] : Array Value)[j]? ≠ some (.int k x) := by
  intro j x h
  rcases j with _ | j
  · simp at h
  · simp at h
theorem RL.put {w : World} {k : IntKind} {A : Option Addr} {n : Nat} {xs : List Nat} {g i : Nat} {S : Option Addr} {m c : Nat} {t : TypeId} (h : RL w k A n xs) (hg : Box w g #[.slice S m c] t) (u : Value) : RL (w.setCell ⟨g, i, none⟩ u) k A n xs := h.box hg no_int1 u

theorem boxes1 {w W : World} {v0 : Value} {t0 : TypeId} (hW : w.alloc (.cells #[v0] t0) = W) : Below w.heap.size w W ∧ Box W w.heap.size #[v0] t0 ∧ W.heap.size = w.heap.size + 1 := by
  subst hW
  exact ⟨(Below.refl _ _).alloc (Nat.le_refl _) _, Box.new _ _ _, by simp⟩
theorem boxes2 {w W : World} {v0 v1 : Value} {t0 t1 : TypeId} (hW : (w.alloc (.cells #[v0] t0)).alloc (.cells #[v1] t1) = W) :
    Below w.heap.size w W ∧ Box W w.heap.size #[v0] t0 ∧ Box W (w.heap.size + 1) #[v1] t1 ∧ W.heap.size = w.heap.size + 2 := by
  obtain ⟨a, b, c⟩ := boxes1 (rfl : w.alloc (.cells #[v0] t0) = _)
  generalize w.alloc (.cells #[v0] t0) = V at *
  subst hW
  refine ⟨a.alloc (by omega) _, b.alloc _, ?_, by simp; omega⟩
  rw [← c]; exact Box.new _ _ _
theorem boxes3 {w W : World} {v0 v1 v2 : Value} {t0 t1 t2 : TypeId} (hW : ((w.alloc (.cells #[v0] t0)).alloc (.cells #[v1] t1)).alloc (.cells #[v2] t2) = W) :
    Below w.heap.size w W ∧ Box W w.heap.size #[v0] t0 ∧ Box W (w.heap.size + 1) #[v1] t1 ∧ Box W (w.heap.size + 2) #[v2] t2 ∧ W.heap.size = w.heap.size + 3 := by
  obtain ⟨a, b, b', c⟩ := boxes2 (rfl : (w.alloc (.cells #[v0] t0)).alloc (.cells #[v1] t1) = _)
  generalize (w.alloc (.cells #[v0] t0)).alloc (.cells #[v1] t1) = V at *
  subst hW
  refine ⟨a.alloc (by omega) _, b.alloc _, b'.alloc _, ?_, by simp; omega⟩
  rw [← c]; exact Box.new _ _ _
theorem boxes4 {w W : World} {v0 v1 v2 v3 : Value} {t0 t1 t2 t3 : TypeId} (hW : (((w.alloc (.cells #[v0] t0)).alloc (.cells #[v1] t1)).alloc (.cells #[v2] t2)).alloc (.cells #[v3] t3) = W) :
    Below w.heap.size w W ∧ Box W w.heap.size #[v0] t0 ∧ Box W (w.heap.size + 1) #[v1] t1 ∧ Box W (w.heap.size + 2) #[v2] t2 ∧ Box W (w.heap.size + 3) #[v3] t3 ∧ W.heap.size = w.heap.size + 4 := by
  obtain ⟨a, b, b', b'', c⟩ := boxes3 (rfl : ((w.alloc (.cells #[v0] t0)).alloc (.cells #[v1] t1)).alloc (.cells #[v2] t2) = _)
  generalize ((w.alloc (.cells #[v0] t0)).alloc (.cells #[v1] t1)).alloc (.cells #[v2] t2) = V at *
  subst hW
  refine ⟨a.alloc (by omega) _, b.alloc _, b'.alloc _, b''.alloc _, ?_, by simp; omega⟩
  rw [← c]; exact Box.new _ _ _
theorem Below.drewS {w W : World} (h : Below w.heap.size w W) : Below w.heap.size w W.drew := h.drew
theorem Below.allocS {w W : World} (h : Below w.heap.size w W) (o : Obj) : Below w.heap.size w (W.alloc o) := h.alloc h.size o
theorem Below.setS {w W : World} (h : Below w.heap.size w W) {g i : Nat} (hg : w.heap.size ≤ g) (v : Value) : Below w.heap.size w (W.setCell ⟨g, i, none⟩ v) := h.setCell hg v
theorem Below.next {w W W' : World} (h : Below w.heap.size w W) (hx : Below W.heap.size W W') : Below w.heap.size w W' := h.trans (hx.mono h.size)
end Go.Proofs.Ytadmiecoahohiaa
