/- Words for memory: a slice of integers that reads as a list of numbers; a block of the call's own. -/
import Derived.WalkKit
import Derived.Below
import Derived.Laws.OwnMore
import Derived.Deep.Draws
import Derived.Laws.Rows
import Derived.Maps.AppendAt
import Derived.OwnWalk
import Derived.Test.YtadmiecoahohiaaNum
namespace Go.Proofs.Ytadmiecoahohiaa
open Go Go.RowKit

theorem alloc_heap (w : World) (o : Obj) : (w.alloc o).heap = w.heap.push o := rfl
theorem hide {p : Prop} (h : p) : Hid p := h
theorem ret_slice {a b : Nat} {A : Option Addr} {c : Nat} (h : a = b) : Ending.returned (.slice A a c) = .returned (.slice A b c) := by rw [h]
theorem ret_int {k : IntKind} {a b : Int} (h : a = b) : Ending.returned (.int k a) = .returned (.int k b) := by rw [h]

/-- The cells of a list of numbers. -/
def cells (k : IntKind) (xs : List Nat) : List Value := xs.map (fun x : Nat => Value.int k (x : Int))
theorem cells_getElem? (k : IntKind) (xs : List Nat) (j : Nat) : (cells k xs)[j]? = (xs[j]?).map (fun x : Nat => Value.int k (x : Int)) := by simp [cells]
theorem cells_length (k : IntKind) (xs : List Nat) : (cells k xs).length = xs.length := by simp [cells]
theorem cells_append (k : IntKind) (xs ys : List Nat) : cells k (xs ++ ys) = cells k xs ++ cells k ys := by simp [cells]
theorem cells_one (k : IntKind) (xs : List Nat) : ∀ u ∈ cells k xs, u.oneCell' = true := by
  intro u hu
  obtain ⟨x, _, rfl⟩ := List.mem_map.1 hu
  rfl

/-- The slice value '.slice A n c' reads as the numbers xs. -/
def RL (w : World) (k : IntKind) (A : Option Addr) (n : Nat) (xs : List Nat) : Prop :=
  xs.length = n ∧ (0 < n → ∃ b o, A = some ⟨b, o, none⟩ ∧ ∀ j x : Nat, xs[j]? = some x → w.cell? ⟨b, o + j, none⟩ = some (.int k (x : Int)))
/-- The slice does not lie in block g. -/
def Sp (A : Option Addr) (n g : Nat) : Prop := 0 < n → ∀ b o, A = some ⟨b, o, none⟩ → b ≠ g
/-- Block g is just these numbers. -/
def Own (w : World) (g : Nat) (k : IntKind) (t : TypeId) (xs : List Nat) : Prop := w.heap[g]? = some (.cells (cells k xs).toArray t (0, 0))

section
variable {w w' : World} {B n g : Nat} {k : IntKind} {A : Option Addr} {xs : List Nat} {t : TypeId}
theorem RL.len (h : RL w k A n xs) : xs.length = n := h.1
theorem RL.nil_ : RL w k A 0 [] := ⟨rfl, fun h => absurd h (by omega)⟩
theorem RL.zero (h : xs = []) (hn : n = 0) : RL w k A n xs := by subst h; subst hn; exact RL.nil_
theorem RL.at_ {j : Nat} (h : RL w k A n xs) (hj : j < n) : ∃ b o x, A = some ⟨b, o, none⟩ ∧ xs[j]? = some x ∧ w.cell? ⟨b, o + j, none⟩ = some (.int k (x : Int)) := by
  obtain ⟨b, o, e, hc⟩ := h.2 (by omega)
  have hl : j < xs.length := by have := h.1; omega
  exact ⟨b, o, xs[j], e, List.getElem?_eq_getElem hl, hc j _ (List.getElem?_eq_getElem hl)⟩
/-- the same, the address known already -/
theorem RL.cell {b o j : Nat} (h : RL w k (some ⟨b, o, none⟩) n xs) (hj : j < n) : ∃ x, xs[j]? = some x ∧ w.cell? ⟨b, o + j, none⟩ = some (.int k (x : Int)) := by
  obtain ⟨b', o', x, e, hx, hc⟩ := h.at_ hj
  injection e with e; injection e with e1 e2; subst e1; subst e2
  exact ⟨x, hx, hc⟩
theorem RL.lt (h : RL w k A n xs) (hn : 0 < n) : ∀ b o, A = some ⟨b, o, none⟩ → b < w.heap.size := by
  intro b o e
  subst e
  obtain ⟨x, _, hc⟩ := h.cell hn
  exact World.block_lt_of_cell? w ⟨b, o + 0, none⟩ hc
theorem RL.keep (h : RL w k A n xs) (hk : ∀ p : Addr, p.block < w.heap.size → w'.cell? p = w.cell? p) : RL w' k A n xs :=
  ⟨h.1, fun hn => by
    obtain ⟨b, o, e, hc⟩ := h.2 hn
    have hb := h.lt hn b o e
    exact ⟨b, o, e, fun j u hu => (hk _ hb).trans (hc j u hu)⟩⟩
theorem RL.below (h : RL w k A n xs) (hb : Below w.heap.size w w') : RL w' k A n xs := h.keep fun _ hp => hb.cell hp
theorem RL.drewN (h : RL w k A n xs) (m : Nat) : RL (w.drewN m) k A n xs := h
theorem RL.sp (h : RL w k A n xs) (hg : w.heap.size ≤ g) : Sp A n g := fun hn b o e => by have := h.lt hn b o e; omega
theorem RL.grown (h : RL w k A n xs) (hg : w.grownBy w' (some g)) (hs : Sp A n g) : RL w' k A n xs :=
  ⟨h.1, fun hn => by
    obtain ⟨b, o, e, hc⟩ := h.2 hn
    have hb := h.lt hn b o e
    have hne := hs hn b o e
    exact ⟨b, o, e, fun j u hu => (World.cell?_of_block (a := ⟨b, o + j, none⟩) (hg.block b hb (by simpa using hne))).trans (hc j u hu)⟩⟩
theorem RL.take_ (h : RL w k A n xs) {m : Nat} (hm : m ≤ n) : RL w k A m (xs.take m) :=
  ⟨by rw [List.length_take, h.1]; omega, fun hm0 => by
    obtain ⟨b, o, e, hc⟩ := h.2 (by omega)
    exact ⟨b, o, e, fun j x hx => hc j x (by
      rw [List.getElem?_take] at hx
      split at hx
      · exact hx
      · cases hx)⟩⟩
theorem RL.drop_ {b o : Nat} (h : RL w k (some ⟨b, o, none⟩) n xs) {m : Nat} (hm : m ≤ n) : RL w k (some ⟨b, o + m, none⟩) (n - m) (xs.drop m) :=
  ⟨by rw [List.length_drop, h.1], fun hm0 => by
    obtain ⟨b', o', e, hc⟩ := h.2 (by omega)
    injection e with e; injection e with e1 e2; subst e1; subst e2
    exact ⟨b, o + m, rfl, fun j x hx => by
      rw [List.getElem?_drop] at hx
      rw [Nat.add_assoc]
      exact hc _ _ hx⟩⟩

theorem Own.lt (h : Own w g k t xs) : g < w.heap.size := by
  rcases Nat.lt_or_ge g w.heap.size with hlt | hge
  · exact hlt
  · unfold Own at h; rw [Array.getElem?_eq_none hge] at h; cases h
theorem Own.cell (h : Own w g k t xs) {j x : Nat} (hx : xs[j]? = some x) : w.cell? ⟨g, j, none⟩ = some (.int k (x : Int)) := by
  rw [cell_of_row w g j _ t (0, 0) h, List.getElem?_toArray, cells_getElem?, hx]; rfl
theorem Own.frozen (h : Own w g k t xs) (j : Nat) : w.frozen? ⟨g, j, none⟩ = false := frozen_of_row w g j _ t h
theorem Own.alloc (h : Own w g k t xs) (o : Obj) : Own (w.alloc o) g k t xs := (Below.heap_alloc w o g h.lt).trans h
theorem Own.new (w : World) (k : IntKind) (t : TypeId) (xs : List Nat) : Own (w.alloc (.cells (cells k xs).toArray t)) w.heap.size k t xs := heap_alloc_new w _
theorem Own.set_ (h : Own w g k t xs) (i x : Nat) : Own (w.setCell ⟨g, i, none⟩ (.int k (x : Int))) g k t (xs.set i x) := by
  unfold Own at h ⊢
  simp [World.setCell, Array.getElem?_modify, h, cells, List.map_set]
theorem Own.put (h : Own w g k t xs) (i : Nat) {v : Int} {x : Nat} (e : v = (x : Int)) : Own (w.setCell ⟨g, i, none⟩ (.int k v)) g k t (xs.set i x) := by
  subst e; exact h.set_ i x
theorem Own.far (h : Own w g k t xs) {p : Addr} (hp : g ≠ p.block) (u : Value) : Own (w.setCell p u) g k t xs := (Below.heap_setCell w p u g hp).trans h
theorem Own.below (h : Own w g k t xs) (hb : Below B w w') (hg : g < B) : Own w' g k t xs := (hb.block g hg).trans h
theorem Own.below' (h : Own w g k t xs) (hb : Below w.heap.size w w') : Own w' g k t xs := h.below hb h.lt
theorem Own.grown {g' : Nat} (h : Own w g k t xs) (hb : w.grownBy w' (some g')) (hg : g ≠ g') : Own w' g k t xs := (hb.block g h.lt (by simpa using hg)).trans h
theorem Own.rl (h : Own w g k t xs) (hn : xs.length = n) : RL w k (some ⟨g, 0, none⟩) n xs :=
  ⟨hn, fun _ => ⟨g, 0, rfl, fun j x hx => by rw [Nat.zero_add]; exact h.cell hx⟩⟩
theorem Own.cast (h : Own w g k t xs) {ys : List Nat} (e : xs = ys) : Own w g k t ys := by subst e; exact h

/-- a row of the call's own, its leading zeros left out -/
theorem Own.trim (h : Own w g k t xs) {ys : List Nat} (e : trimL xs = ys) (hn : xs.length = n) : RL w k (some ⟨g, 0, none⟩) ys.length ys ∧ ys.length ≤ n := by
  subst e
  have h2 : (trimL xs).length ≤ n := by rw [← hn]; exact trimL_length_le xs
  have h3 := (h.rl hn).take_ h2
  rw [← trimL_eq_take] at h3
  exact ⟨h3, h2⟩
/-- what a row of the call's own reads as -/
theorem rl_of_own {base : Nat} {c : Nat} (h : w.ownsRow base t 1 (.slice A n c) n (cells k xs)) : RL w k A n xs := by
  have hl : xs.length = n := by have := h.1; rw [cells_length] at this; omega
  refine ⟨hl, fun hn => ?_⟩
  rcases h.2 with ⟨_, h0⟩ | ⟨g, cap, cur, hv, rest⟩
  · omega
  · injection hv with e1 _ _
    subst e1
    refine ⟨g, 0, rfl, fun j x hx => ?_⟩
    have := h.cells (g := g) rfl j (.int k (x : Int)) (by rw [cells_getElem?, hx]; rfl)
    have e : (⟨g, 0, none⟩ : Addr).add j = ⟨g, 0 + j, none⟩ := by unfold Addr.add; split <;> simp_all
    rwa [e] at this
end

/-- only block g, and what is new, has turned -/
theorem only_drewN {a w : World} {row : Option Nat} (h : a.grownBy w row) (n : Nat) : a.grownBy (w.drewN n) row := ⟨h.os, h.tape, h.output, h.size, h.block⟩
theorem only_drew {a w : World} {row : Option Nat} (h : a.grownBy w row) : a.grownBy w.drew row := ⟨h.os, h.tape, h.output, h.size, h.block⟩
theorem only_setCell {a w : World} {g : Nat} (h : a.grownBy w (some g)) {p : Addr} (hp : p.block = g ∨ a.heap.size ≤ p.block) (u : Value) : a.grownBy (w.setCell p u) (some g) :=
  ⟨h.os, h.tape, h.output, by simpa [World.setCell] using h.size, fun i hi hne => (Below.heap_setCell w p u i (by
    rintro rfl
    rcases hp with hp | hp
    · exact hne (by rw [hp])
    · omega)).trans (h.block i hi hne)⟩
theorem only_of_below {a w : World} (h : Below a.heap.size a w) (row : Option Nat) : a.grownBy w row := ⟨h.os, h.tape, h.output, h.size, fun i hi _ => h.block i hi⟩
theorem only_trans {a b c : World} {row : Option Nat} (h : a.grownBy b row) (k : b.grownBy c row) : a.grownBy c row :=
  ⟨k.os.trans h.os, k.tape.trans h.tape, k.output.trans h.output, Nat.le_trans h.size k.size, fun i hi hne => (k.block i (Nat.lt_of_lt_of_le hi h.size) hne).trans (h.block i hi hne)⟩
theorem below_drewN {B : Nat} {a w : World} (h : Below B a w) (n : Nat) : Below B a (w.drewN n) := ⟨h.os, h.tape, h.output, h.size, h.block⟩
theorem below_only {B g : Nat} {a w w' : World} (h : Below B a w) (k : w.grownBy w' (some g)) (hB : B ≤ w.heap.size) (hg : B ≤ g) : Below B a w' :=
  h.grown k hB (fun j e => by injection e with e; omega)

/-- a slice in which a value reads -/
def Gives (u : Nat) (w : World) (e : Ending) (w' : World) : Prop :=
  ∃ A n c, e = .returned (.slice A n c) ∧ RL w' .u32 A n (dig B9 u) ∧ n ≤ c ∧ c ≤ maxLen ∧ Below w.heap.size w w'
theorem madeCells_zero (k : IntKind) (n : Nat) : madeCells #[.int k 0] n = (cells k (List.replicate n 0)).toArray := by
  apply Array.ext'
  rw [toList_madeCells_one]
  simp [cells]

/-- 'make([]T, n)', T an integer type: a new block of n zeros; the world behind it under a name of its own. -/
theorem wpList_make_zero {P : Program} (w : World) {ops : Array Oper} {rest : List Oper} {o : Oper} {a : Act} {Q : Exit → Act → World → Prop}
    (hg : o.guard = none) (l c : Operand) (t : TypeId) (hop : o.op = Op.makeSlice t l c)
    (e : TypeId) (k : IntKind) (bytes : Nat) (h1 : P.underlying t = some (.slice e)) (h2 : (P.info? e).map (fun i => (i.zero, i.size, i.bytes)) = some (some (.int k 0), 1, bytes))
    (kl kc : IntKind) (L C : Int) (n : Nat) (hl : a.eval l = .int kl L) (hc : a.eval c = .int kc C) (hL : L = (n : Int)) (hC : C = (n : Int)) (hby : bytes ≤ 8) (hn : n ≤ 1099511627776)
    (hK : ∀ (g : Nat) (w' : World), w.heap.size ≤ g → Own w' g k e (List.replicate n 0) → Below w.heap.size w w' → wpList P ops Q rest (a.put o.dst (.slice (some ⟨g, 0, none⟩) n n)) w') :
    wpList P ops Q (o :: rest) a w := by
  refine wpList_plain hg fun K hK' => ?_
  obtain ⟨i, hi, hz, hs, hb⟩ := info_parts h2
  have hbb : (i.bytes : Int) * (n : Int) ≤ 281474976710656 := by
    have h : i.bytes * n ≤ 8 * 1099511627776 := Nat.mul_le_mul (by omega) hn
    have h' : ((i.bytes * n : Nat) : Int) ≤ 281474976710656 := by omega
    rwa [Int.natCast_mul] at h'
  have hr := run_make (P := P) w t e i (.int k 0) h1 hi hz kl kc (n : Int) (n : Int) (by omega) (Int.le_refl _) hbb (by omega)
  simp only [Int.toNat_natCast, hs, Nat.mul_one] at hr
  have ec : (Value.int k 0).cells = #[Value.int k 0] := rfl
  rw [ec, madeCells_zero] at hr
  subst hL
  subst hC
  unfold Oper.wp
  simp [execOp, hop, hl, hc, hr, Result.andThen]
  exact hK' _ _ (hK _ _ (Nat.le_refl _) (Own.new w k e _) ((Below.refl _ _).alloc (Nat.le_refl _) _))

theorem bcell {W w1 : World} (hb : Below W.heap.size W w1) : (∀ b o, b < W.heap.size → w1.cell? ⟨b, o, none⟩ = W.cell? ⟨b, o, none⟩) ∧ (∀ b o, b < W.heap.size → w1.frozen? ⟨b, o, none⟩ = W.frozen? ⟨b, o, none⟩) :=
  ⟨fun b o h => hb.cell (p := ⟨b, o, none⟩) h, fun b o h => hb.frozen (p := ⟨b, o, none⟩) h⟩
/-- a natural of a value -/
def GivesN (u : Nat) (w : World) (e : Ending) (w' : World) : Prop :=
  ∃ A n c, e = .returned (.agg #[.slice A n c]) ∧ RL w' .u32 A n (dig B9 u) ∧ n ≤ c ∧ c ≤ maxLen ∧ Below w.heap.size w w'

/-- the boxes of two parameters, and a result's cell -/
theorem box3 (w : World) (v0 v1 v2 : Value) (t0 t1 t2 : TypeId) :
    Below w.heap.size w (((w.alloc (.cells #[v0] t0)).alloc (.cells #[v1] t1)).alloc (.cells #[v2] t2)) ∧
    (((w.alloc (.cells #[v0] t0)).alloc (.cells #[v1] t1)).alloc (.cells #[v2] t2)).cell? ⟨w.heap.size, 0, none⟩ = some v0 ∧
    (((w.alloc (.cells #[v0] t0)).alloc (.cells #[v1] t1)).alloc (.cells #[v2] t2)).cell? ⟨w.heap.size + 1, 0, none⟩ = some v1 ∧
    (((w.alloc (.cells #[v0] t0)).alloc (.cells #[v1] t1)).alloc (.cells #[v2] t2)).heap[w.heap.size + 2]? = some (.cells #[v2] t2 (0, 0)) ∧
    (((w.alloc (.cells #[v0] t0)).alloc (.cells #[v1] t1)).alloc (.cells #[v2] t2)).heap.size = w.heap.size + 3 := by
  have e0 : (((w.alloc (.cells #[v0] t0)).alloc (.cells #[v1] t1)).alloc (.cells #[v2] t2)).heap[w.heap.size]? = some (.cells #[v0] t0 (0, 0)) := by
    rw [heap_alloc_old _ _ (by simp; omega), heap_alloc_old _ _ (by simp)]
    exact heap_alloc_new w _
  have e1 : (((w.alloc (.cells #[v0] t0)).alloc (.cells #[v1] t1)).alloc (.cells #[v2] t2)).heap[w.heap.size + 1]? = some (.cells #[v1] t1 (0, 0)) := by
    rw [heap_alloc_old _ _ (by simp)]
    exact heap_alloc2_new w _ _
  have e2 : (((w.alloc (.cells #[v0] t0)).alloc (.cells #[v1] t1)).alloc (.cells #[v2] t2)).heap[w.heap.size + 2]? = some (.cells #[v2] t2 (0, 0)) := by
    have := heap_alloc_new ((w.alloc (.cells #[v0] t0)).alloc (.cells #[v1] t1)) (.cells #[v2] t2)
    simpa using this
  refine ⟨(((Below.refl _ _).alloc (Nat.le_refl _) _).alloc (by simp) _).alloc (by simp; omega) _, ?_, ?_, e2, by simp⟩
  · rw [cell_of_row _ _ _ _ _ _ e0]; rfl
  · rw [cell_of_row _ _ _ _ _ _ e1]; rfl
/-- the boxes of two parameters -/
theorem box2 (w : World) (v0 v1 : Value) (t0 t1 : TypeId) :
    Below w.heap.size w ((w.alloc (.cells #[v0] t0)).alloc (.cells #[v1] t1)) ∧
    ((w.alloc (.cells #[v0] t0)).alloc (.cells #[v1] t1)).cell? ⟨w.heap.size, 0, none⟩ = some v0 ∧
    ((w.alloc (.cells #[v0] t0)).alloc (.cells #[v1] t1)).cell? ⟨w.heap.size + 1, 0, none⟩ = some v1 ∧
    ((w.alloc (.cells #[v0] t0)).alloc (.cells #[v1] t1)).heap.size = w.heap.size + 2 := by
  have e0 : ((w.alloc (.cells #[v0] t0)).alloc (.cells #[v1] t1)).heap[w.heap.size]? = some (.cells #[v0] t0 (0, 0)) := by
    rw [heap_alloc_old _ _ (by simp)]
    exact heap_alloc_new w _
  have e1 : ((w.alloc (.cells #[v0] t0)).alloc (.cells #[v1] t1)).heap[w.heap.size + 1]? = some (.cells #[v1] t1 (0, 0)) := heap_alloc2_new w _ _
  refine ⟨((Below.refl _ _).alloc (Nat.le_refl _) _).alloc (by simp) _, ?_, ?_, by simp⟩
  · rw [cell_of_row _ _ _ _ _ _ e0]; rfl
  · rw [cell_of_row _ _ _ _ _ _ e1]; rfl
theorem box1 (w : World) (v0 : Value) (t0 : TypeId) :
    Below w.heap.size w (w.alloc (.cells #[v0] t0)) ∧ (w.alloc (.cells #[v0] t0)).cell? ⟨w.heap.size, 0, none⟩ = some v0 ∧ (w.alloc (.cells #[v0] t0)).heap.size = w.heap.size + 1 := by
  refine ⟨(Below.refl _ _).alloc (Nat.le_refl _) _, ?_, by simp⟩
  rw [cell_of_row _ _ _ _ _ _ (heap_alloc_new w _)]; rfl
/-- a cell of another block -/
theorem cell_far (w : World) (p q : Addr) (u : Value) (h : q.block ≠ p.block) : (w.setCell p u).cell? q = w.cell? q := World.cell?_of_block (Below.heap_setCell w p u q.block h)
/-- the boxes of two parameters, and two results' cells -/
theorem box4 (w : World) (v0 v1 v2 v3 : Value) (t0 t1 t2 t3 : TypeId) (W : World) (hW : ((((w.alloc (.cells #[v0] t0)).alloc (.cells #[v1] t1)).alloc (.cells #[v2] t2)).alloc (.cells #[v3] t3)) = W) :
    Below w.heap.size w W ∧ W.cell? ⟨w.heap.size, 0, none⟩ = some v0 ∧ W.cell? ⟨w.heap.size + 1, 0, none⟩ = some v1 ∧ W.heap[w.heap.size + 2]? = some (.cells #[v2] t2 (0, 0)) ∧ W.heap[w.heap.size + 3]? = some (.cells #[v3] t3 (0, 0)) ∧ W.heap.size = w.heap.size + 4 := by
  obtain ⟨a1, a2, a3, a4, a5⟩ := box3 w v0 v1 v2 t0 t1 t2
  generalize ((w.alloc (.cells #[v0] t0)).alloc (.cells #[v1] t1)).alloc (.cells #[v2] t2) = V at *
  subst hW
  have hb : Below V.heap.size V (V.alloc (.cells #[v3] t3)) := (Below.refl _ _).alloc (Nat.le_refl _) _
  refine ⟨a1.trans (hb.mono a1.size), (hb.cell (p := ⟨w.heap.size, 0, none⟩) (by simp; omega)).trans a2, (hb.cell (p := ⟨w.heap.size + 1, 0, none⟩) (by simp; omega)).trans a3, (hb.block _ (by omega)).trans a4, ?_, by simp; omega⟩
  rw [← a5]
  exact heap_alloc_new V _
/-- one number in a new block -/
theorem RL.one (w : World) (k : IntKind) (t : TypeId) {v : Int} {x : Nat} (e : v = (x : Int)) : RL (w.alloc (.cells #[.int k v] t)) k (some ⟨w.heap.size, 0, none⟩) 1 [x] := by
  subst e
  exact (Own.new w k t [x]).rl rfl
/-- a block of one slice is no block of numbers -/
theorem RL.sp_slice {w : World} {k : IntKind} {A : Option Addr} {n : Nat} {xs : List Nat} {g : Nat} {S : Option Addr} {m c : Nat} {t : TypeId} {fr : Nat × Nat} (h : RL w k A n xs) (hg : w.heap[g]? = some (.cells #[.slice S m c] t fr)) : Sp A n g := by
  intro hn b o e
  rintro rfl
  subst e
  obtain ⟨x, _, hc⟩ := h.cell hn
  rw [cell_of_row w b _ _ t fr hg] at hc
  have h0 : o + 0 = 0 := by
    rcases Nat.eq_zero_or_pos (o + 0) with h | h
    · exact h
    · rw [Array.getElem?_eq_none (by simp; omega)] at hc; cases hc
  rw [h0] at hc
  simp at hc
theorem RL.store {w : World} {k : IntKind} {A : Option Addr} {n : Nat} {xs : List Nat} {g i : Nat} {S : Option Addr} {m c : Nat} {t : TypeId} {fr : Nat × Nat} (h : RL w k A n xs) (hg : w.heap[g]? = some (.cells #[.slice S m c] t fr)) (u : Value) : RL (w.setCell ⟨g, i, none⟩ u) k A n xs := by
  have hs := h.sp_slice hg
  refine ⟨h.1, fun hn => ?_⟩
  obtain ⟨b, o, e, hc⟩ := h.2 hn
  have hne := hs hn b o e
  exact ⟨b, o, e, fun j x hx => (World.cell?_of_block (a := ⟨b, o + j, none⟩) (Below.heap_setCell w ⟨g, i, none⟩ u b hne)).trans (hc j x hx)⟩
/-- the end of a function whose result is one natural: it lies in block g -/
theorem fin_struct {w W w2 : World} {g : Nat} {S A : Option Addr} {m d n c u : Nat} {t : TypeId} (hW : Below w.heap.size w W) (hb : Below W.heap.size W w2) (hg : w.heap.size ≤ g) (hc : W.heap[g]? = some (.cells #[.slice S m d] t (0, 0)))
    (hr : RL w2 .u32 A n (dig B9 u)) (hn : n ≤ c) (hm : c ≤ maxLen) : GivesN u w (.returned (.agg #[.slice A n c])) (w2.setCell ⟨g, 0, none⟩ (.slice A n c)) := by
  have hlt : g < W.heap.size := by
    rcases Nat.lt_or_ge g W.heap.size with h | h
    · exact h
    · rw [Array.getElem?_eq_none h] at hc; cases hc
  exact ⟨A, n, c, rfl, hr.store ((hb.block g hlt).trans hc) _, hn, hm, (hW.trans (hb.mono hW.size)).setCell hg _⟩

/-- a natural of a value, and an error's number -/
def GivesNE (u : Nat) (er : Int) (w : World) (e : Ending) (w' : World) : Prop :=
  ∃ A n c, e = .returned (.tuple #[.agg #[.slice A n c], .int .i64 er]) ∧ RL w' .u32 A n (dig B9 u) ∧ n ≤ c ∧ c ≤ maxLen ∧ Below w.heap.size w w'
theorem fin_structE {w W w2 : World} {g : Nat} {S A : Option Addr} {m d n c u : Nat} {t : TypeId} {er : Int} (hW : Below w.heap.size w W) (hb : Below W.heap.size W w2) (hg : w.heap.size ≤ g) (hc : W.heap[g]? = some (.cells #[.slice S m d] t (0, 0)))
    (hr : RL w2 .u32 A n (dig B9 u)) (hn : n ≤ c) (hm : c ≤ maxLen) : GivesNE u er w (.returned (.tuple #[.agg #[.slice A n c], .int .i64 er])) (w2.setCell ⟨g, 0, none⟩ (.slice A n c)) := by
  obtain ⟨A', n', c', he, r1, r2, r3, r4⟩ := fin_struct (u := u) hW hb hg hc hr hn hm
  injection he with he; injection he with he; injection he with he; injection he with he _; injection he with e1 e2 e3
  subst e1; subst e2; subst e3
  exact ⟨_, _, _, rfl, r1, r2, r3, r4⟩

/-- the end of a function whose results are two naturals and an error -/
def GivesDM (u v : Nat) (er : Int) (w : World) (e : Ending) (w' : World) : Prop :=
  ∃ A n c A' n' c', e = .returned (.tuple #[.agg #[.slice A n c], .agg #[.slice A' n' c'], .int .i64 er]) ∧ RL w' .u32 A n (dig B9 u) ∧ n ≤ c ∧ c ≤ maxLen ∧ RL w' .u32 A' n' (dig B9 v) ∧ n' ≤ c' ∧ c' ≤ maxLen ∧ Below w.heap.size w w'
theorem fin_structDM {w W w2 : World} {g : Nat} {S S' A A' : Option Addr} {m d m' d' n c n' c' u v : Nat} {t t' : TypeId} {er : Int} (hW : Below w.heap.size w W) (hb : Below W.heap.size W w2) (hg : w.heap.size ≤ g) (hc : W.heap[g]? = some (.cells #[.slice S m d] t (0, 0))) (hc' : W.heap[g + 1]? = some (.cells #[.slice S' m' d'] t' (0, 0)))
    (hr : RL w2 .u32 A n (dig B9 u)) (hn : n ≤ c) (hm : c ≤ maxLen) (hr' : RL w2 .u32 A' n' (dig B9 v)) (hn' : n' ≤ c') (hm' : c' ≤ maxLen) :
    GivesDM u v er w (.returned (.tuple #[.agg #[.slice A n c], .agg #[.slice A' n' c'], .int .i64 er])) ((w2.setCell ⟨g, 0, none⟩ (.slice A n c)).setCell ⟨g + 1, 0, none⟩ (.slice A' n' c')) := by
  have lt : ∀ i o, W.heap[i]? = some o → i < W.heap.size := by
    intro i o h
    rcases Nat.lt_or_ge i W.heap.size with h1 | h1
    · exact h1
    · rw [Array.getElem?_eq_none h1] at h; cases h
  have e1 := (hb.block g (lt _ _ hc)).trans hc
  have e2 := (hb.block (g + 1) (lt _ _ hc')).trans hc'
  have e3 : (w2.setCell ⟨g, 0, none⟩ (.slice A n c)).heap[g + 1]? = some (.cells #[.slice S' m' d'] t' (0, 0)) := (Below.heap_setCell w2 ⟨g, 0, none⟩ (.slice A n c) (g + 1) (by simp)).trans e2
  exact ⟨A, n, c, A', n', c', rfl, (hr.store e1 _).store e3 _, hn, hm, (hr'.store e1 _).store e3 _, hn', hm', ((hW.trans (hb.mono hW.size)).setCell hg _).setCell (by simp; omega) _⟩

/-- A row of the call's own: the slice '.slice A n c' is nil, or the head of a block from base on. -/
def Row (w : World) (base : Nat) (k : IntKind) (t : TypeId) (A : Option Addr) (n c : Nat) (xs : List Nat) : Prop := w.ownsRow base t 1 (.slice A n c) n (cells k xs)
section
variable {w w' : World} {base n c g : Nat} {k : IntKind} {A : Option Addr} {xs : List Nat} {t : TypeId}
theorem Row.nil_ : Row w base k t none 0 0 [] := World.ownsRow_nil _ _ _ _
theorem Row.len (h : Row w base k t A n c xs) : xs.length = n := by have := h.1; rw [cells_length] at this; omega
theorem Row.rl (h : Row w base k t A n c xs) : RL w k A n xs := rl_of_own h
theorem Row.le (h : Row w base k t A n c xs) : n ≤ c ∧ c ≤ maxLen := by
  rcases h.2 with ⟨h1, h0⟩ | ⟨g, cap, cur, hv, _, _, h1, h2, _⟩
  · injection h1 with _ e1 e2; subst e1; subst e2; exact ⟨Nat.le_refl _, by simp [maxLen]⟩
  · injection hv with _ _ e; subst e; exact ⟨h1, h2⟩
theorem Row.alloc (h : Row w base k t A n c xs) (o : Obj) : Row (w.alloc o) base k t A n c xs := World.ownsRow.alloc h o
theorem Row.drewN (h : Row w base k t A n c xs) (m : Nat) : Row (w.drewN m) base k t A n c xs := h
theorem Row.below {B : Nat} (h : Row w base k t A n c xs) (hb : Below B w w') (hB : w.heap.size ≤ B) : Row w' base k t A n c xs :=
  World.ownsRow.kept (row := none) h ⟨hb.os, hb.tape, hb.output, hb.size, fun i hi _ => hb.block i (by omega)⟩ (by cases A <;> simp [Value.ownBlock])
theorem Row.new (w : World) (k : IntKind) (t : TypeId) (hb : base ≤ w.heap.size) : Row (w.alloc (.cells #[] t)) base k t (some ⟨w.heap.size, 0, none⟩) 0 0 [] :=
  World.ownsRow_made w #[] 0 hb (by simp [maxLen]) (by simp)
end

/-- 'append(s, xs...)': s the call's own, xs whatever reads. -/
theorem run_append_rl {P : Program} (w : World) (base : Nat) (t ty e : TypeId) (k : IntKind) (bytes : Nat) (ht : P.underlying t = some (.slice e)) (h2 : (P.info? e).map (fun i => (i.zero, i.size, i.bytes)) = some (some (.int k 0), 1, bytes))
    (S : Option Addr) (n cs : Nat) (xs : List Nat) (hown : Row w base k e S n cs xs) (A : Option Addr) (m c : Nat) (news : List Nat) (hr : RL w k A m news) (hby : bytes ≤ 8) (hN : n + m ≤ 1099511627776) (hbase : base ≤ w.heap.size) :
    ∃ A' c' w', (Builtin.append_ #[t, t] ty #[.slice S n cs, .slice A m c]).run P w = .ok (.slice A' (n + m) c') w' ∧ Row w' base k e A' (n + m) c' (xs ++ news) ∧ Below base w w' ∧ w.heap.size ≤ w'.heap.size := by
  obtain ⟨i, hi, hz, hs, hb⟩ := info_parts h2
  have hcl : ∀ g, (Value.slice S n cs).ownBlock = some g → base ≤ g := fun g hg => (World.ownsRow.lt hown g hg).1
  have hnm : (n + m) * bytes ≤ 140737488355328 := by have : (n + m) * bytes ≤ 1099511627776 * 8 := Nat.mul_le_mul hN hby; omega
  by_cases hm : m = 0
  · subst hm
    have hn : news = [] := List.eq_nil_of_length_eq_zero hr.len
    subst hn
    have hrow : Row w base k e S (n + 0) cs (xs ++ []) := by simpa using hown
    rcases hown.2 with ⟨h1, h0⟩ | ⟨g, cap, cur, h1, _, hg, hnc, _⟩
    · injection h1 with e1 e2 e3
      subst e1; subst e2; subst e3
      cases A with
      | none => exact ⟨none, 0, w, by simp [Builtin.append_, run_underlying ht, sizeOf, typeInfo, hi, Builtin.lenOf, Builtin.firstCells], hrow, Below.refl _ _, Nat.le_refl _⟩
      | some a =>
        obtain ⟨v', w', hrun, r1, r2, r3, _⟩ := run_append_own_at (P := P) w base t ty e i (.int k 0) 1 bytes ht hi hz hs hb rfl (by omega) _ _ _ hown a 0 c [] rfl (by simp) (by simp) (by simp only [maxLen]; omega) hnm hbase
        have hv : v' = .slice none 0 0 := r3.2 ⟨rfl, rfl⟩
        subst hv
        exact ⟨none, 0, w', hrun, by simpa [Row, cells] using r1, (Below.refl _ _).grown r2 hbase (fun j hj => by cases hj), r2.size⟩
    · injection h1 with e1 _ e3
      subst e1; subst e3
      cases A with
      | none => exact ⟨_, _, w, by simp [Builtin.append_, run_underlying ht, sizeOf, typeInfo, hi, Builtin.lenOf, Builtin.firstCells, hnc, storeCells], hrow, Below.refl _ _, Nat.le_refl _⟩
      | some a =>
        obtain ⟨v', w', hrun, r1, r2, r3, _⟩ := run_append_own_at (P := P) w base t ty e i (.int k 0) 1 bytes ht hi hz hs hb rfl (by omega) _ _ _ hown a 0 c [] rfl (by simp) (by simp) (by simp only [maxLen]; omega) hnm hbase
        have hv : ∃ A' c', v' = .slice A' (n + 0) c' := by
          rcases r1.2 with ⟨h, h0⟩ | ⟨g', cap', _, h, _⟩
          · exact ⟨none, 0, by rw [h, h0]⟩
          · exact ⟨_, _, h⟩
        obtain ⟨A', c', rfl⟩ := hv
        exact ⟨A', c', w', hrun, by simpa [Row, cells] using r1, (Below.refl _ _).grown r2 hbase hcl, r2.size⟩
  · obtain ⟨b, o, e', hc⟩ := hr.2 (by omega)
    subst e'
    have hnews : ∀ j u, (cells k news)[j]? = some u → w.cell? ((⟨b, o, none⟩ : Addr).add j) = some u := by
      intro j u hu
      rw [cells_getElem?] at hu
      obtain ⟨x, hx, rfl⟩ := Option.map_eq_some_iff.1 hu
      have ea : (⟨b, o, none⟩ : Addr).add j = ⟨b, o + j, none⟩ := by unfold Addr.add; split <;> simp_all
      rw [ea]
      exact hc j x hx
    obtain ⟨v', w', hrun, r1, r2, _, _⟩ := run_append_own_at (P := P) w base t ty e i (.int k 0) 1 bytes ht hi hz hs hb rfl (by omega) _ _ _ hown ⟨b, o, none⟩ m c (cells k news) (by rw [cells_length, hr.len]; omega) hnews (cells_one k news)
      (by simp only [maxLen]; omega) hnm hbase
    have hv : ∃ A' c', v' = .slice A' (n + m) c' := by
      rcases r1.2 with ⟨h, h0⟩ | ⟨g', cap', _, h, _⟩
      · exact ⟨none, 0, by rw [h, h0]⟩
      · exact ⟨_, _, h⟩
    obtain ⟨A', c', rfl⟩ := hv
    exact ⟨A', c', w', hrun, by unfold Row; rw [cells_append]; exact r1, (Below.refl _ _).grown r2 hbase hcl, r2.size⟩

theorem wpList_append_rl {P : Program} (w : World) {ops : Array Oper} {rest : List Oper} {o : Oper} {a : Act} {Q : Exit → Act → World → Prop} (hgd : o.guard = none) (s x : Operand) (t : TypeId)
    (ho : o.op = .call { callee := .builtin .append, args := #[s, x], argTypes := #[t, t] })
    (base : Nat) (e : TypeId) (k : IntKind) (bytes : Nat) (ht : P.underlying t = some (.slice e)) (h2 : (P.info? e).map (fun i => (i.zero, i.size, i.bytes)) = some (some (.int k 0), 1, bytes))
    (S : Option Addr) (n cs : Nat) (xs : List Nat) (hs : a.eval s = .slice S n cs) (hown : Row w base k e S n cs xs)
    (A : Option Addr) (m c : Nat) (news : List Nat) (hx : a.eval x = .slice A m c) (hr : RL w k A m news) (hby : bytes ≤ 8) (p : Nat) (hp : p = n + m) (hN : p ≤ 1099511627776) (hbase : base ≤ w.heap.size)
    (h : ∀ A' c' w', Row w' base k e A' p c' (xs ++ news) → Below base w w' → w.heap.size ≤ w'.heap.size → wpList P ops Q rest (a.put o.dst (.slice A' p c')) w') : wpList P ops Q (o :: rest) a w :=
  wpList_plain hgd fun K hK => by
    subst hp
    obtain ⟨A', c', w', hrun, h2, h3, h4⟩ := run_append_rl (P := P) w base t o.type e k bytes ht h2 S n cs xs hown A m c news hr hby hN hbase
    unfold Oper.wp execOp
    simp only [ho, resolve, invoke, builtin, Sem.run_bind, Sem.run_pure, Result.andThen_ok, List.map_toArray, List.map_cons, List.map_nil, hs, hx, hrun]
    exact hK _ _ (h A' c' w' h2 h3 h4)
end Go.Proofs.Ytadmiecoahohiaa
