/- Words for memory with a footprint; rows of structs with a footprint. -/
import Derived.Test.YtadmiecoahohiaaIA
import Derived.Test.YtadmiecoahohiaaDN
import Derived.Lib.FrozenHead
import Derived.Laws.AppendOwn
import Derived.Laws.MakeOwn
import Derived.IntWalk
namespace Go.Proofs.Ytadmiecoahohiaa
open Go Go.RowKit Go.Lib
/-- only the blocks of F, and what is new, have turned -/
structure Turn (F : Nat → Prop) (w w' : World) : Prop where
  os : w'.os = w.os
  tape : w'.tape = w.tape
  output : w'.output = w.output
  size : w.heap.size ≤ w'.heap.size
  block : ∀ k, k < w.heap.size → ¬ F k → w'.heap[k]? = w.heap[k]?
/-- a footprint, and what is new since -/
def Plus (F : Nat → Prop) (w w' : World) (k : Nat) : Prop := F k ∨ (w.heap.size ≤ k ∧ k < w'.heap.size)
def Sep (F G : Nat → Prop) : Prop := ∀ k, F k → ¬ G k
/-- the block of an address -/
def Blk (A : Option Addr) (k : Nat) : Prop := ∃ o s, A = some ⟨k, o, s⟩
/-- nothing -/
def Non (_ : Nat) : Prop := False
/-- one block -/
def Is (g k : Nat) : Prop := k = g
section
variable {w w' w'' : World} {F G H : Nat → Prop} {B g : Nat}
theorem Turn.refl (F : Nat → Prop) (w : World) : Turn F w w := ⟨rfl, rfl, rfl, Nat.le_refl _, fun _ _ _ => rfl⟩
theorem Turn.of (h : Below w.heap.size w w') : Turn F w w' := ⟨h.os, h.tape, h.output, h.size, fun k hk _ => h.block k hk⟩
theorem Turn.trans (h : Turn F w w') (k : Turn F w' w'') : Turn F w w'' :=
  ⟨k.os.trans h.os, k.tape.trans h.tape, k.output.trans h.output, Nat.le_trans h.size k.size, fun i hi hn => (k.block i (Nat.lt_of_lt_of_le hi h.size) hn).trans (h.block i hi hn)⟩
theorem Turn.mono (h : Turn F w w') (hm : ∀ k, k < w.heap.size → F k → H k) : Turn H w w' := ⟨h.os, h.tape, h.output, h.size, fun i hi hn => h.block i hi fun hf => hn (hm i hi hf)⟩
/-- what has turned in a grown footprint, seen from before -/
theorem Turn.trans2 (h : Turn F w w') (k : Turn G w' w'') (hm : ∀ i, i < w.heap.size → G i → F i) : Turn F w w'' :=
  ⟨k.os.trans h.os, k.tape.trans h.tape, k.output.trans h.output, Nat.le_trans h.size k.size, fun i hi hn => (k.block i (Nat.lt_of_lt_of_le hi h.size) (fun hg => hn (hm i hi hg))).trans (h.block i hi hn)⟩
theorem Turn.next (h : Turn F w w') (k : Below w'.heap.size w' w'') : Turn F w w'' := h.trans (Turn.of k)
theorem Turn.below (h : Turn F w w') (hF : ∀ k, F k → B ≤ k) (hB : B ≤ w.heap.size) : Below B w w' := ⟨h.os, h.tape, h.output, h.size, fun k hk => h.block k (by omega) fun hf => by have := hF k hf; omega⟩
theorem Turn.onto {W : World} (h0 : Below W.heap.size W w) (h : Turn F w w') (hF : ∀ k, F k → W.heap.size ≤ k) : Below W.heap.size W w' := h0.trans (h.below hF h0.size)
theorem Turn.grown {row : Option Nat} (h : w.grownBy w' row) (hm : ∀ k, row = some k → F k) : Turn F w w' := ⟨h.os, h.tape, h.output, h.size, fun i hi hn => h.block i hi (fun e => hn (hm i e.symm))⟩
theorem Turn.set (h : Turn F w w') (i : Nat) (v : Value) (hF : F g) : Turn F w (w'.setCell ⟨g, i, none⟩ v) :=
  ⟨h.os, h.tape, h.output, by simpa [World.setCell] using h.size, fun k hk hn => (Below.heap_setCell w' ⟨g, i, none⟩ v k (fun e => hn (by rw [e]; exact hF))).trans (h.block k hk hn)⟩
theorem Turn.setN (h : Turn F w w') (i : Nat) (v : Value) (hg : w.heap.size ≤ g) : Turn F w (w'.setCell ⟨g, i, none⟩ v) :=
  ⟨h.os, h.tape, h.output, by simpa [World.setCell] using h.size, fun k hk hn => (Below.heap_setCell w' ⟨g, i, none⟩ v k (fun e => by subst e; omega)).trans (h.block k hk hn)⟩
theorem Turn.box {vs : Array Value} {t : TypeId} (h : Turn F w w') (hb : Box w g vs t) (hn : ¬ F g) : Box w' g vs t := (h.block g hb.lt hn).trans hb
theorem Plus.l {k : Nat} (h : F k) : Plus F w w' k := .inl h
theorem Sep.symm (h : Sep F G) : Sep G F := fun k hg hf => h k hf hg
theorem Sep.plus (h : Sep F G) (hG : ∀ k, G k → k < w.heap.size) : Sep (Plus F w w') G := fun k hk hg => by
  rcases hk with hk | hk
  · exact h k hk hg
  · have := hG k hg; omega
theorem Sep.new (hF : ∀ k, F k → w.heap.size ≤ k) (hG : ∀ k, G k → k < w.heap.size) : Sep F G := fun k hk hg => by have := hF k hk; have := hG k hg; omega
theorem Sep.non (F : Nat → Prop) : Sep F Non := fun _ _ h => h
theorem plus_lt (hF : ∀ k, F k → k < w.heap.size) (hs : w.heap.size ≤ w'.heap.size) : ∀ k, Plus F w w' k → k < w'.heap.size := fun k hk => by
  rcases hk with hk | hk
  · have := hF k hk; omega
  · exact hk.2
theorem plus_ge (hF : ∀ k, F k → B ≤ k) (hB : B ≤ w.heap.size) : ∀ k, Plus F w w' k → B ≤ k := fun k hk => by
  rcases hk with hk | hk
  · exact hF k hk
  · omega
theorem Turn.rl {k : IntKind} {A : Option Addr} {n : Nat} {xs : List Nat} (h : Turn F w w') (hr : RL w k A n xs) (hs : 0 < n → ∀ g, Blk A g → ¬ F g) : RL w' k A n xs :=
  ⟨hr.1, fun hn => by
    obtain ⟨b, o, e, hc⟩ := hr.2 hn
    have hb := hr.lt hn b o e
    exact ⟨b, o, e, fun j u hu => (World.cell?_of_block (a := ⟨b, o + j, none⟩) (h.block b hb (hs hn b ⟨o, none, e⟩))).trans (hc j u hu)⟩⟩
theorem Turn.owns {base : Nat} {e : TypeId} {size n c : Nat} {A : Option Addr} {vs : List Value} (h : Turn F w w') (hr : w.ownsRow base e size (.slice A n c) n vs) (hs : ∀ g, Blk A g → ¬ F g) : w'.ownsRow base e size (.slice A n c) n vs := by
  refine ⟨hr.1, ?_⟩
  rcases hr.2 with h0 | ⟨g, cap, cur, hv, hb, hg, r⟩
  · exact .inl h0
  · refine .inr ⟨g, cap, cur, hv, hb, ?_, r⟩
    have hlt : g < w.heap.size := by
      rcases Nat.lt_or_ge g w.heap.size with h1 | h1
      · exact h1
      · rw [Array.getElem?_eq_none h1] at hg; cases hg
    injection hv with e1 _ _
    exact (h.block g hlt (hs g ⟨0, none, e1⟩)).trans hg
theorem owns_blk {base : Nat} {e : TypeId} {size n c : Nat} {A : Option Addr} {vs : List Value} (hr : w.ownsRow base e size (.slice A n c) n vs) : ∀ g, Blk A g → base ≤ g ∧ g < w.heap.size := by
  rintro g ⟨o, s, rfl⟩
  exact World.ownsRow.lt hr g rfl
theorem blk_own {A : Option Addr} {n c g : Nat} : (Value.slice A n c).ownBlock = some g ↔ Blk A g := by
  cases A with
  | none => simp [Value.ownBlock, Blk]
  | some a => obtain ⟨b, o, s⟩ := a; simp [Value.ownBlock, Blk]
theorem blk_none {g : Nat} : ¬ Blk none g := by rintro ⟨o, s, e⟩; cases e
theorem blk_some {b o g : Nat} {s : Option Nat} : Blk (some ⟨b, o, s⟩) g ↔ g = b := by
  constructor
  · rintro ⟨_, _, e⟩; injection e with e; injection e with e; exact e.symm
  · rintro rfl; exact ⟨_, _, rfl⟩
theorem owns_low {base b' : Nat} {e : TypeId} {size n : Nat} {v : Value} {vs : List Value} (hr : w.ownsRow base e size v n vs) (hb : b' ≤ base) : w.ownsRow b' e size v n vs := by
  refine ⟨hr.1, ?_⟩
  rcases hr.2 with h0 | ⟨g, cap, cur, hv, hg, r⟩
  · exact .inl h0
  · exact .inr ⟨g, cap, cur, hv, by omega, r⟩
theorem owns_take {base : Nat} {e : TypeId} {size n c m : Nat} {A : Option Addr} {vs : List Value} (hr : w.ownsRow base e size (.slice A n c) n vs) (hm : m ≤ n) : w.ownsRow base e size (.slice A m c) m (vs.take (m * size)) := by
  have hle : m * size ≤ n * size := Nat.mul_le_mul_right _ hm
  refine ⟨by rw [List.length_take, hr.1]; omega, ?_⟩
  rcases hr.2 with ⟨h1, h0⟩ | ⟨g, cap, cur, hv, hg, h2, h3, h4, h5, h6⟩
  · injection h1 with e1 e2 e3
    subst e1; subst e3
    exact .inl ⟨by rw [show m = 0 by omega], by omega⟩
  · injection hv with e1 _ e3
    subst e1; subst e3
    refine .inr ⟨g, c, cur, rfl, hg, h2, by omega, h4, h5, ?_⟩
    rw [← h6, List.take_take, Nat.min_eq_left hle]
theorem owns_le {base : Nat} {e : TypeId} {size n c : Nat} {A : Option Addr} {vs : List Value} (hr : w.ownsRow base e size (.slice A n c) n vs) : n ≤ c ∧ c ≤ maxLen := by
  rcases hr.2 with ⟨h1, h0⟩ | ⟨g, cap, cur, hv, _, _, h1, h2, _⟩
  · injection h1 with _ e1 e2; subst e1; subst e2; exact ⟨Nat.le_refl _, by simp [maxLen]⟩
  · injection hv with _ _ e; subst e; exact ⟨h1, h2⟩
theorem owns_new {e : TypeId} {size : Nat} {B : Nat} (w : World) (hB : B ≤ w.heap.size) : (w.alloc (.cells #[] e)).ownsRow B e size (.slice (some ⟨w.heap.size, 0, none⟩) 0 0) 0 [] :=
  ⟨by simp, .inr ⟨w.heap.size, 0, #[], rfl, hB, heap_alloc_new w _, Nat.le_refl _, by simp [maxLen], by simp, by simp⟩⟩
end
/-- append to a row of the call's own, whatever its cells -/
theorem run_append_ow {P : Program} (w : World) (base : Nat) (t ty e : TypeId) (z : Value) (size bytes : Nat) (ht : P.underlying t = some (.slice e)) (h2 : (P.info? e).map (fun i => (i.zero, i.size, i.bytes)) = some (some z, size, bytes))
    (hzs : z.cells.size = size) (hsz : 0 < size) (S : Option Addr) (n cs : Nat) (vs : List Value) (hown : w.ownsRow base e size (.slice S n cs) n vs) (A : Option Addr) (m c : Nat) (news : List Value)
    (hl : news.length = m * size) (hr : 0 < m → ∃ a, A = some a ∧ ∀ j u, news[j]? = some u → w.cell? (a.add j) = some u) (h1 : ∀ u ∈ news, u.oneCell' = true) (hby : bytes ≤ 40) (hN : n + m ≤ 1000000) (hbase : base ≤ w.heap.size) :
    ∃ A' c' w', (Builtin.append_ #[t, t] ty #[.slice S n cs, .slice A m c]).run P w = .ok (.slice A' (n + m) c') w' ∧ w'.ownsRow base e size (.slice A' (n + m) c') (n + m) (vs ++ news) ∧ Turn (Blk S) w w' ∧ (∀ g, Blk A' g → Blk S g ∨ (w.heap.size ≤ g ∧ g < w'.heap.size)) := by
  obtain ⟨i, hi, hz, hs, hb⟩ := info_parts h2
  have big : (n + m) * bytes ≤ 140737488355328 := by have : (n + m) * bytes ≤ 1000000 * 40 := Nat.mul_le_mul hN hby; omega
  cases A with
  | some a =>
    have hnews : ∀ j u, news[j]? = some u → w.cell? (a.add j) = some u := by
      intro j u hu
      have hm : 0 < m := by
        rcases Nat.eq_zero_or_pos m with h | h
        · subst h
          have : news = [] := List.eq_nil_of_length_eq_zero (by simpa using hl)
          subst this; simp at hu
        · exact h
      obtain ⟨a', e', hc⟩ := hr hm
      injection e' with e'; subst e'
      exact hc j u hu
    obtain ⟨v', w', hrun, r1, r2, _, r4⟩ := run_append_own_at (P := P) w base t ty e i z size bytes ht hi hz hs hb hzs hsz _ n vs hown a m c news hl hnews h1 (by simp only [maxLen]; omega) big hbase
    have hv : ∃ A' c', v' = .slice A' (n + m) c' := by
      rcases r1.2 with ⟨h, h0⟩ | ⟨g', cap', _, h, _⟩
      · exact ⟨none, 0, by rw [h, h0]⟩
      · exact ⟨_, _, h⟩
    obtain ⟨A', c', rfl⟩ := hv
    refine ⟨A', c', w', hrun, r1, Turn.grown r2 (fun k hk => blk_own.1 hk), fun g hg => ?_⟩
    have h3 := (owns_blk r1 g hg).2
    have hg2 := blk_own (n := n + m) (c := c') |>.2 hg
    rcases r4 with h | h
    · left; rw [h] at hg2; exact blk_own.1 hg2
    · right; rw [h] at hg2; injection hg2 with hg2; omega
  | none =>
    have hm : m = 0 := by
      rcases Nat.eq_zero_or_pos m with h | h
      · exact h
      · obtain ⟨a, e, _⟩ := hr h; cases e
    subst hm
    have hy : news = [] := List.eq_nil_of_length_eq_zero (by simpa using hl)
    subst hy
    rw [List.append_nil]
    refine ⟨S, cs, w, ?_, hown, Turn.refl _ _, fun g hg => .inl hg⟩
    have hle := (owns_le hown).1
    rcases hown.2 with ⟨h1, _⟩ | ⟨g, cap, cur, h1, _⟩
    · injection h1 with e1 e2 e3
      subst e1; subst e2; subst e3
      simp [Builtin.append_, run_underlying ht, sizeOf, typeInfo, hi, Builtin.lenOf, Builtin.firstCells]
    · injection h1 with e1 _ e3
      subst e1; subst e3
      simp [Builtin.append_, run_underlying ht, sizeOf, typeInfo, hi, Builtin.lenOf, Builtin.firstCells, hle, storeCells]

theorem Turn.len {F : Nat → Prop} {w w' : World} (h : Turn F w w') : w.heap.size ≤ w'.heap.size := h.size
/-- how the elements of a row lie -/
structure En (α : Type) where
  enc : α → List Value
  k : Nat
  pos : 0 < k
  len : ∀ x, (enc x).length = k
  one : ∀ x, ∀ u ∈ enc x, u.oneCell' = true
  t : TypeId
section
variable {α : Type} (e : En α)
def flatE (ys : List α) : List Value := ys.flatMap e.enc
variable {e}
theorem flatE_nil : flatE e [] = [] := rfl
theorem flatE_cons (y : α) (ys : List α) : flatE e (y :: ys) = e.enc y ++ flatE e ys := rfl
theorem flatE_app (xs ys : List α) : flatE e (xs ++ ys) = flatE e xs ++ flatE e ys := List.flatMap_append
theorem flatE_len (ys : List α) : (flatE e ys).length = ys.length * e.k := by
  induction ys with
  | nil => simp [flatE]
  | cons y ys ih => rw [flatE_cons, List.length_append, ih, e.len, List.length_cons, Nat.add_mul]; omega
theorem flatE_get : ∀ (ys : List α) (j i : Nat) (y : α), ys[j]? = some y → i < e.k → (flatE e ys)[j * e.k + i]? = (e.enc y)[i]?
  | [], j, i, y, h, _ => by simp at h
  | x :: xs, 0, i, y, h, hi => by
    simp at h
    subst h
    rw [flatE_cons, List.getElem?_append_left (by rw [e.len]; omega)]
    congr 1
    omega
  | x :: xs, j + 1, i, y, h, hi => by
    have := flatE_get xs j i y (by simpa using h) hi
    rw [flatE_cons, List.getElem?_append_right (by rw [e.len, Nat.add_mul]; omega), e.len, ← this]
    congr 1
    rw [Nat.add_mul]
    omega
theorem flatE_one (ys : List α) : ∀ u ∈ flatE e ys, u.oneCell' = true := by
  intro u hu
  unfold flatE at hu
  rw [List.mem_flatMap] at hu
  obtain ⟨y, _, hy⟩ := hu
  exact e.one y u hy
theorem flatE_take (ys : List α) (j : Nat) : flatE e (ys.take j) = (flatE e ys).take (j * e.k) := by
  induction ys generalizing j with
  | nil => simp [flatE]
  | cons y ys ih =>
    cases j with
    | zero => simp [flatE]
    | succ j =>
      rw [List.take_succ_cons, flatE_cons, flatE_cons, ih, Nat.add_mul, List.take_append, e.len, List.take_of_length_le (l := e.enc y) (by rw [e.len]; omega), Nat.one_mul, Nat.add_sub_cancel]
theorem flatE_drop (ys : List α) (j : Nat) : flatE e (ys.drop j) = (flatE e ys).drop (j * e.k) := by
  induction ys generalizing j with
  | nil => simp [flatE]
  | cons y ys ih =>
    cases j with
    | zero => simp
    | succ j =>
      rw [List.drop_succ_cons, ih, flatE_cons, Nat.add_mul, List.drop_append, e.len, List.drop_of_length_le (l := e.enc y) (by rw [e.len]; omega), Nat.one_mul, Nat.add_sub_cancel, List.nil_append]
/-- a slice value of n elements that reads as ys -/
def SL (e : En α) (w : World) (A : Option Addr) (n : Nat) (ys : List α) : Prop :=
  ys.length = n ∧ (0 < n → ∃ b o, A = some ⟨b, o, none⟩ ∧ b < w.heap.size ∧ ∀ j u, (flatE e ys)[j]? = some u → w.cell? ⟨b, o + j, none⟩ = some u)
variable {w w' : World} {A : Option Addr} {n c : Nat} {ys : List α} {F : Nat → Prop}
theorem SL.keep (h : SL e w A n ys) (hb : Below w.heap.size w w') : SL e w' A n ys :=
  ⟨h.1, fun hn => by
    obtain ⟨b, o, e, hl, hc⟩ := h.2 hn
    exact ⟨b, o, e, Nat.lt_of_lt_of_le hl hb.size, fun j u hu => (hb.cell (p := ⟨b, o + j, none⟩) hl).trans (hc j u hu)⟩⟩
theorem SL.turn (h : SL e w A n ys) (t : Turn F w w') (hs : 0 < n → ∀ g, Blk A g → ¬ F g) : SL e w' A n ys :=
  ⟨h.1, fun hn => by
    obtain ⟨b, o, e, hl, hc⟩ := h.2 hn
    exact ⟨b, o, e, Nat.lt_of_lt_of_le hl t.size, fun j u hu => (World.cell?_of_block (a := ⟨b, o + j, none⟩) (t.block b hl (hs hn b ⟨o, none, e⟩))).trans (hc j u hu)⟩⟩
theorem SL.nil_ (w : World) (A : Option Addr) : SL e w A 0 [] := ⟨rfl, fun h => absurd h (by decide)⟩
theorem SL.zero_ (h : SL e w A 0 ys) : ys = [] := List.length_eq_zero_iff.1 h.1
theorem SL.base (h : SL e w A n ys) (hn : 0 < n) : ∃ b o, A = some ⟨b, o, none⟩ ∧ b < w.heap.size := by
  obtain ⟨b, o, e, hl, _⟩ := h.2 hn
  exact ⟨b, o, e, hl⟩
theorem SL.at_ (h : SL e w A n ys) {j : Nat} (hj : j < n) : ∃ b o y, A = some ⟨b, o, none⟩ ∧ b < w.heap.size ∧ ys[j]? = some y ∧ ∀ i u, i < e.k → (e.enc y)[i]? = some u → w.cell? ⟨b, o + j * e.k + i, none⟩ = some u := by
  obtain ⟨b, o, ea, hl, hc⟩ := h.2 (by omega)
  have hj' : j < ys.length := by rw [h.1]; exact hj
  have hx : ys[j]? = some ys[j] := List.getElem?_eq_getElem hj'
  exact ⟨b, o, _, ea, hl, hx, fun i u hi hu => by
    rw [Nat.add_assoc]
    exact hc _ _ ((flatE_get ys j i _ hx hi).trans hu)⟩
/-- a row of the call's own -/
def Ow (e : En α) (w : World) (base : Nat) (A : Option Addr) (n c : Nat) (ys : List α) : Prop := w.ownsRow base e.t e.k (.slice A n c) n (flatE e ys)
theorem Ow.len {B : Nat} (h : Ow e w B A n c ys) : ys.length = n := by
  have := h.1
  rw [flatE_len] at this
  exact Nat.eq_of_mul_eq_mul_right e.pos this
theorem Ow.le {B : Nat} (h : Ow e w B A n c ys) : n ≤ c ∧ c ≤ maxLen := owns_le h
theorem Ow.sl {B : Nat} (h : Ow e w B A n c ys) : SL e w A n ys := by
  refine ⟨h.len, fun hn => ?_⟩
  rcases h.2 with ⟨h1, h0⟩ | ⟨g, cap, cur, h1, _⟩
  · omega
  · injection h1 with e1 e2 e3
    subst e1; subst e3
    exact ⟨g, 0, rfl, (World.ownsRow.lt h g rfl).2, fun j u hu => by
      rw [Nat.zero_add, World.ownsRow.cellAt h j (by have := (List.getElem?_eq_some_iff.1 hu).1; rwa [flatE_len, h.len] at this)]
      exact hu⟩
theorem Ow.turn {B : Nat} (h : Ow e w B A n c ys) (t : Turn F w w') (hs : ∀ g, Blk A g → ¬ F g) : Ow e w' B A n c ys := t.owns h hs
theorem Ow.low {B B' : Nat} (h : Ow e w B A n c ys) (hb : B' ≤ B) : Ow e w B' A n c ys := owns_low h hb
theorem Ow.blk {B : Nat} (h : Ow e w B A n c ys) : ∀ g, Blk A g → B ≤ g ∧ g < w.heap.size := owns_blk h
theorem Ow.nil_ (w : World) (B : Nat) : Ow e w B none 0 0 [] := ⟨by simp [flatE], .inl ⟨rfl, rfl⟩⟩
theorem Ow.pos {B : Nat} (h : Ow e w B A n c ys) (hn : 0 < n) : ∃ g, A = some ⟨g, 0, none⟩ ∧ B ≤ g ∧ g < w.heap.size := by
  rcases h.2 with ⟨h1, h0⟩ | ⟨g, cap, cur, h1, _⟩
  · omega
  · injection h1 with e1 e2 e3
    subst e1
    have := h.blk g ⟨0, none, rfl⟩
    exact ⟨g, rfl, this.1, this.2⟩
theorem Ow.keep {B : Nat} (h : Ow e w B A n c ys) (hb : Below w.heap.size w w') : Ow e w' B A n c ys := h.turn (Turn.of (F := Non) hb) (fun _ _ h => h)
end
def CellsD (w : World) (b o : Nat) (y : Dec) : Prop := w.cell? ⟨b, o, none⟩ = some (.int .i64 y.u) ∧ w.cell? ⟨b, o + 1, none⟩ = some (.int .i64 y.n) ∧ w.cell? ⟨b, o + 2, none⟩ = some (.int .i64 y.k) ∧ w.cell? ⟨b, o + 3, none⟩ = some (.int .i64 y.a) ∧ w.cell? ⟨b, o + 4, none⟩ = some (.int .i64 y.b)
def CellsM (w : World) (b o : Nat) (y : Mk) : Prop := w.cell? ⟨b, o, none⟩ = some (.int .i64 y.u) ∧ w.cell? ⟨b, o + 1, none⟩ = some (.int .i64 y.n)
end Go.Proofs.Ytadmiecoahohiaa
