/- Words for memory with a footprint: what may have turned is named. -/
import Derived.Test.YtjmpnpflmdpdkaaFROp
import Derived.Test.YtjmpnpflmdpdkaaJM
import Derived.Lib.FrozenHead
namespace Go.Proofs.Ytjmpnpflmdpdkaa
open Go Go.RowKit FM

/-- only the blocks of F, and what is new, have turned -/
structure Turn (F : Nat → Prop) (w w' : World) : Prop where
  os : w'.os = w.os
  tape : w'.tape = w.tape
  output : w'.output = w.output
  size : w.heap.size ≤ w'.heap.size
  block : ∀ k, k < w.heap.size → ¬ F k → w'.heap[k]? = w.heap[k]?
/-- a footprint, and what is new since -/
def Plus (F : Nat → Prop) (w w' : World) (k : Nat) : Prop := F k ∨ (w.heap.size ≤ k ∧ k < w'.heap.size)
def Sep (F G : Nat → Prop) : Prop := ∀ k, F k → ¬ G k
/-- the block of an address -/
def Blk (A : Option Addr) (k : Nat) : Prop := ∃ o s, A = some ⟨k, o, s⟩
/-- nothing -/
def Non (_ : Nat) : Prop := False
/-- one block -/
def Is (g k : Nat) : Prop := k = g
section
variable {w w' w'' : World} {F G H : Nat → Prop} {B g : Nat}
theorem Turn.refl (F : Nat → Prop) (w : World) : Turn F w w := ⟨rfl, rfl, rfl, Nat.le_refl _, fun _ _ _ => rfl⟩
theorem Turn.of (h : Below w.heap.size w w') : Turn F w w' := ⟨h.os, h.tape, h.output, h.size, fun k hk _ => h.block k hk⟩
theorem Turn.trans (h : Turn F w w') (k : Turn F w' w'') : Turn F w w'' :=
  ⟨k.os.trans h.os, k.tape.trans h.tape, k.output.trans h.output, Nat.le_trans h.size k.size, fun i hi hn => (k.block i (Nat.lt_of_lt_of_le hi h.size) hn).trans (h.block i hi hn)⟩
theorem Turn.mono (h : Turn F w w') (hm : ∀ k, k < w.heap.size → F k → H k) : Turn H w w' := ⟨h.os, h.tape, h.output, h.size, fun i hi hn => h.block i hi fun hf => hn (hm i hi hf)⟩
/-- what has turned in a grown footprint, seen from before -/
theorem Turn.trans2 (h : Turn F w w') (k : Turn G w' w'') (hm : ∀ i, i < w.heap.size → G i → F i) : Turn F w w'' :=
  ⟨k.os.trans h.os, k.tape.trans h.tape, k.output.trans h.output, Nat.le_trans h.size k.size, fun i hi hn => (k.block i (Nat.lt_of_lt_of_le hi h.size) (fun hg => hn (hm i hi hg))).trans (h.block i hi hn)⟩
theorem Turn.next (h : Turn F w w') (k : Below w'.heap.size w' w'') : Turn F w w'' := h.trans (Turn.of k)
theorem Turn.below (h : Turn F w w') (hF : ∀ k, F k → B ≤ k) (hB : B ≤ w.heap.size) : Below B w w' := ⟨h.os, h.tape, h.output, h.size, fun k hk => h.block k (by omega) fun hf => by have := hF k hf; omega⟩
theorem Turn.onto {W : World} (h0 : Below W.heap.size W w) (h : Turn F w w') (hF : ∀ k, F k → W.heap.size ≤ k) : Below W.heap.size W w' := h0.trans (h.below hF h0.size)
theorem Turn.grown {row : Option Nat} (h : w.grownBy w' row) (hm : ∀ k, row = some k → F k) : Turn F w w' := ⟨h.os, h.tape, h.output, h.size, fun i hi hn => h.block i hi (fun e => hn (hm i e.symm))⟩
theorem Turn.set (h : Turn F w w') (i : Nat) (v : Value) (hF : F g) : Turn F w (w'.setCell ⟨g, i, none⟩ v) :=
  ⟨h.os, h.tape, h.output, by simpa [World.setCell] using h.size, fun k hk hn => (Below.heap_setCell w' ⟨g, i, none⟩ v k (fun e => hn (by rw [e]; exact hF))).trans (h.block k hk hn)⟩
theorem Turn.setN (h : Turn F w w') (i : Nat) (v : Value) (hg : w.heap.size ≤ g) : Turn F w (w'.setCell ⟨g, i, none⟩ v) :=
  ⟨h.os, h.tape, h.output, by simpa [World.setCell] using h.size, fun k hk hn => (Below.heap_setCell w' ⟨g, i, none⟩ v k (fun e => by subst e; omega)).trans (h.block k hk hn)⟩
theorem Turn.box {vs : Array Value} {t : TypeId} (h : Turn F w w') (hb : Box w g vs t) (hn : ¬ F g) : Box w' g vs t := (h.block g hb.lt hn).trans hb
theorem Plus.l {k : Nat} (h : F k) : Plus F w w' k := .inl h
theorem Sep.symm (h : Sep F G) : Sep G F := fun k hg hf => h k hf hg
theorem Sep.plus (h : Sep F G) (hG : ∀ k, G k → k < w.heap.size) : Sep (Plus F w w') G := fun k hk hg => by
  rcases hk with hk | hk
  · exact h k hk hg
  · have := hG k hg; omega
theorem Sep.new (hF : ∀ k, F k → w.heap.size ≤ k) (hG : ∀ k, G k → k < w.heap.size) : Sep F G := fun k hk hg => by have := hF k hk; have := hG k hg; omega
theorem Sep.non (F : Nat → Prop) : Sep F Non := fun _ _ h => h
theorem plus_lt (hF : ∀ k, F k → k < w.heap.size) (hs : w.heap.size ≤ w'.heap.size) : ∀ k, Plus F w w' k → k < w'.heap.size := fun k hk => by
  rcases hk with hk | hk
  · have := hF k hk; omega
  · exact hk.2
theorem plus_ge (hF : ∀ k, F k → B ≤ k) (hB : B ≤ w.heap.size) : ∀ k, Plus F w w' k → B ≤ k := fun k hk => by
  rcases hk with hk | hk
  · exact hF k hk
  · omega
theorem Turn.rl {k : IntKind} {A : Option Addr} {n : Nat} {xs : List Nat} (h : Turn F w w') (hr : RL w k A n xs) (hs : 0 < n → ∀ g, Blk A g → ¬ F g) : RL w' k A n xs :=
  ⟨hr.1, fun hn => by
    obtain ⟨b, o, e, hc⟩ := hr.2 hn
    have hb := hr.lt hn b o e
    exact ⟨b, o, e, fun j u hu => (World.cell?_of_block (a := ⟨b, o + j, none⟩) (h.block b hb (hs hn b ⟨o, none, e⟩))).trans (hc j u hu)⟩⟩
theorem Turn.br {A : Option Addr} {n : Nat} {xs : List Nat} (h : Turn F w w') (hr : BR w A n xs) (hs : 0 < n → ∀ g, Blk A g → ¬ F g) : BR w' A n xs := ⟨h.rl hr.1 hs, hr.2⟩
theorem Turn.owns {base : Nat} {e : TypeId} {size n c : Nat} {A : Option Addr} {vs : List Value} (h : Turn F w w') (hr : w.ownsRow base e size (.slice A n c) n vs) (hs : ∀ g, Blk A g → ¬ F g) : w'.ownsRow base e size (.slice A n c) n vs := by
  refine ⟨hr.1, ?_⟩
  rcases hr.2 with h0 | ⟨g, cap, cur, hv, hb, hg, r⟩
  · exact .inl h0
  · refine .inr ⟨g, cap, cur, hv, hb, ?_, r⟩
    have hlt : g < w.heap.size := by
      rcases Nat.lt_or_ge g w.heap.size with h1 | h1
      · exact h1
      · rw [Array.getElem?_eq_none h1] at hg; cases hg
    injection hv with e1 _ _
    exact (h.block g hlt (hs g ⟨0, none, e1⟩)).trans hg
theorem owns_blk {base : Nat} {e : TypeId} {size n c : Nat} {A : Option Addr} {vs : List Value} (hr : w.ownsRow base e size (.slice A n c) n vs) : ∀ g, Blk A g → base ≤ g ∧ g < w.heap.size := by
  rintro g ⟨o, s, rfl⟩
  exact World.ownsRow.lt hr g rfl
theorem blk_own {A : Option Addr} {n c g : Nat} : (Value.slice A n c).ownBlock = some g ↔ Blk A g := by
  cases A with
  | none => simp [Value.ownBlock, Blk]
  | some a => obtain ⟨b, o, s⟩ := a; simp [Value.ownBlock, Blk]
theorem blk_none {g : Nat} : ¬ Blk none g := by rintro ⟨o, s, e⟩; cases e
theorem blk_some {b o g : Nat} {s : Option Nat} : Blk (some ⟨b, o, s⟩) g ↔ g = b := by
  constructor
  · rintro ⟨_, _, e⟩; injection e with e; injection e with e; exact e.symm
  · rintro rfl; exact ⟨_, _, rfl⟩
theorem owns_low {base b' : Nat} {e : TypeId} {size n : Nat} {v : Value} {vs : List Value} (hr : w.ownsRow base e size v n vs) (hb : b' ≤ base) : w.ownsRow b' e size v n vs := by
  refine ⟨hr.1, ?_⟩
  rcases hr.2 with h0 | ⟨g, cap, cur, hv, hg, r⟩
  · exact .inl h0
  · exact .inr ⟨g, cap, cur, hv, by omega, r⟩
theorem owns_take {base : Nat} {e : TypeId} {size n c m : Nat} {A : Option Addr} {vs : List Value} (hr : w.ownsRow base e size (.slice A n c) n vs) (hm : m ≤ n) : w.ownsRow base e size (.slice A m c) m (vs.take (m * size)) := by
  have hle : m * size ≤ n * size := Nat.mul_le_mul_right _ hm
  refine ⟨by rw [List.length_take, hr.1]; omega, ?_⟩
  rcases hr.2 with ⟨h1, h0⟩ | ⟨g, cap, cur, hv, hg, h2, h3, h4, h5, h6⟩
  · injection h1 with e1 e2 e3
    subst e1; subst e3
    exact .inl ⟨by rw [show m = 0 by omega], by omega⟩
  · injection hv with e1 _ e3
    subst e1; subst e3
    refine .inr ⟨g, c, cur, rfl, hg, h2, by omega, h4, h5, ?_⟩
    rw [← h6, List.take_take, Nat.min_eq_left hle]
theorem owns_le {base : Nat} {e : TypeId} {size n c : Nat} {A : Option Addr} {vs : List Value} (hr : w.ownsRow base e size (.slice A n c) n vs) : n ≤ c ∧ c ≤ maxLen := by
  rcases hr.2 with ⟨h1, h0⟩ | ⟨g, cap, cur, hv, _, _, h1, h2, _⟩
  · injection h1 with _ e1 e2; subst e1; subst e2; exact ⟨Nat.le_refl _, by simp [maxLen]⟩
  · injection hv with _ _ e; subst e; exact ⟨h1, h2⟩
theorem owns_new {e : TypeId} {size : Nat} {B : Nat} (w : World) (hB : B ≤ w.heap.size) : (w.alloc (.cells #[] e)).ownsRow B e size (.slice (some ⟨w.heap.size, 0, none⟩) 0 0) 0 [] :=
  ⟨by simp, .inr ⟨w.heap.size, 0, #[], rfl, hB, heap_alloc_new w _, Nat.le_refl _, by simp [maxLen], by simp, by simp⟩⟩
end
/-- append to a row of the call's own, whatever its cells -/
theorem run_append_ow {P : Program} (w : World) (base : Nat) (t ty e : TypeId) (z : Value) (size bytes : Nat) (ht : P.underlying t = some (.slice e)) (h2 : (P.info? e).map (fun i => (i.zero, i.size, i.bytes)) = some (some z, size, bytes))
    (hzs : z.cells.size = size) (hsz : 0 < size) (S : Option Addr) (n cs : Nat) (vs : List Value) (hown : w.ownsRow base e size (.slice S n cs) n vs) (A : Option Addr) (m c : Nat) (news : List Value)
    (hl : news.length = m * size) (hr : 0 < m → ∃ a, A = some a ∧ ∀ j u, news[j]? = some u → w.cell? (a.add j) = some u) (h1 : ∀ u ∈ news, u.oneCell' = true) (hby : bytes ≤ 32) (hN : n + m ≤ 1000000) (hbase : base ≤ w.heap.size) :
    ∃ A' c' w', (Builtin.append_ #[t, t] ty #[.slice S n cs, .slice A m c]).run P w = .ok (.slice A' (n + m) c') w' ∧ w'.ownsRow base e size (.slice A' (n + m) c') (n + m) (vs ++ news) ∧ Turn (Blk S) w w' ∧ (∀ g, Blk A' g → Blk S g ∨ (w.heap.size ≤ g ∧ g < w'.heap.size)) := by
  obtain ⟨i, hi, hz, hs, hb⟩ := info_parts h2
  have big : (n + m) * bytes ≤ 140737488355328 := by have : (n + m) * bytes ≤ 1000000 * 32 := Nat.mul_le_mul hN hby; omega
  cases A with
  | some a =>
    have hnews : ∀ j u, news[j]? = some u → w.cell? (a.add j) = some u := by
      intro j u hu
      have hm : 0 < m := by
        rcases Nat.eq_zero_or_pos m with h | h
        · subst h
          have : news = [] := List.eq_nil_of_length_eq_zero (by simpa using hl)
          subst this; simp at hu
        · exact h
      obtain ⟨a', e', hc⟩ := hr hm
      injection e' with e'; subst e'
      exact hc j u hu
    obtain ⟨v', w', hrun, r1, r2, _, r4⟩ := run_append_own_at (P := P) w base t ty e i z size bytes ht hi hz hs hb hzs hsz _ n vs hown a m c news hl hnews h1 (by simp only [maxLen]; omega) big hbase
    have hv : ∃ A' c', v' = .slice A' (n + m) c' := by
      rcases r1.2 with ⟨h, h0⟩ | ⟨g', cap', _, h, _⟩
      · exact ⟨none, 0, by rw [h, h0]⟩
      · exact ⟨_, _, h⟩
    obtain ⟨A', c', rfl⟩ := hv
    refine ⟨A', c', w', hrun, r1, Turn.grown r2 (fun k hk => blk_own.1 hk), fun g hg => ?_⟩
    have h3 := (owns_blk r1 g hg).2
    have hg2 := blk_own (n := n + m) (c := c') |>.2 hg
    rcases r4 with h | h
    · left; rw [h] at hg2; exact blk_own.1 hg2
    · right; rw [h] at hg2; injection hg2 with hg2; omega
  | none =>
    have hm : m = 0 := by
      rcases Nat.eq_zero_or_pos m with h | h
      · exact h
      · obtain ⟨a, e, _⟩ := hr h; cases e
    subst hm
    have hy : news = [] := List.eq_nil_of_length_eq_zero (by simpa using hl)
    subst hy
    rw [List.append_nil]
    refine ⟨S, cs, w, ?_, hown, Turn.refl _ _, fun g hg => .inl hg⟩
    have hle := (owns_le hown).1
    rcases hown.2 with ⟨h1, _⟩ | ⟨g, cap, cur, h1, _⟩
    · injection h1 with e1 e2 e3
      subst e1; subst e2; subst e3
      simp [Builtin.append_, run_underlying ht, sizeOf, typeInfo, hi, Builtin.lenOf, Builtin.firstCells]
    · injection h1 with e1 _ e3
      subst e1; subst e3
      simp [Builtin.append_, run_underlying ht, sizeOf, typeInfo, hi, Builtin.lenOf, Builtin.firstCells, hle, storeCells]
/-- append that must grow: the old row is only read -/
theorem run_append_gr {P : Program} (w : World) (base : Nat) (t ty e : TypeId) (k : IntKind) (bytes : Nat) (ht : P.underlying t = some (.slice e)) (h2 : (P.info? e).map (fun i => (i.zero, i.size, i.bytes)) = some (some (.int k 0), 1, bytes))
    (S : Option Addr) (n cs : Nat) (xs : List Nat) (hS : RL w k S n xs) (hn : 0 < n) (A : Option Addr) (m c : Nat) (ys : List Nat) (hA : RL w k A m ys) (hm : 0 < m) (hfull : cs = n) (hby : bytes ≤ 32) (hN : n + m ≤ 1000000) (hbase : base ≤ w.heap.size) :
    ∃ A' c' w', (Builtin.append_ #[t, t] ty #[.slice S n cs, .slice A m c]).run P w = .ok (.slice A' (n + m) c') w' ∧ w'.ownsRow base e 1 (.slice A' (n + m) c') (n + m) (cells k (xs ++ ys)) ∧ Below w.heap.size w w' ∧ (∀ g, Blk A' g → w.heap.size ≤ g ∧ g < w'.heap.size) := by
  obtain ⟨i, hi, hz, hs, hb⟩ := info_parts h2
  obtain ⟨b, o, rfl, hc⟩ := hS.2 hn
  obtain ⟨b', o', rfl, hc'⟩ := hA.2 hm
  have ha : ∀ (b o j : Nat), (⟨b, o, none⟩ : Addr).add j = ⟨b, o + j, none⟩ := by intro b o j; unfold Addr.add; split <;> simp_all
  have reads : ∀ (b o : Nat) (zs : List Nat), (∀ j x : Nat, zs[j]? = some x → w.cell? ⟨b, o + j, none⟩ = some (.int k (x : Int))) → ∀ j u, (cells k zs)[j]? = some u → w.cell? ((⟨b, o, none⟩ : Addr).add j) = some u := by
    intro b o zs hz j u hu
    rw [cells_getElem?] at hu
    obtain ⟨x, hx, rfl⟩ := Option.map_eq_some_iff.1 hu
    rw [ha]
    exact hz j x hx
  have hr := run_append_grow (P := P) w t ty e i _ ht hi hz ⟨b, o, none⟩ n cs (cells k xs) (by rw [cells_length, hS.1, hs, Nat.mul_one]) (reads b o xs hc) ⟨b', o', none⟩ m c (cells k ys) (by rw [cells_length, hA.1, hs, Nat.mul_one]) (reads b' o' ys hc') (by omega) (by omega) (growslice_fits (by omega) (by rw [hb]; have : (n + m) * bytes ≤ 1000000 * 32 := Nat.mul_le_mul hN hby; omega))
  have hge := grownCap_ge w (n + m) cs e
  have hle := grownCap_le_maxLen w (n + m) cs e (by simp only [maxLen]; omega)
  refine ⟨_, _, _, hr, ⟨by rw [cells_length, List.length_append, hS.1, hA.1]; omega, .inr ⟨w.heap.size, _, _, rfl, hbase, heap_alloc_new w.drew _, hge, hle, ?_, ?_⟩⟩, (Below.refl _ _).drew.alloc (Nat.le_refl _) _, fun g hg => ?_⟩
  · simp only [Array.size_append, List.size_toArray, size_zeroCells, cells_length, hS.1, hA.1]
    simp [Value.cells]
    omega
  · have hl : (cells k (xs ++ ys)).length = (n + m) * 1 := by rw [cells_length, List.length_append, hS.1, hA.1]; omega
    rw [← hl, cells_append]
    simp only [Array.toList_append]
    exact List.take_left
  · have := blk_some.1 hg; subst this; simp
end Go.Proofs.Ytjmpnpflmdpdkaa
