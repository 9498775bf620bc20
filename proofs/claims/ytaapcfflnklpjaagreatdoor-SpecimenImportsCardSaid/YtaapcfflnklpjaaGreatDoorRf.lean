/- A range over an iterator that keeps its state in a cell of its own. -/
import Derived.Test.YtaapcfflnklpjaaGreatDoorYA
import Derived.RangeFuncNested
import Derived.RangeFuncBound
import Derived.RangeFuncCalls
import Derived.RangeFuncLeaves
import Derived.Shelf.Abstract
import Derived.Shelf.RegionOpen
import Derived.WalkKit
import Derived.OwnWalkIn
import Derived.TacticsInMore
import Derived.LoopNIn
import Derived.LoopIn
namespace Go.Proofs.YtaapcfflnklpjaaGreatDoor
open Go Go.RowKit

/-- the blocks from lo on, below hi, lie as they lay -/
def Lie (lo hi : Nat) (A B : World) : Prop := ∀ k, lo ≤ k → k < hi → B.heap[k]? = A.heap[k]?
theorem Lie.refl (lo hi : Nat) (A : World) : Lie lo hi A A := fun _ _ _ => rfl
theorem Lie.trans {lo hi : Nat} {A B C : World} (h : Lie lo hi A B) (k : Lie lo hi B C) : Lie lo hi A C := fun i h1 h2 => (k i h1 h2).trans (h i h1 h2)
theorem Lie.of_below {lo hi : Nat} {A B : World} (h : Below hi A B) : Lie lo hi A B := fun k _ h2 => h.block k h2
theorem Lie.put {lo hi l : Nat} {A : World} (o : Obj) (h : hi ≤ l) : Lie lo hi A (A.putObj l o) := fun k _ h2 => World.putObj_heap_other (by omega)
theorem Lie.set {lo hi g i : Nat} {A : World} (v : Value) (h : g < lo) : Lie lo hi A (A.setCell ⟨g, i, none⟩ v) := fun k h1 _ => Below.heap_setCell _ _ _ _ (by show k ≠ g; omega)
theorem Lie.low {lo hi lo' hi' : Nat} {A B : World} (h : Lie lo hi A B) (h1 : lo ≤ lo') (h2 : hi' ≤ hi) : Lie lo' hi' A B := fun k a b => h k (by omega) (by omega)

/-- how a round's body ends: the blocks of the loop and of the iterator lie as they lay -/
def Ends {α : Type} (lo hi : Nat) (I : List α → World → Prop) (Ix : Code → List α → World → Prop) (xs : List α) (W : World) : Exit → Act → World → Prop
  | .normal, _, W' => Lie lo hi W W' ∧ I xs W'
  | .ret, _, W' => Lie lo hi W W' ∧ Ix .ret xs W'
  | .exit i, _, W' => Lie lo hi W W' ∧ Ix (.exit i) xs W'
  | .goto t, _, W' => Lie lo hi W W' ∧ Ix (.goto t) xs W'
  | .panic _, _, _ => False
  | .outgrown, _, _ => False
/-- what an iterator owes: whatever the rounds keep and carry on, it carries on to its end, or to where a round says 'no more' -/
def Iter {α : Type} (F : Fence) (n : Nat) (P : Program) (gf : Nat) (lb : Array Value) (encs : α → Array Value) (M : World → Prop) (l lo hi Bs : Nat) (S Sp : List α → Prop) (N : Nat) (w : World) : Prop :=
  ∀ (J Jx : List α → World → Prop) (W : World), Lie lo hi w W →
    (∀ s A v, J s A → J s (A.setCell ⟨Bs, 0, none⟩ v)) → (∀ s A v, Jx s A → Jx s (A.setCell ⟨Bs, 0, none⟩ v)) → (∀ s A, J s A → M A) →
    (∀ pre x A, J pre A → pre.length < N → YieldAt F (n - 1) P l (encs x) A fun e A' => (e = .returned (.bool true) ∧ J (pre ++ [x]) A' ∧ Lie lo hi A A') ∨ (e = .returned (.bool false) ∧ Jx (pre ++ [x]) A')) →
    J [] W → CallsIn F n P gf (#[.func (.yield l) #[] #[]] ++ lb) W fun e W' => (∃ v, e = .returned v) ∧ ((∃ xs, S xs ∧ J xs W') ∨ ∃ pre, Sp pre ∧ Jx pre W')
theorem range_state {α : Type} {F : Fence} {n : Nat} {P : Program} {g : Operand} {ps : Array Tmp} {assign body : Code} {Q : Exit → Act → World → Prop} {a : Act} {w : World}
    (hro : F.round = none) (h1 : 1 ≤ n) {gf : Nat} {lb : Array Value} (hg : a.eval g = .func (.func gf) #[] lb) (hF : F.fn gf) (eg : ∀ args w, (callFunc gf args).run P w = .ok (.enter gf args) w)
    {encs : α → Array Value} (hps : ∀ x, (encs x).size = ps.size) {M : World → Prop} {lo Bs : Nat} (hlo : lo ≤ w.heap.size) (hBs : Bs < w.heap.size) {S Sp : List α → Prop} {N : Nat}
    (hit : Iter F (n - 1) P gf lb encs M (w.heap.size + 1) lo w.heap.size Bs S Sp N w)
    (I : List α → World → Prop) (Ix : Code → List α → World → Prop)
    (hIs : ∀ s A v, I s A → I s (A.setCell ⟨Bs, 0, none⟩ v)) (hXs : ∀ c s A v, Ix c s A → Ix c s (A.setCell ⟨Bs, 0, none⟩ v))
    (hIp : ∀ s A o, I s A → I s (A.putObj (w.heap.size + 1) o)) (hXp : ∀ c s A o, Ix c s A → Ix c s (A.putObj (w.heap.size + 1) o)) (hIM : ∀ s A, I s A → M A)
    (h0 : ∀ o o', I [] ((w.alloc o).alloc o')) (a₁ : α → Act)
    (hassign : ∀ (x : α) (A : World) (K : Act → World → Prop), K (a₁ x) A →
      assign.wpIn (F.inRound (w.heap.size + 1)) (n - 1 - 1) P (Exit.then K (fun _ _ _ => False)) { tmps := (ps.zip (encs x)).foldl (fun t (p, v) => t.setIfInBounds p v) a.tmps, defers := [] } A)
    (hbody : ∀ (pre : List α) (x : α) (A : World), I pre A → w.heap.size + 1 < A.heap.size → pre.length < N → body.wpIn (F.inRound (w.heap.size + 1)) (n - 1 - 1) P (Ends lo (w.heap.size + 2) I Ix (pre ++ [x]) A) (a₁ x) A)
    (hdone : ∀ (xs : List α) (A : World), S xs → I xs A → A.heap[w.heap.size]? = some (.deferred (some [])) → Q .normal { a with defers := { target := .collected w.heap.size, args := #[] } :: a.defers } A)
    (hstop : ∀ (c : Code) (pre : List α) (A : World), Sp pre → Ix c pre A → A.heap[w.heap.size]? = some (.deferred (some [])) → c.wpIn F n P Q { a with defers := { target := .collected w.heap.size, args := #[] } :: a.defers } A) :
    (Code.rangeFunc g ps assign body).wpIn F n P Q a w := by
  refine wpIn_rangeFunc fun fn hfn => ?_
  rw [hro]
  obtain ⟨l, hl⟩ : ∃ l, l = w.heap.size + 1 := ⟨_, rfl⟩
  rw [← hl] at hit hIp hXp hassign hbody
  let mk : LoopState → Option Code → Obj := fun st pe => .loop { state := st, pending := pe, fn, tmps := a.tmps, params := ps, assign, body, defers := w.heap.size }
  let D : Obj := .deferred (some [])
  obtain ⟨V, hV⟩ : ∃ V, (w.alloc D).alloc (mk .ready none) = V := ⟨_, rfl⟩
  have V1 : V.heap[l]? = some (mk .ready none) := by
    rw [← hV, hl, ← World.size_alloc w D]
    exact World.alloc_heap_new _ _
  have V0 : V.heap[w.heap.size]? = some D := by
    rw [← hV]
    exact (Below.heap_alloc _ _ _ (by simp)).trans (World.alloc_heap_new w _)
  have VL : Lie lo w.heap.size w V := by
    rw [← hV]
    exact Lie.of_below (((Below.refl _ w).alloc (Nat.le_refl _) _).alloc (by simp) _)
  have VI : I [] V := by rw [← hV]; exact h0 _ _
  refine ⟨l, [{ target := .collected w.heap.size, args := #[] }], V, { target := .fn (.func gf) lb, args := #[.func (.yield l) #[] #[]] }, V, gf, #[.func (.yield l) #[] #[]] ++ lb, V, ?_, ?_, ?_, ?_, fun _ => h1, ?_⟩
  · rw [← hV, hl]; exact run_enterLoop_outer _ _ _ _ _
  · simp only [resolve, hg]
    simp [go_sem]
  · intro f' hf'
    simp [Target.leads] at hf'
    subst hf'
    exact hF
  · simp [invoke, go_sem, eg]
  -- the iterator, with the loop's two blocks in the invariants
  let J : List α → World → Prop := fun s A => I s A ∧ A.heap[l]? = some (mk .ready none) ∧ A.heap[w.heap.size]? = some D
  let Jx : List α → World → Prop := fun s A => ∃ c, Ix c s A ∧ A.heap[l]? = some (mk .done (some c)) ∧ A.heap[w.heap.size]? = some D
  have hset : ∀ (A : World) (v : Value) (k : Nat) (o : Obj), k ≠ Bs → A.heap[k]? = some o → (A.setCell ⟨Bs, 0, none⟩ v).heap[k]? = some o := fun A v k o hk h => (Below.heap_setCell _ _ _ _ hk).trans h
  refine (hit J Jx V VL (fun s A v ⟨p, q, r⟩ => ⟨hIs s A v p, hset A v l _ (by omega) q, hset A v _ _ (by omega) r⟩)
    (fun s A v ⟨c, p, q, r⟩ => ⟨c, hXs c s A v p, hset A v l _ (by omega) q, hset A v _ _ (by omega) r⟩) (fun s A ⟨p, _⟩ => hIM s A p) ?_ ⟨VI, V1, V0⟩).mono ?_
  · rintro pre x A ⟨p, q, r⟩ hN
    have hlt : l < A.heap.size := (Array.getElem?_eq_some_iff.1 q).1
    refine ⟨fn, _, assign, body, run_yield q (hps x), roundIn_of_wpIn hfn (hassign x A _ ⟨_, run_beginRound q rfl, ?_⟩)⟩
    let A2 : World := A.putObj l (mk .busy none)
    have q2 : A2.heap[l]? = some (mk .busy none) := World.putObj_heap_same hlt
    have r2 : A2.heap[w.heap.size]? = some D := (World.putObj_heap_other (by omega)).trans r
    have L2 : Lie lo w.heap.size A A2 := Lie.put _ (by omega)
    have over : ∀ (jump : Option Code) (A3 : World), Lie lo (w.heap.size + 2) A2 A3 → ∃ A4 : World, (Instr.endRound l jump).run P A3 = .ok (.bool jump.isNone) A4 ∧ A4 = A3.putObj l (mk (if jump.isNone then .ready else .done) jump) ∧
        A4.heap[l]? = some (mk (if jump.isNone then .ready else .done) jump) ∧ A4.heap[w.heap.size]? = some D ∧ Lie lo w.heap.size A A4 := by
      intro jump A3 h3
      have q3 : A3.heap[l]? = some (mk .busy none) := (h3 l (by omega) (by omega)).trans q2
      have hlt3 : l < A3.heap.size := (Array.getElem?_eq_some_iff.1 q3).1
      refine ⟨_, run_endRound jump q3, rfl, World.putObj_heap_same hlt3, (World.putObj_heap_other (by omega)).trans ((h3 _ hlo (by omega)).trans r2), ?_⟩
      exact (L2.trans (h3.low (Nat.le_refl _) (by omega))).trans (Lie.put _ (by omega))
    refine wpIn_mono (hbody pre x A2 (hIp _ _ _ p) (by show l < A2.heap.size; exact (Array.getElem?_eq_some_iff.1 q2).1) hN) fun e a3 A3 hp => ?_
    cases e with
    | normal =>
      obtain ⟨h3, i3⟩ := hp
      obtain ⟨A4, hr, e4, q4, r4, L4⟩ := over none A3 h3
      exact ⟨_, A4, hr, .inl ⟨rfl, ⟨by rw [e4]; exact hIp _ _ _ i3, q4, r4⟩, L4⟩⟩
    | ret =>
      obtain ⟨h3, i3⟩ := hp
      obtain ⟨A4, hr, e4, q4, r4, _⟩ := over (some .ret) A3 h3
      exact ⟨_, A4, hr, .inr ⟨rfl, .ret, by rw [e4]; exact hXp _ _ _ _ i3, q4, r4⟩⟩
    | exit id =>
      obtain ⟨h3, i3⟩ := hp
      obtain ⟨A4, hr, e4, q4, r4, _⟩ := over (some (.exit id)) A3 h3
      exact ⟨_, A4, hr, .inr ⟨rfl, .exit id, by rw [e4]; exact hXp _ _ _ _ i3, q4, r4⟩⟩
    | goto t =>
      obtain ⟨h3, i3⟩ := hp
      obtain ⟨A4, hr, e4, q4, r4, _⟩ := over (some (.goto t)) A3 h3
      exact ⟨_, A4, hr, .inr ⟨rfl, .goto t, by rw [e4]; exact hXp _ _ _ _ i3, q4, r4⟩⟩
    | panic _ => exact hp.elim
    | outgrown => exact hp.elim
  · rintro e A ⟨⟨v, rfl⟩, ⟨xs, hs, p, q, r⟩ | ⟨pre, hs, c, p, q, r⟩⟩
    · exact ⟨none, _, run_endLoop q (by intro h; cases h), hdone xs _ hs (hIp _ _ _ p) ((World.putObj_heap_other (by omega)).trans r)⟩
    · exact ⟨some c, _, run_endLoop q (by intro h; cases h), hstop c pre _ hs (hXp _ _ _ _ p) ((World.putObj_heap_other (by omega)).trans r)⟩
end Go.Proofs.YtaapcfflnklpjaaGreatDoor
