/- Rows of arcs of the call's own. -/
import Derived.Test.YtgmdfaamheblmaaPRow
import Derived.Laws.OwnMore
import Derived.Maps.AppendAt
namespace Go.Proofs.Ytgmdfaamheblmaa
open Go Go.RowKit PM

/-- A row of arcs of the call's own. -/
def AR (w : World) (base : Nat) (A : Option Addr) (n c : Nat) (l : List (Int × Int)) : Prop := w.ownsRow base 42 2 (.slice A n c) n (flatY l)
/-- what has grown: nothing below a bound, nor boxes other than the row's own block -/
def GrowA (B : Nat) (A : Option Addr) (w w' : World) : Prop := Below B w w' ∧ w.heap.size ≤ w'.heap.size ∧ ∀ h vs t, Box w h vs t → (∀ b o, A = some ⟨b, o, none⟩ → b ≠ h) → Box w' h vs t
theorem arc_info : (Try.prog.info? 42).map (fun i => (i.zero, i.size, i.bytes)) = some (some (.agg #[.int .i64 0, .int .i64 0]), 2, 16) := by kernel_rfl
section
variable {w w' : World} {base n c : Nat} {A : Option Addr} {l : List (Int × Int)}
theorem AR.nil_ : AR w base none 0 0 [] := World.ownsRow_nil _ _ _ _
theorem AR.len (h : AR w base A n c l) : l.length = n := by have := h.1; rw [flatY_len] at this; omega
theorem AR.le (h : AR w base A n c l) : n ≤ c ∧ c ≤ maxLen := by
  rcases h.2 with ⟨h1, h0⟩ | ⟨g, cap, cur, hv, _, _, h1, h2, _⟩
  · injection h1 with _ e1 e2; subst e1; subst e2; exact ⟨Nat.le_refl _, by simp [maxLen]⟩
  · injection hv with _ _ e; subst e; exact ⟨h1, h2⟩
theorem AR.lt (h : AR w base A n c l) : ∀ b o, A = some ⟨b, o, none⟩ → base ≤ b ∧ b < w.heap.size := fun b o e => World.ownsRow.lt h b (by rw [e]; rfl)
theorem AR.yl (h : AR w base A n c l) : YL w A n l := by
  refine ⟨h.len, fun hn => ?_⟩
  have hc := h.2
  rcases hc with ⟨_, h0⟩ | ⟨g, cap, cur, hv, _, hg, _⟩
  · omega
  · injection hv with e1 _ _
    subst e1
    refine ⟨g, 0, rfl, (World.ownsRow.lt h g rfl).2, fun j u hu => ?_⟩
    have := World.ownsRow.cells h (g := g) rfl j u hu
    have ea : (⟨g, 0, none⟩ : Addr).add j = ⟨g, 0 + j, none⟩ := by unfold Addr.add; split <;> simp_all
    rw [ea] at this
    exact this
theorem AR.below (h : AR w base A n c l) (hb : Below w.heap.size w w') : AR w' base A n c l :=
  World.ownsRow.kept (row := none) h ⟨hb.os, hb.tape, hb.output, hb.size, fun i hi _ => hb.block i hi⟩ (by cases A <;> simp [Value.ownBlock])
theorem AR.drewN (h : AR w base A n c l) (m : Nat) : AR (w.drewN m) base A n c l := h
theorem AR.low (h : AR w base A n c l) {b' : Nat} (hb : b' ≤ base) : AR w b' A n c l := by
  refine ⟨h.1, ?_⟩
  rcases h.2 with h0 | ⟨g, cap, cur, hv, hg, r⟩
  · exact .inl h0
  · exact .inr ⟨g, cap, cur, hv, by omega, r⟩
end
theorem GrowA.or {B : Nat} {A : Option Addr} {w w' : World} (h : GrowA B A w w') {g : Nat} {R : Nat → Nat → Bool} (ho : OR w g R) (hne : ∀ b o, A = some ⟨b, o, none⟩ → b ≠ g) : OR w' g R := h.2.2 g (cR R) 54 ho hne
theorem growA_of {B : Nat} {A : Option Addr} {n c : Nat} {w w' : World} (hb : B ≤ w.heap.size) (hA : ∀ b o, A = some ⟨b, o, none⟩ → B ≤ b) (hs : A = none ∨ ∃ g, A = some ⟨g, 0, none⟩) (h : w.grownBy w' (Value.slice A n c).ownBlock) : GrowA B A w w' := by
  refine ⟨(Below.refl _ _).grown h hb (fun k hk => ?_), h.size, fun g vs t hg hne => ?_⟩
  · rcases hs with rfl | ⟨g, rfl⟩
    · cases hk
    · cases hk; exact hA g 0 rfl
  · refine (h.block g hg.lt ?_).trans hg
    rcases hs with rfl | ⟨k, rfl⟩
    · intro e; cases e
    · intro e; cases e; exact hne k 0 rfl rfl
/-- 'append(s, xs...)': s the call's own row of arcs, xs whatever reads. -/
theorem run_append_ar {P : Program} (w : World) (base : Nat) (t ty : TypeId) (ht : P.underlying t = some (.slice 42)) (h2 : (P.info? 42).map (fun i => (i.zero, i.size, i.bytes)) = some (some (.agg #[.int .i64 0, .int .i64 0]), 2, 16))
    (S : Option Addr) (n cs : Nat) (xs : List (Int × Int)) (hown : AR w base S n cs xs) (A : Option Addr) (m c : Nat) (ys : List (Int × Int)) (hr : YL w A m ys) (hN : n + m ≤ 100000) (hbase : base ≤ w.heap.size) :
    ∃ A' c' w', (Builtin.append_ #[t, t] ty #[.slice S n cs, .slice A m c]).run P w = .ok (.slice A' (n + m) c') w' ∧ AR w' base A' (n + m) c' (xs ++ ys) ∧ GrowA base S w w' := by
  obtain ⟨i, hi, hz, hs, hb⟩ := info_parts h2
  have hcl : ∀ b o, S = some ⟨b, o, none⟩ → base ≤ b := fun b o e => (hown.lt b o e).1
  have hS : S = none ∨ ∃ g, S = some ⟨g, 0, none⟩ := by
    rcases hown.2 with ⟨h1, _⟩ | ⟨g, cap, cur, h1, _⟩
    · injection h1 with e _ _; exact .inl e
    · injection h1 with e _ _; exact .inr ⟨g, e⟩
  have some_ : ∀ (a : Addr), A = some a → (∀ j u, (flatY ys)[j]? = some u → w.cell? (a.add j) = some u) → ∃ A' c' w', (Builtin.append_ #[t, t] ty #[.slice S n cs, .slice (some a) m c]).run P w = .ok (.slice A' (n + m) c') w' ∧ AR w' base A' (n + m) c' (xs ++ ys) ∧ GrowA base S w w' := by
    intro a _ hnews
    obtain ⟨v', w', hrun, r1, r2, _⟩ := run_append_own (P := P) w base t ty 42 i _ 2 16 ht hi hz hs hb rfl (by decide) _ n (flatY xs) hown a m c (flatY ys) (by rw [flatY_len, hr.1]) hnews (flatY_one ys) (by simp only [maxLen]; omega) (by omega) hbase
    have hv : ∃ A' c', v' = .slice A' (n + m) c' := by
      rcases r1.2 with ⟨h, h0⟩ | ⟨g', cap', _, h, _⟩
      · exact ⟨none, 0, by rw [h, h0]⟩
      · exact ⟨_, _, h⟩
    obtain ⟨A', c', rfl⟩ := hv
    exact ⟨A', c', w', hrun, by unfold AR; rw [flatY_app]; exact r1, growA_of hbase hcl hS r2⟩
  cases A with
  | some a =>
    refine some_ a rfl fun j u hu => ?_
    have hm : 0 < m := by
      have h1 := (List.getElem?_eq_some_iff.1 hu).1
      rw [flatY_len, hr.1] at h1
      omega
    obtain ⟨b, o, e, _, hc⟩ := hr.2 hm
    injection e with e
    subst e
    have ea : (⟨b, o, none⟩ : Addr).add j = ⟨b, o + j, none⟩ := by unfold Addr.add; split <;> simp_all
    rw [ea]
    exact hc j u hu
  | none =>
    have hm : m = 0 := by
      rcases Nat.eq_zero_or_pos m with h | h
      · exact h
      · obtain ⟨b, o, e, _⟩ := hr.2 h; cases e
    subst hm
    have hy : ys = [] := List.eq_nil_of_length_eq_zero hr.1
    subst hy
    rw [List.append_nil]
    refine ⟨S, cs, w, ?_, hown, ⟨Below.refl _ _, Nat.le_refl _, fun _ _ _ h _ => h⟩⟩
    have hle := hown.le.1
    rcases hown.2 with ⟨h1, _⟩ | ⟨g, cap, cur, h1, _⟩
    · injection h1 with e1 e2 e3
      subst e1; subst e2; subst e3
      simp [Builtin.append_, run_underlying ht, sizeOf, typeInfo, hi, Builtin.lenOf, Builtin.firstCells]
    · injection h1 with e1 _ e3
      subst e1; subst e3
      simp [Builtin.append_, run_underlying ht, sizeOf, typeInfo, hi, Builtin.lenOf, Builtin.firstCells, hle, storeCells]
section
variable {P : Program} {w : World} {ops : Array Oper} {rest : List Oper} {o : Oper} {a : Act} {Q : Exit → Act → World → Prop}
theorem wp_append_ar {K : Act → World → Prop} (s x : Operand) (t : TypeId)
    (ho : o.op = .call { callee := .builtin .append, args := #[s, x], argTypes := #[t, t] }) (ht : P.underlying t = some (.slice 42))
    (h2 : (P.info? 42).map (fun i => (i.zero, i.size, i.bytes)) = some (some (.agg #[.int .i64 0, .int .i64 0]), 2, 16))
    (base : Nat) (S : Option Addr) (n cs : Nat) (xs : List (Int × Int)) (hs : a.eval s = .slice S n cs) (hown : AR w base S n cs xs) (A : Option Addr) (m c : Nat) (ys : List (Int × Int)) (hx : a.eval x = .slice A m c) (hr : YL w A m ys) (p : Nat) (hp : p = n + m) (hN : p ≤ 100000) (hbase : base ≤ w.heap.size)
    (hK : ∀ A' c' w', AR w' base A' p c' (xs ++ ys) → GrowA base S w w' → K (a.put o.dst (.slice A' p c')) w') : o.wp P a w K Q := by
  subst hp
  obtain ⟨A', c', w', hrun, h3, h4⟩ := run_append_ar (P := P) w base t o.type ht h2 S n cs xs hown A m c ys hr hN hbase
  unfold Oper.wp execOp
  simp only [ho, resolve, invoke, builtin, Sem.run_bind, Sem.run_pure, Result.andThen_ok, List.map_toArray, List.map_cons, List.map_nil, hs, hx, hrun]
  exact hK _ _ _ h3 h4
theorem wpList_append_ar (hgd : o.guard = none) (s x : Operand) (t : TypeId)
    (ho : o.op = .call { callee := .builtin .append, args := #[s, x], argTypes := #[t, t] }) (ht : P.underlying t = some (.slice 42))
    (h2 : (P.info? 42).map (fun i => (i.zero, i.size, i.bytes)) = some (some (.agg #[.int .i64 0, .int .i64 0]), 2, 16))
    (base : Nat) (S : Option Addr) (n cs : Nat) (xs : List (Int × Int)) (hs : a.eval s = .slice S n cs) (hown : AR w base S n cs xs) (A : Option Addr) (m c : Nat) (ys : List (Int × Int)) (hx : a.eval x = .slice A m c) (hr : YL w A m ys) (p : Nat) (hp : p = n + m) (hN : p ≤ 100000) (hbase : base ≤ w.heap.size)
    (hK : ∀ A' c' w', AR w' base A' p c' (xs ++ ys) → GrowA base S w w' → wpList P ops Q rest (a.put o.dst (.slice A' p c')) w') : wpList P ops Q (o :: rest) a w :=
  wpList_plain hgd fun _ hk => wp_append_ar s x t ho ht h2 base S n cs xs hs hown A m c ys hx hr p hp hN hbase fun A' c' w' h3 h4 => hk _ _ (hK A' c' w' h3 h4)
end
/-- one arc in a new block -/
theorem yl_one (w : World) (t : TypeId) (x y : Int) : YL (w.alloc (.cells #[.int .i64 x, .int .i64 y] t)) (some ⟨w.heap.size, 0, none⟩) 1 [(x, y)] := by
  have hg := Box.new w #[.int .i64 x, .int .i64 y] t
  refine ⟨rfl, fun _ => ⟨w.heap.size, 0, rfl, hg.lt, fun j v hv => ?_⟩⟩
  rw [Nat.zero_add, hg.at_]
  match j, hv with
  | 0, hv => simp [flatY, encY] at hv; subst hv; rfl
  | 1, hv => simp [flatY, encY] at hv; subst hv; rfl
  | j + 2, hv => simp [flatY, encY] at hv
end Go.Proofs.Ytgmdfaamheblmaa
