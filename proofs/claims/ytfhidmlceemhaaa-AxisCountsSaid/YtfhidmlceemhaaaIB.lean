/- Appending to own rows of ints. -/
import Derived.Test.YtfhidmlceemhaaaIA
import Derived.Laws.AppendOwn
namespace Go.Proofs.Ytfhidmlceemhaaa
open Go Go.RowKit Go.Lib
theorem cellsI_app (xs ys : List Int) : cellsI (xs ++ ys) = cellsI xs ++ cellsI ys := by unfold cellsI; rw [List.map_append]
theorem cellsI_one (xs : List Int) : ∀ u ∈ cellsI xs, u.oneCell' = true := by
  intro u hu
  unfold cellsI at hu
  obtain ⟨x, _, rfl⟩ := List.mem_map.1 hu
  rfl
theorem cellsI_at (xs : List Int) (j : Nat) : (cellsI xs)[j]? = (xs[j]?).map (Value.int .i64) := by unfold cellsI; rw [List.getElem?_map]
theorem grown_refl (w : World) (r : Option Nat) : w.grownBy w r := ⟨rfl, rfl, rfl, Nat.le_refl _, fun _ _ _ => rfl⟩
theorem OwnI.keep {w w' : World} {base : Nat} {v : Value} {xs : List Int} (h : OwnI w base v xs) (hb : Below w.heap.size w w') : OwnI w' base v xs := own_keep9 h hb
/-- 'append(s, xs...)', s an own row -/
theorem run_app_i (w : World) (base : Nat) (ty : TypeId) (v : Value) (xs : List Int) (hown : OwnI w base v xs) (A : Option Addr) (m c : Nat) (ys : List Int) (hr : IS w A m ys) (hN : xs.length + m ≤ 1000000) (hbase : base ≤ w.heap.size) :
    ∃ v' w', (Builtin.append_ #[25, 25] ty #[v, .slice A m c]).run Try.prog w = .ok v' w' ∧ OwnI w' base v' (xs ++ ys) ∧ w.grownBy w' v.ownBlock := by
  obtain ⟨i0, hi, hz0, hz1, hz2⟩ := info_parts infoI
  have hl := hr.1
  rcases Nat.eq_zero_or_pos m with h0 | h0
  · subst h0
    obtain rfl : ys = [] := List.eq_nil_of_length_eq_zero hl
    rw [List.append_nil]
    cases A with
    | none =>
      rcases hown.2 with ⟨h1, h0⟩ | ⟨g, cap, cur, h1, _, hg, hnc, _⟩
      · subst h1
        exact ⟨_, w, by simp [Builtin.append_, run_underlying Try.underlying25, sizeOf, typeInfo, hi, Builtin.lenOf, Builtin.firstCells], hown, grown_refl _ _⟩
      · subst h1
        exact ⟨_, w, by simp [Builtin.append_, run_underlying Try.underlying25, sizeOf, typeInfo, hi, Builtin.lenOf, Builtin.firstCells, hnc, storeCells], hown, grown_refl _ _⟩
    | some a =>
      obtain ⟨v', w', hrun, r1, r2, r3⟩ := run_append_own (P := Try.prog) (w := w) base 25 ty 3 i0 _ 1 8 Try.underlying25 hi hz0 hz1 hz2 rfl (by decide) _ _ _ hown a 0 c [] rfl (by simp) (by simp) (by simp only [maxLen]; omega) (by omega) hbase
      refine ⟨v', w', hrun, by unfold OwnI; simpa using r1, r2⟩
  · obtain ⟨b, o, rfl, hb, hc⟩ := hr.2 h0
    obtain ⟨v', w', hrun, r1, r2, r3⟩ := run_append_own (P := Try.prog) (w := w) base 25 ty 3 i0 _ 1 8 Try.underlying25 hi hz0 hz1 hz2 rfl (by decide) _ _ _ hown ⟨b, o, none⟩ m c (cellsI ys) (by rw [cellsI_len, hl, Nat.mul_one])
      (fun j u hu => by
        have ea : (⟨b, o, none⟩ : Addr).add j = ⟨b, o + j, none⟩ := by unfold Addr.add; split <;> simp_all
        rw [cellsI_at] at hu
        obtain ⟨y, hy, rfl⟩ := Option.map_eq_some_iff.1 hu
        rw [ea]
        exact hc j y hy) (cellsI_one ys) (by simp only [maxLen]; omega) (by omega) hbase
    refine ⟨v', w', hrun, by unfold OwnI; rw [cellsI_app, List.length_append, hl]; exact r1, r2⟩
theorem wp_app_i {w : World} {o : Oper} {a : Act} {K : Act → World → Prop} {Q : Exit → Act → World → Prop} (s x : Operand)
    (ho : o.op = .call { callee := .builtin .append, args := #[s, x], argTypes := #[25, 25] })
    (base : Nat) (v : Value) (xs : List Int) (hs : a.eval s = v) (hown : OwnI w base v xs)
    (A : Option Addr) (m c : Nat) (ys : List Int) (hx : a.eval x = .slice A m c) (hr : IS w A m ys) (hN : xs.length + m ≤ 1000000) (hbase : base ≤ w.heap.size)
    (h : ∀ v' w', OwnI w' base v' (xs ++ ys) → w.grownBy w' v.ownBlock → K (a.put o.dst v') w') : o.wp Try.prog a w K Q := by
  obtain ⟨v', w', hrun, h2, h3⟩ := run_app_i w base o.type v xs hown A m c ys hr hN hbase
  unfold Oper.wp execOp
  simp only [ho, resolve, invoke, builtin, Sem.run_bind, Sem.run_pure, Result.andThen_ok, List.map_toArray, List.map_cons, List.map_nil, hs, hx, hrun]
  exact h v' w' h2 h3
theorem wpList_app_i (w : World) {ops : Array Oper} {rest : List Oper} {o : Oper} {a : Act} {Q : Exit → Act → World → Prop} (hgd : o.guard = none) (s x : Operand)
    (ho : o.op = .call { callee := .builtin .append, args := #[s, x], argTypes := #[25, 25] })
    (base : Nat) (v : Value) (xs : List Int) (hs : a.eval s = v) (hown : OwnI w base v xs)
    (A : Option Addr) (m c : Nat) (ys : List Int) (hx : a.eval x = .slice A m c) (hr : IS w A m ys) (hN : xs.length + m ≤ 1000000) (hbase : base ≤ w.heap.size)
    (h : ∀ v' w', OwnI w' base v' (xs ++ ys) → w.grownBy w' v.ownBlock → wpList Try.prog ops Q rest (a.put o.dst v') w') : wpList Try.prog ops Q (o :: rest) a w :=
  wpList_plain hgd fun _ hK => wp_app_i s x ho base v xs hs hown A m c ys hx hr hN hbase fun v' w' h1 h2 => hK _ _ (h v' w' h1 h2)
theorem step_app_i {w : World} {ops : Array Oper} {o : Oper} {a : Act} {K : Act → World → Prop} {Q : Exit → Act → World → Prop} {E : Prop} (hgd : o.guard = none) (s x : Operand)
    (ho : o.op = .call { callee := .builtin .append, args := #[s, x], argTypes := #[25, 25] })
    (base : Nat) (v : Value) (xs : List Int) (hs : a.eval s = v) (hown : OwnI w base v xs)
    (A : Option Addr) (m c : Nat) (ys : List Int) (hx : a.eval x = .slice A m c) (hr : IS w A m ys) (hN : xs.length + m ≤ 1000000) (hbase : base ≤ w.heap.size)
    (h : ∀ v' w', OwnI w' base v' (xs ++ ys) → w.grownBy w' v.ownBlock → K (a.put o.dst v') w') :
    if Region.wanted o (yielded ops a.tmps) = true then Oper.wp Try.prog o a w K Q else E := by
  have hw : Region.wanted o (yielded ops a.tmps) = true := by simp [Region.wanted, hgd]
  rw [if_pos hw]
  exact wp_app_i s x ho base v xs hs hown A m c ys hx hr hN hbase h
/-- a literal of one int -/
theorem one_is (w : World) (u : Int) : IS (w.alloc (.cells #[.int .i64 u] 3)) (some ⟨w.heap.size, 0, none⟩) 1 [u] :=
  ⟨rfl, fun _ => ⟨w.heap.size, 0, rfl, by simp, fun j x hx => by
    rw [Nat.zero_add, (Box.new w _ _).at_ j]
    rcases j with _ | j
    · simp at hx; subst hx; rfl
    · simp at hx⟩⟩
end Go.Proofs.Ytfhidmlceemhaaa
