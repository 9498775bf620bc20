/- DecisionSame. -/
import Derived.Test.YtalbdclcappjpaaGreatRJ
namespace Go.Proofs.YtalbdclcappjpaaGreat
open Go Go.RowKit Go.Lib
/-- append to a row of the call's own, whatever its cells -/
theorem run_append_o64 {P : Program} (w : World) (base : Nat) (t ty e : TypeId) (z : Value) (size bytes : Nat) (ht : P.underlying t = some (.slice e)) (h2 : (P.info? e).map (fun i => (i.zero, i.size, i.bytes)) = some (some z, size, bytes))
    (hzs : z.cells.size = size) (hsz : 0 < size) (S : Option Addr) (n cs : Nat) (vs : List Value) (hown : w.ownsRow base e size (.slice S n cs) n vs) (A : Option Addr) (m c : Nat) (news : List Value)
    (hl : news.length = m * size) (hr : 0 < m → ∃ a, A = some a ∧ ∀ j u, news[j]? = some u → w.cell? (a.add j) = some u) (h1 : ∀ u ∈ news, u.oneCell' = true) (hby : bytes ≤ 64) (hN : n + m ≤ 1000000) (hbase : base ≤ w.heap.size) :
    ∃ A' c' w', (Builtin.append_ #[t, t] ty #[.slice S n cs, .slice A m c]).run P w = .ok (.slice A' (n + m) c') w' ∧ w'.ownsRow base e size (.slice A' (n + m) c') (n + m) (vs ++ news) ∧ Turn (Blk S) w w' ∧ (∀ g, Blk A' g → Blk S g ∨ (w.heap.size ≤ g ∧ g < w'.heap.size)) := by
  obtain ⟨i, hi, hz, hs, hb⟩ := info_parts h2
  have big : (n + m) * bytes ≤ 140737488355328 := by have : (n + m) * bytes ≤ 1000000 * 64 := Nat.mul_le_mul hN hby; omega
  cases A with
  | some a =>
    have hnews : ∀ j u, news[j]? = some u → w.cell? (a.add j) = some u := by
      intro j u hu
      have hm : 0 < m := by
        rcases Nat.eq_zero_or_pos m with h | h
        · subst h
          have : news = [] := List.eq_nil_of_length_eq_zero (by simpa using hl)
          subst this; simp at hu
        · exact h
      obtain ⟨a', e', hc⟩ := hr hm
      injection e' with e'; subst e'
      exact hc j u hu
    obtain ⟨v', w', hrun, r1, r2, _, r4⟩ := run_append_own_at (P := P) w base t ty e i z size bytes ht hi hz hs hb hzs hsz _ n vs hown a m c news hl hnews h1 (by simp only [maxLen]; omega) big hbase
    have hv : ∃ A' c', v' = .slice A' (n + m) c' := by
      rcases r1.2 with ⟨h, h0⟩ | ⟨g', cap', _, h, _⟩
      · exact ⟨none, 0, by rw [h, h0]⟩
      · exact ⟨_, _, h⟩
    obtain ⟨A', c', rfl⟩ := hv
    refine ⟨A', c', w', hrun, r1, Turn.grown r2 (fun k hk => blk_own.1 hk), fun g hg => ?_⟩
    have h3 := (owns_blk r1 g hg).2
    have hg2 := blk_own (n := n + m) (c := c') |>.2 hg
    rcases r4 with h | h
    · left; rw [h] at hg2; exact blk_own.1 hg2
    · right; rw [h] at hg2; injection hg2 with hg2; omega
  | none =>
    have hm : m = 0 := by
      rcases Nat.eq_zero_or_pos m with h | h
      · exact h
      · obtain ⟨a, e, _⟩ := hr h; cases e
    subst hm
    have hy : news = [] := List.eq_nil_of_length_eq_zero (by simpa using hl)
    subst hy
    rw [List.append_nil]
    refine ⟨S, cs, w, ?_, hown, Turn.refl _ _, fun g hg => .inl hg⟩
    have hle := (owns_le hown).1
    rcases hown.2 with ⟨h1, _⟩ | ⟨g, cap, cur, h1, _⟩
    · injection h1 with e1 e2 e3
      subst e1; subst e2; subst e3
      simp [Builtin.append_, run_underlying ht, sizeOf, typeInfo, hi, Builtin.lenOf, Builtin.firstCells]
    · injection h1 with e1 _ e3
      subst e1; subst e3
      simp [Builtin.append_, run_underlying ht, sizeOf, typeInfo, hi, Builtin.lenOf, Builtin.firstCells, hle, storeCells]
/-- append to an own row, as a step of a walk -/
theorem wpList_app_o64 {P : Program} (w : World) {ops : Array Oper} {rest : List Oper} {o : Oper} {a : Act} {Q : Exit → Act → World → Prop} (hgd : Region.wanted o (yielded ops a.tmps) = true) (s x : Operand) (t : TypeId)
    (ho : o.op = .call { callee := .builtin .append, args := #[s, x], argTypes := #[t, t] }) (base : Nat) (e : TypeId) (z : Value) (size bytes : Nat) (ht : P.underlying t = some (.slice e)) (h2 : (P.info? e).map (fun i => (i.zero, i.size, i.bytes)) = some (some z, size, bytes))
    (hzs : z.cells.size = size) (hsz : 0 < size) (S : Option Addr) (n cs : Nat) (vs : List Value) (hs : a.eval s = .slice S n cs) (hown : w.ownsRow base e size (.slice S n cs) n vs) (A : Option Addr) (m c : Nat) (news : List Value) (hx : a.eval x = .slice A m c)
    (hl : news.length = m * size) (hr : 0 < m → ∃ a, A = some a ∧ ∀ j u, news[j]? = some u → w.cell? (a.add j) = some u) (h1 : ∀ u ∈ news, u.oneCell' = true) (hby : bytes ≤ 64) (hN : n + m ≤ 1000000) (hbase : base ≤ w.heap.size)
    (h : ∀ A' c' w', w'.ownsRow base e size (.slice A' (n + m) c') (n + m) (vs ++ news) → Turn (Blk S) w w' → (∀ g, Blk A' g → Blk S g ∨ (w.heap.size ≤ g ∧ g < w'.heap.size)) → wpList P ops Q rest (a.put o.dst (.slice A' (n + m) c')) w') : wpList P ops Q (o :: rest) a w :=
  wpList_step fun K hK => by
    rw [if_pos hgd]
    obtain ⟨A', c', w', hrun, h3, h4, h5⟩ := run_append_o64 (P := P) w base t o.type e z size bytes ht h2 hzs hsz S n cs vs hown A m c news hl hr h1 hby hN hbase
    unfold Oper.wp execOp
    simp only [ho, resolve, invoke, builtin, Sem.run_bind, Sem.run_pure, Result.andThen_ok, List.map_toArray, List.map_cons, List.map_nil, hs, hx, hrun]
    exact hK _ _ (h A' c' w' h3 h4 h5)
/-- append to an empty literal: the row is never nil -/
theorem run_app_l64 {P : Program} (w : World) (base : Nat) (t ty e : TypeId) (z : Value) (size bytes : Nat) (ht : P.underlying t = some (.slice e)) (h2 : (P.info? e).map (fun i => (i.zero, i.size, i.bytes)) = some (some z, size, bytes)) (hzs : z.cells.size = size) (hsz : 0 < size) (hby : bytes ≤ 64)
    (g : Nat) (hown : w.ownsRow base e size (.slice (some ⟨g, 0, none⟩) 0 0) 0 []) (A : Option Addr) (m c : Nat) (news : List Value) (hl : news.length = m * size) (hr : 0 < m → ∃ a, A = some a ∧ ∀ j u, news[j]? = some u → w.cell? (a.add j) = some u) (h1 : ∀ u ∈ news, u.oneCell' = true) (hN : m ≤ 1000000) (hbase : base ≤ w.heap.size) :
    ∃ g' c' w', (Builtin.append_ #[t, t] ty #[.slice (some ⟨g, 0, none⟩) 0 0, .slice A m c]).run P w = .ok (.slice (some ⟨g', 0, none⟩) m c') w' ∧ w'.ownsRow base e size (.slice (some ⟨g', 0, none⟩) m c') m news ∧ Turn (Is g) w w' := by
  rcases Nat.eq_zero_or_pos m with h0 | h0
  · subst h0
    obtain rfl : news = [] := List.eq_nil_of_length_eq_zero (by simpa using hl)
    obtain ⟨i, hi, hz, hs, hb⟩ := info_parts h2
    have hlc : ∀ (x : Addr), (loadCells x 0).run P w = .ok #[] w := fun x => by simpa using run_loadCells_list (P := P) w x [] (by simp)
    refine ⟨g, 0, w, ?_, hown, Turn.refl _ _⟩
    cases A with
    | none => simp [Builtin.append_, run_underlying ht, sizeOf, typeInfo, hi, Builtin.lenOf, Builtin.firstCells, storeCells]
    | some a => simp [Builtin.append_, run_underlying ht, sizeOf, typeInfo, hi, Builtin.lenOf, Builtin.firstCells, storeCells, hlc]
  · obtain ⟨A', c', w', hrun, r1, r2, r3⟩ := run_append_o64 (P := P) w base t ty e z size bytes ht h2 hzs hsz (some ⟨g, 0, none⟩) 0 0 [] hown A m c news hl hr h1 hby (by omega) hbase
    simp only [Nat.zero_add, List.nil_append] at hrun r1
    have hs : ∃ g', A' = some ⟨g', 0, none⟩ := by
      rcases r1.2 with ⟨e1, e2⟩ | ⟨g', _, _, e1, _⟩
      · omega
      · injection e1 with e1; exact ⟨g', e1⟩
    obtain ⟨g', rfl⟩ := hs
    exact ⟨g', c', w', hrun, r1, r2.mono fun k _ hk => blk_some.1 hk⟩
theorem wpList_app_l64 {P : Program} (w : World) {ops : Array Oper} {rest : List Oper} {o : Oper} {a : Act} {Q : Exit → Act → World → Prop} (hgd : Region.wanted o (yielded ops a.tmps) = true) (s x : Operand) (t : TypeId)
    (ho : o.op = .call { callee := .builtin .append, args := #[s, x], argTypes := #[t, t] }) (base : Nat) (e : TypeId) (z : Value) (size bytes : Nat) (ht : P.underlying t = some (.slice e)) (h2 : (P.info? e).map (fun i => (i.zero, i.size, i.bytes)) = some (some z, size, bytes))
    (hzs : z.cells.size = size) (hsz : 0 < size) (g : Nat) (hs : a.eval s = .slice (some ⟨g, 0, none⟩) 0 0) (hown : w.ownsRow base e size (.slice (some ⟨g, 0, none⟩) 0 0) 0 []) (A : Option Addr) (m c : Nat) (news : List Value) (hx : a.eval x = .slice A m c)
    (hl : news.length = m * size) (hr : 0 < m → ∃ a, A = some a ∧ ∀ j u, news[j]? = some u → w.cell? (a.add j) = some u) (h1 : ∀ u ∈ news, u.oneCell' = true) (hby : bytes ≤ 64) (hN : m ≤ 1000000) (hbase : base ≤ w.heap.size)
    (h : ∀ g' c' w', w'.ownsRow base e size (.slice (some ⟨g', 0, none⟩) m c') m news → Turn (Is g) w w' → wpList P ops Q rest (a.put o.dst (.slice (some ⟨g', 0, none⟩) m c')) w') : wpList P ops Q (o :: rest) a w :=
  wpList_step fun K hK => by
    rw [if_pos hgd]
    obtain ⟨g', c', w', hrun, h3, h4⟩ := run_app_l64 (P := P) w base t o.type e z size bytes ht h2 hzs hsz hby g hown A m c news hl hr h1 hN hbase
    unfold Oper.wp execOp
    simp only [ho, resolve, invoke, builtin, Sem.run_bind, Sem.run_pure, Result.andThen_ok, List.map_toArray, List.map_cons, List.map_nil, hs, hx, hrun]
    exact hK _ _ (h g' c' w' h3 h4)

theorem infoO : (Tryz.prog.info? 48).map (fun i => (i.zero, i.size, i.bytes)) = some (some (.agg #[.bool false, .int .i64 0, .int .i64 0, .int .i64 0, .int .i64 0, .int .i64 0, .int .i64 0, .int .i64 0]), 8, 64) := by kernel_rfl
theorem srcO {w : World} {A : Option Addr} {n : Nat} {ys : List Opr} (h : SL eO w A n ys) : 0 < n → ∃ a, A = some a ∧ ∀ j u, (flatE eO ys)[j]? = some u → w.cell? (a.add j) = some u := fun hm => by
  obtain ⟨b, o, e, hl, hc⟩ := h.2 hm
  exact ⟨_, e, fun j u hj => by
    have ea : (⟨b, o, none⟩ : Addr).add j = ⟨b, o + j, none⟩ := by unfold Addr.add; split <;> simp_all
    rw [ea]; exact hc j u hj⟩
theorem none_pq (w : World) : PQ w (.pointer none) Led.none := .inl ⟨rfl, rfl⟩
theorem none_eq (s : Led) : (decide (s.d = Led.none.d) && decide (s.w = Led.none.w)) = decide (s = Led.none) := by rw [← Bool.decide_and]; exact decide_eq_decide.2 led_iff.symm
theorem none_eq' (s : Led) : (decide (Led.none.d = s.d) && decide (Led.none.w = s.w)) = decide (s = Led.none) := by rw [← Bool.decide_and]; exact decide_eq_decide.2 ⟨fun h => led_ext h.1.symm h.2.symm, fun h => by rw [h]; exact ⟨rfl, rfl⟩⟩
theorem lot_same_n1 (w : World) (B : Nat) (l : List Ob) (i p : Nat) (s : Led) (h : Lot w B l) (hi : l[i]? = some (.prog p s)) (r : Bool) (hr : decide (s = Led.none) = r) :
    Calls Tryz.prog 12 #[.pointer none, .pointer (some ⟨p, 0, none⟩)] w fun e w' => e = .returned (.bool r) ∧ Lot w' B l ∧ Ext B w w' := by
  obtain ⟨F, h1⟩ := h.get hi
  refine (same_any w _ _ Led.none s (none_pq w) (LN.pq h1) r (by rw [none_eq', hr])).mono ?_
  rintro e w' ⟨rfl, h4⟩
  exact ⟨rfl, h.keep h4, h.1, h4.mono h.1⟩
theorem lot_same_n2 (w : World) (B : Nat) (l : List Ob) (i p : Nat) (s : Led) (h : Lot w B l) (hi : l[i]? = some (.prog p s)) (r : Bool) (hr : decide (s = Led.none) = r) :
    Calls Tryz.prog 12 #[.pointer (some ⟨p, 0, none⟩), .pointer none] w fun e w' => e = .returned (.bool r) ∧ Lot w' B l ∧ Ext B w w' := by
  obtain ⟨F, h1⟩ := h.get hi
  refine (same_any w _ _ s Led.none (LN.pq h1) (none_pq w) r (by rw [none_eq, hr])).mono ?_
  rintro e w' ⟨rfl, h4⟩
  exact ⟨rfl, h.keep h4, h.1, h4.mono h.1⟩

set_option maxHeartbeats 4000000 in
set_option maxRecDepth 100000 in
theorem sam_few0 (A0 : Option Addr) (n0 c0 : Nat) (A1 : Option Addr) (n1 c1 : Nat)  (w : World)  (h0 : ¬ n0 ≤ 60) : Calls Tryz.prog 4 #[.slice A0 n0 c0, .slice A1 n1 c1] w fun e w' => e = .returned (.bool true) ∧ Below w.heap.size w w' := by
  go_enter Tryz.func4, Tryz.ntmps4
  go_wp2_with fail
  refine (awake_yes w).mono ?_
  rintro e w1 ⟨rfl, b1⟩
  have B1 := hide b1
  clear b1
  go_wp2_with fail
  refine (few_any A0 n0 c0 w1 false (decide_eq_false h0)).mono ?_
  rintro e w2 ⟨rfl, rfl⟩
  go_wp2_with fail
  refine (awake_yes w1).mono ?_
  rintro e w2 ⟨rfl, b2⟩
  have B2 := hide (Below.next B1.out b2)
  clear b2
  go_wp2_with fail
  go_ret
  exact ⟨rfl, B2.out⟩

set_option maxHeartbeats 4000000 in
set_option maxRecDepth 100000 in
theorem sam_few1 (A0 : Option Addr) (n0 c0 : Nat) (A1 : Option Addr) (n1 c1 : Nat)  (w : World) (h0 : n0 ≤ 60) (h1 : ¬ n1 ≤ 60) : Calls Tryz.prog 4 #[.slice A0 n0 c0, .slice A1 n1 c1] w fun e w' => e = .returned (.bool true) ∧ Below w.heap.size w w' := by
  go_enter Tryz.func4, Tryz.ntmps4
  go_wp2_with fail
  refine (awake_yes w).mono ?_
  rintro e w1 ⟨rfl, b1⟩
  have B1 := hide b1
  clear b1
  go_wp2_with fail
  refine (few_any A0 n0 c0 w1 true (decide_eq_true h0)).mono ?_
  rintro e w2 ⟨rfl, rfl⟩
  go_wp2_with fail
  refine (few_any A1 n1 c1 w1 false (decide_eq_false h1)).mono ?_
  rintro e w2 ⟨rfl, rfl⟩
  go_wp2_with fail
  refine (awake_yes w1).mono ?_
  rintro e w2 ⟨rfl, b2⟩
  have B2 := hide (Below.next B1.out b2)
  clear b2
  go_wp2_with fail
  go_ret
  exact ⟨rfl, B2.out⟩

set_option maxHeartbeats 16000000 in
set_option maxRecDepth 100000 in
theorem sam_main (A0 : Option Addr) (n0 c0 : Nat) (ops0 : List Opr) (A1 : Option Addr) (n1 c1 : Nat) (ops1 : List Opr)  (w : World) (ha0 : AR w w.heap.size A0 n0 ops0) (ha1 : AR w w.heap.size A1 n1 ops1) (h0 : n0 ≤ 60) (h1 : n1 ≤ 60) : Calls Tryz.prog 4 #[.slice A0 n0 c0, .slice A1 n1 c1] w fun e w' => e = .returned (.bool true) ∧ Below w.heap.size w w' := by
  have HA0 := hide ha0
  have HA1 := hide ha1
  clear ha0 ha1
  go_enter Tryz.func4, Tryz.ntmps4
  go_wp2_with fail
  refine (awake_yes w).mono ?_
  rintro e w1 ⟨rfl, b1⟩
  have B1 := hide b1
  clear b1
  go_wp2_with fail
  refine (few_any A0 n0 c0 w1 true (decide_eq_true h0)).mono ?_
  rintro e w2 ⟨rfl, rfl⟩
  go_wp2_with fail
  refine (few_any A1 n1 c1 w1 true (decide_eq_true h1)).mono ?_
  rintro e w2 ⟨rfl, rfl⟩
  go_wp2_with fail
  have E1 := hide (show Ext w.heap.size w w1 from ⟨Nat.le_refl _, B1.out⟩)
  have L0 := hide (show Lot w1 w.heap.size [] from Lot.nil_ B1.out.size)

  refine (mades_any A0 n0 c0 ops0 w1 _ _ L0.out (HA0.out.ext E1.out) h0).mono ?_
  rintro e w2 ⟨p0, rfl, l2, x2⟩
  have L1 := hide (show Lot w2 w.heap.size [.prog p0 (runL ops0)] from l2)
  have E2 := hide (E1.out.ext x2)
  clear l2 x2 L0 E1
  go_wp2_with fail
  refine (mades_any A1 n1 c1 ops1 w2 _ _ L1.out (HA1.out.ext E2.out) h1).mono ?_
  rintro e w3 ⟨p1, rfl, l2, x2⟩
  obtain ⟨s, hs⟩ : ∃ s, runL ops0 = s := ⟨_, rfl⟩
  obtain ⟨t, ht⟩ : ∃ s, runL ops1 = s := ⟨_, rfl⟩
  have K0 := hide (show s.Ok from hs ▸ runL_ok ops0)
  have HSS := hide hs
  have HTT := hide ht
  have L2 := hide (show Lot w3 w.heap.size [.prog p0 s, .prog p1 t] from by
    have := l2
    rw [hs, ht] at this
    exact this)
  have E3 := hide (E2.out.ext x2)
  clear l2 x2 L1 E2 hs ht
  go_wp2_with fail
  refine (lot_clone w3 _ _ 0 p0 s L2.out rfl).mono ?_
  rintro e w4 ⟨pc, rfl, l4, x4⟩
  have L3 := hide (show Lot w4 w.heap.size [.prog p0 s, .prog p1 t, .prog pc s] from l4)
  have E4 := hide (E3.out.ext x4)
  clear l4 x4 L2 E3
  go_wp2_with fail
  refine (lot_same w4 _ _ 2 pc 0 p0 _ _ L3.out rfl rfl true (decide_eq_true rfl)).mono ?_
  rintro e w5 ⟨rfl, l5, x5⟩
  have L4 := hide l5
  have E5 := hide (E4.out.ext x5)
  clear l5 x5 L3 E4
  go_wp2_with fail
  obtain ⟨r, hr⟩ : ∃ r, decide (s = t) = r := ⟨_, rfl⟩
  refine (lot_same w5 _ _ 0 p0 1 p1 _ _ L4.out rfl rfl r hr).mono ?_
  rintro e w6 ⟨rfl, l6, x6⟩
  have L5 := hide l6
  have E6 := hide (E5.out.ext x6)
  clear l6 x6 L4 E5
  go_wp2_with fail
  refine (model_any A0 n0 c0 ops0 w6 _ _ L5.out (HA0.out.ext E6.out) (Nat.le_trans h0 (by decide))).mono ?_
  rintro e w7 ⟨q0, rfl, l7, x7⟩
  have L6 := hide (show Lot w7 w.heap.size [.prog p0 s, .prog p1 t, .prog pc s, .refr q0 s] from by
    have := l7
    rw [HSS.out] at this
    exact this)
  have E7 := hide (E6.out.ext x7)
  clear l7 x7 L5 E6
  go_wp2_with fail
  refine (model_any A1 n1 c1 ops1 w7 _ _ L6.out (HA1.out.ext E7.out) (Nat.le_trans h1 (by decide))).mono ?_
  rintro e w8 ⟨q1, rfl, l8, x8⟩
  have L7 := hide (show Lot w8 w.heap.size [.prog p0 s, .prog p1 t, .prog pc s, .refr q0 s, .refr q1 t] from by
    have := l8
    rw [HTT.out] at this
    exact this)
  have E8 := hide (E7.out.ext x8)
  clear l8 x8 L6 E7
  go_wp2_with fail
  refine (lot_rsame w8 _ _ 3 q0 4 q1 s t L7.out rfl rfl r hr).mono ?_
  rintro e w9 ⟨rfl, l9, x9⟩
  have L8 := hide l9
  have E9 := hide (E8.out.ext x9)
  have e1 : (r == r) = true := beq_iff_eq.2 rfl
  obtain ⟨z, hz⟩ : ∃ z, decide (s = Led.none) = z := ⟨_, rfl⟩
  have HZ := hide hz
  clear l9 x9 L7 E8 hr hz
  go_wp2_with fail
  refine (lot_same_n1 w9 _ _ 0 p0 s L8.out rfl z HZ.out).mono ?_
  rintro e w10 ⟨rfl, l10, x10⟩
  have L9 := hide l10
  have E10 := hide (E9.out.ext x10)
  clear l10 x10 L8 E9
  go_wp2_with fail
  refine (lot_same_n2 w10 _ _ 0 p0 s L9.out rfl z HZ.out).mono ?_
  rintro e w11 ⟨rfl, l11, x11⟩
  have L10 := hide l11
  have E11 := hide (E10.out.ext x11)
  have e2 : (z == z) = true := beq_iff_eq.2 rfl
  clear l11 x11 L9 E10
  go_wp2_with fail
  refine (lot_same_n1 w11 _ _ 0 p0 s L10.out rfl z HZ.out).mono ?_
  rintro e w12 ⟨rfl, l12, x12⟩
  have L11 := hide l12
  have E12 := hide (E11.out.ext x12)
  clear l12 x12 L10 E11
  go_wp2_with fail
  refine (lot_made w12 _ _ 0 p0 s L11.out rfl).mono ?_
  rintro e w13 ⟨A13, c13, rfl, -, l13, x13, -⟩
  have L12 := hide l13
  have E13 := hide (E12.out.ext x13)
  have ZD := hide (show z = (decide (s.d.length = 0) && decide (s.w.length = 0)) from by
    rw [← HZ.out, ← Bool.decide_and]
    refine decide_eq_decide.2 ⟨fun h => by rw [h]; exact ⟨rfl, rfl⟩, fun h => led_ext (List.length_eq_zero_iff.1 h.1) (List.length_eq_zero_iff.1 h.2)⟩)
  obtain ⟨nd, hnd⟩ : ∃ n, s.d.length = n := ⟨_, rfl⟩
  obtain ⟨nw, hnw⟩ : ∃ n, s.w.length = n := ⟨_, rfl⟩
  rw [hnd, hnw] at ZD
  rw [hnd]
  clear l13 x13 L11 E12 hnd
  by_cases hd0 : nd = 0
  · have ZW := hide (show z = decide (nw = 0) from by rw [ZD.out, decide_eq_true hd0, Bool.true_and])
    subst hd0
    go_wp2_with fail
    refine (lot_withdrawn w13 _ _ 0 p0 s L12.out rfl).mono ?_
    rintro e w14 ⟨A14, c14, rfl, -, l14, x14, -⟩
    have L13 := hide l14
    have E14 := hide (E13.out.ext x14)
    rw [hnw]
    clear l14 x14 L12 E13 hnw ZD
    by_cases hw0 : nw = 0
    · have hz : z = true := by rw [ZW.out, decide_eq_true hw0]
      subst hw0
      subst hz
      go_wp2_with fail
      have HLn1 := hide HA1.out.len
      have HLn0 := hide HA0.out.len
      go_loopw [11] (fun iv wr => ∃ i : Nat, iv = .int .i64 (i : Int) ∧ i ≤ n1 ∧ Hid (Lot wr w.heap.size [.prog p0 s, .prog p1 t, .prog pc ((ops1.take i).foldl Led.step s), .refr q0 s, .refr q1 t]) ∧ Hid (Ext w.heap.size w wr)) (fun iv _ => n1 - (RowKit.intOf iv).toNat)
      case atStart => exact ⟨0, rfl, Nat.zero_le _, L13, E14⟩
      case round =>
        obtain ⟨i, rfl, hi, HLt, HE⟩ := hrel
        by_cases hlt : i < n1
        · obtain ⟨b, o, y, rfl, hb, hy, hc⟩ := (HA1.out.ext HE.out).at_ hlt
          obtain ⟨k0, k1, k2, k3, k4, k5, k6, k7⟩ := hc _ (Ext.refl (Nat.le_trans HE.out.1 HE.out.size))
          have d0 : decide ((i : Int) < (n1 : Int)) = true := decide_eq_true (by omega)
          have a1 : (0 : Int) ≤ (i : Int) := by omega
          have a2 : (i : Int) < (n1 : Int) := by omega
          have HR := hide (show (ops1.take (i + 1)).foldl Led.step s = ((ops1.take i).foldl Led.step s).step y from by rw [take_next hy, List.foldl_append]; rfl)
          clear hy hc
          go_wp2_with fail
          refine (lot_do wr _ _ 2 pc _ y HLt.out rfl).mono ?_
          rintro e v2 ⟨rfl, h3, h4⟩
          have H3 := hide (show Lot v2 w.heap.size [.prog p0 s, .prog p1 t, .prog pc ((ops1.take (i + 1)).foldl Led.step s), .refr q0 s, .refr q1 t] from by rw [HR.out]; exact h3)
          have H4 := hide (HE.out.ext h4)
          clear h3 h4 HLt k0 k1 k2 k3 k4 k5 k6 k7
          go_wp2_with fail
          go_roundw
          case rel => exact ⟨i + 1, by go_num, by omega, H3, H4⟩
          case measure => simp [RowKit.intOf]; omega
        · obtain rfl : i = n1 := by omega
          have d0 : decide ((i : Int) < (i : Int)) = false := decide_eq_false (by omega)
          have HT2 := hide (show (ops1.take i).foldl Led.step s = runL (ops0 ++ ops1) from by
            rw [List.take_of_length_le (by rw [HLn1.out]; exact Nat.le_refl _), ← HSS.out]
            unfold runL
            rw [List.foldl_append])
          rw [HT2.out] at HLt
          go_wp2_with fail
          refine (model_any A0 n0 c0 ops0 wr _ _ HLt.out (HA0.out.ext HE.out) (Nat.le_trans h0 (by decide))).mono ?_
          rintro e v3 ⟨q5, rfl, l3, x3⟩
          have M3 := hide (show Lot v3 w.heap.size [.prog p0 s, .prog p1 t, .prog pc (runL (ops0 ++ ops1)), .refr q0 s, .refr q1 t, .refr q5 s] from by
            have := l3
            rw [HSS.out] at this
            exact this)
          have X3 := hide (HE.out.ext x3)
          clear l3 x3 HLt HE
          go_wp2_with fail
          refine (same_all v3 _ _ 0 5 p0 q5 _ _ M3.out rfl rfl true (decide_eq_true rfl)).mono ?_
          rintro e v4 ⟨rfl, l4, x4⟩
          have M4 := hide l4
          have X4 := hide (X3.out.ext x4)
          clear l4 x4 M3 X3
          have HOW := hide (show (v4.alloc (.cells #[] 48)).ownsRow v4.heap.size 48 8 (.slice (some ⟨v4.heap.size, 0, none⟩) 0 0) 0 [] from owns_new v4 (Nat.le_refl _))
          have SA0 := hide (srcO ((HA0.out.ext (X4.out.alloc (.cells #[] 48))).1))
          have FL0 := hide (show (flatE eO ops0).length = n0 * 8 from by rw [flatE_len, HLn0.out]; rfl)
          have FL1 := hide (show (flatE eO ops1).length = i * 8 from by rw [flatE_len, HLn1.out]; rfl)
          have XA := hide (X4.out.alloc (.cells #[] 48))
          have hB4 : w.heap.size ≤ v4.heap.size := Nat.le_trans X4.out.1 X4.out.size
          have sz1 : (v4.alloc (.cells #[] 48)).heap.size = v4.heap.size + 1 := by simp
          have sz2 : v4.heap.size ≤ (v4.alloc (.cells #[] 48)).heap.size := by omega
          go_wp2_with (first
            | (at_builtin; refine wpList_app_l64 _ (by rfl) _ _ 22 rfl v4.heap.size 48 _ 8 64 Tryz.underlying22 infoO rfl (by decide) v4.heap.size rfl HOW.out A0 n0 c0 (flatE eO ops0) rfl FL0.out SA0.out (flatE_one ops0) (by decide) (by omega) sz2 ?_; intro g1 c5 v5 r1 r2; have SA1 := hide (srcO ((HA1.out.ext (XA.out.ext ⟨by omega, r2.below (fun k hk => by rw [show k = v4.heap.size from hk]; exact hB4) (by omega)⟩)).1)); have hB5 : v4.heap.size ≤ v5.heap.size := Nat.le_trans sz2 r2.size)
            | (at_builtin; refine wpList_app_o64 _ (by rfl) _ _ 22 rfl v4.heap.size 48 _ 8 64 Tryz.underlying22 infoO rfl (by decide) (some ⟨g1, 0, none⟩) n0 c5 (flatE eO ops0) rfl r1 A1 i c1 (flatE eO ops1) rfl FL1.out SA1.out (flatE_one ops1) (by decide) (by omega) hB5 ?_; intro A6 c6 v6 r3 r4 r5))
          have OW := hide (show Ow eO v6 v4.heap.size A6 (n0 + i) c6 (ops0 ++ ops1) from by unfold Ow; rw [flatE_app]; exact r3)
          have B5 := hide (show Below v4.heap.size v4 v6 from Turn.onto (Turn.onto ((Below.refl _ _).alloc (Nat.le_refl _) (.cells #[] 48)) r2 fun k hk => by rw [show k = v4.heap.size from hk]; exact Nat.le_refl _) r4 fun k hk => (owns_blk r1 k hk).1)
          have M6 := hide (M4.out.keep B5.out)
          have X6 := hide (X4.out.bel B5.out)
          have AR6 := hide (show AR v6 v6.heap.size A6 (n0 + i) (ops0 ++ ops1) from ⟨OW.out.sl, fun _ g hg => (OW.out.blk g hg).2⟩)
          clear r1 r2 r3 r4 r5 SA1 hB5
          refine (model_any A6 (n0 + i) c6 (ops0 ++ ops1) v6 v6.heap.size [] (Lot.nil_ (Nat.le_refl _)) AR6.out (by omega)).mono ?_
          rintro e v7 ⟨q6, rfl, l7, x7⟩
          obtain ⟨F7, hF7⟩ := l7.get (i := 0) rfl
          have A7 := M6.out.add (ob := .refr q6 (runL (ops0 ++ ops1))) x7.2 hF7
          have M7 := hide (show Lot v7 w.heap.size [.prog p0 s, .prog p1 t, .prog pc (runL (ops0 ++ ops1)), .refr q0 s, .refr q1 t, .refr q5 s, .refr q6 (runL (ops0 ++ ops1))] from A7.1)
          have X7 := hide (X6.out.ext A7.2)
          clear l7 x7 hF7 A7 M6 X6 M4 X4 HOW SA0 XA
          go_wp2_with fail
          refine (same_all v7 _ _ 2 6 pc q6 _ _ M7.out rfl rfl true (decide_eq_true rfl)).mono ?_
          rintro e v8 ⟨rfl, -, x8⟩
          have X8 := hide (X7.out.ext x8)
          clear x8 M7 X7
          go_wp2_with fail
          refine (make_nil v8 ⟨0, 1, 3, 1, 2⟩).mono ?_
          rintro e v9 ⟨rfl, g9⟩
          have X9 := hide (X8.out.gr g9)
          clear g9 X8
          go_wp2_with fail
          refine (wd_nil v9 ⟨0, 1⟩).mono ?_
          rintro e v10 ⟨rfl, g10⟩
          have X10 := hide (X9.out.gr g10)
          clear g10 X9
          go_wp2_with fail
          refine (join_nil1 v10 _).mono ?_
          rintro e v11 ⟨rfl, g11⟩
          have X11 := hide (X10.out.gr g11)
          clear g11 X10
          go_wp2_with fail
          refine (join_nil2 v11 p0).mono ?_
          rintro e v12 ⟨rfl, g12⟩
          have X12 := hide (X11.out.gr g12)
          clear g12 X11
          go_wp2_with fail
          refine (clone_nil v12).mono ?_
          rintro e v13 ⟨rfl, rfl⟩
          go_wp2_with fail
          refine (stand_nil v12).mono ?_
          rintro e v13 ⟨rfl, rfl⟩
          go_wp2_with fail
          go_ret
          exact ⟨rfl, X12.out.2⟩
    · have hz : z = false := by rw [ZW.out, decide_eq_false hw0]
      have e4 : ((nw : Int) == 0) = false := beq_eq_false_iff_ne.2 (by omega)
      subst hz
      go_wp2_with fail
      have HLn1 := hide HA1.out.len
      have HLn0 := hide HA0.out.len
      go_loopw [11] (fun iv wr => ∃ i : Nat, iv = .int .i64 (i : Int) ∧ i ≤ n1 ∧ Hid (Lot wr w.heap.size [.prog p0 s, .prog p1 t, .prog pc ((ops1.take i).foldl Led.step s), .refr q0 s, .refr q1 t]) ∧ Hid (Ext w.heap.size w wr)) (fun iv _ => n1 - (RowKit.intOf iv).toNat)
      case atStart => exact ⟨0, rfl, Nat.zero_le _, L13, E14⟩
      case round =>
        obtain ⟨i, rfl, hi, HLt, HE⟩ := hrel
        by_cases hlt : i < n1
        · obtain ⟨b, o, y, rfl, hb, hy, hc⟩ := (HA1.out.ext HE.out).at_ hlt
          obtain ⟨k0, k1, k2, k3, k4, k5, k6, k7⟩ := hc _ (Ext.refl (Nat.le_trans HE.out.1 HE.out.size))
          have d0 : decide ((i : Int) < (n1 : Int)) = true := decide_eq_true (by omega)
          have a1 : (0 : Int) ≤ (i : Int) := by omega
          have a2 : (i : Int) < (n1 : Int) := by omega
          have HR := hide (show (ops1.take (i + 1)).foldl Led.step s = ((ops1.take i).foldl Led.step s).step y from by rw [take_next hy, List.foldl_append]; rfl)
          clear hy hc
          go_wp2_with fail
          refine (lot_do wr _ _ 2 pc _ y HLt.out rfl).mono ?_
          rintro e v2 ⟨rfl, h3, h4⟩
          have H3 := hide (show Lot v2 w.heap.size [.prog p0 s, .prog p1 t, .prog pc ((ops1.take (i + 1)).foldl Led.step s), .refr q0 s, .refr q1 t] from by rw [HR.out]; exact h3)
          have H4 := hide (HE.out.ext h4)
          clear h3 h4 HLt k0 k1 k2 k3 k4 k5 k6 k7
          go_wp2_with fail
          go_roundw
          case rel => exact ⟨i + 1, by go_num, by omega, H3, H4⟩
          case measure => simp [RowKit.intOf]; omega
        · obtain rfl : i = n1 := by omega
          have d0 : decide ((i : Int) < (i : Int)) = false := decide_eq_false (by omega)
          have HT2 := hide (show (ops1.take i).foldl Led.step s = runL (ops0 ++ ops1) from by
            rw [List.take_of_length_le (by rw [HLn1.out]; exact Nat.le_refl _), ← HSS.out]
            unfold runL
            rw [List.foldl_append])
          rw [HT2.out] at HLt
          go_wp2_with fail
          refine (model_any A0 n0 c0 ops0 wr _ _ HLt.out (HA0.out.ext HE.out) (Nat.le_trans h0 (by decide))).mono ?_
          rintro e v3 ⟨q5, rfl, l3, x3⟩
          have M3 := hide (show Lot v3 w.heap.size [.prog p0 s, .prog p1 t, .prog pc (runL (ops0 ++ ops1)), .refr q0 s, .refr q1 t, .refr q5 s] from by
            have := l3
            rw [HSS.out] at this
            exact this)
          have X3 := hide (HE.out.ext x3)
          clear l3 x3 HLt HE
          go_wp2_with fail
          refine (same_all v3 _ _ 0 5 p0 q5 _ _ M3.out rfl rfl true (decide_eq_true rfl)).mono ?_
          rintro e v4 ⟨rfl, l4, x4⟩
          have M4 := hide l4
          have X4 := hide (X3.out.ext x4)
          clear l4 x4 M3 X3
          have HOW := hide (show (v4.alloc (.cells #[] 48)).ownsRow v4.heap.size 48 8 (.slice (some ⟨v4.heap.size, 0, none⟩) 0 0) 0 [] from owns_new v4 (Nat.le_refl _))
          have SA0 := hide (srcO ((HA0.out.ext (X4.out.alloc (.cells #[] 48))).1))
          have FL0 := hide (show (flatE eO ops0).length = n0 * 8 from by rw [flatE_len, HLn0.out]; rfl)
          have FL1 := hide (show (flatE eO ops1).length = i * 8 from by rw [flatE_len, HLn1.out]; rfl)
          have XA := hide (X4.out.alloc (.cells #[] 48))
          have hB4 : w.heap.size ≤ v4.heap.size := Nat.le_trans X4.out.1 X4.out.size
          have sz1 : (v4.alloc (.cells #[] 48)).heap.size = v4.heap.size + 1 := by simp
          have sz2 : v4.heap.size ≤ (v4.alloc (.cells #[] 48)).heap.size := by omega
          go_wp2_with (first
            | (at_builtin; refine wpList_app_l64 _ (by rfl) _ _ 22 rfl v4.heap.size 48 _ 8 64 Tryz.underlying22 infoO rfl (by decide) v4.heap.size rfl HOW.out A0 n0 c0 (flatE eO ops0) rfl FL0.out SA0.out (flatE_one ops0) (by decide) (by omega) sz2 ?_; intro g1 c5 v5 r1 r2; have SA1 := hide (srcO ((HA1.out.ext (XA.out.ext ⟨by omega, r2.below (fun k hk => by rw [show k = v4.heap.size from hk]; exact hB4) (by omega)⟩)).1)); have hB5 : v4.heap.size ≤ v5.heap.size := Nat.le_trans sz2 r2.size)
            | (at_builtin; refine wpList_app_o64 _ (by rfl) _ _ 22 rfl v4.heap.size 48 _ 8 64 Tryz.underlying22 infoO rfl (by decide) (some ⟨g1, 0, none⟩) n0 c5 (flatE eO ops0) rfl r1 A1 i c1 (flatE eO ops1) rfl FL1.out SA1.out (flatE_one ops1) (by decide) (by omega) hB5 ?_; intro A6 c6 v6 r3 r4 r5))
          have OW := hide (show Ow eO v6 v4.heap.size A6 (n0 + i) c6 (ops0 ++ ops1) from by unfold Ow; rw [flatE_app]; exact r3)
          have B5 := hide (show Below v4.heap.size v4 v6 from Turn.onto (Turn.onto ((Below.refl _ _).alloc (Nat.le_refl _) (.cells #[] 48)) r2 fun k hk => by rw [show k = v4.heap.size from hk]; exact Nat.le_refl _) r4 fun k hk => (owns_blk r1 k hk).1)
          have M6 := hide (M4.out.keep B5.out)
          have X6 := hide (X4.out.bel B5.out)
          have AR6 := hide (show AR v6 v6.heap.size A6 (n0 + i) (ops0 ++ ops1) from ⟨OW.out.sl, fun _ g hg => (OW.out.blk g hg).2⟩)
          clear r1 r2 r3 r4 r5 SA1 hB5
          refine (model_any A6 (n0 + i) c6 (ops0 ++ ops1) v6 v6.heap.size [] (Lot.nil_ (Nat.le_refl _)) AR6.out (by omega)).mono ?_
          rintro e v7 ⟨q6, rfl, l7, x7⟩
          obtain ⟨F7, hF7⟩ := l7.get (i := 0) rfl
          have A7 := M6.out.add (ob := .refr q6 (runL (ops0 ++ ops1))) x7.2 hF7
          have M7 := hide (show Lot v7 w.heap.size [.prog p0 s, .prog p1 t, .prog pc (runL (ops0 ++ ops1)), .refr q0 s, .refr q1 t, .refr q5 s, .refr q6 (runL (ops0 ++ ops1))] from A7.1)
          have X7 := hide (X6.out.ext A7.2)
          clear l7 x7 hF7 A7 M6 X6 M4 X4 HOW SA0 XA
          go_wp2_with fail
          refine (same_all v7 _ _ 2 6 pc q6 _ _ M7.out rfl rfl true (decide_eq_true rfl)).mono ?_
          rintro e v8 ⟨rfl, -, x8⟩
          have X8 := hide (X7.out.ext x8)
          clear x8 M7 X7
          go_wp2_with fail
          refine (make_nil v8 ⟨0, 1, 3, 1, 2⟩).mono ?_
          rintro e v9 ⟨rfl, g9⟩
          have X9 := hide (X8.out.gr g9)
          clear g9 X8
          go_wp2_with fail
          refine (wd_nil v9 ⟨0, 1⟩).mono ?_
          rintro e v10 ⟨rfl, g10⟩
          have X10 := hide (X9.out.gr g10)
          clear g10 X9
          go_wp2_with fail
          refine (join_nil1 v10 _).mono ?_
          rintro e v11 ⟨rfl, g11⟩
          have X11 := hide (X10.out.gr g11)
          clear g11 X10
          go_wp2_with fail
          refine (join_nil2 v11 p0).mono ?_
          rintro e v12 ⟨rfl, g12⟩
          have X12 := hide (X11.out.gr g12)
          clear g12 X11
          go_wp2_with fail
          refine (clone_nil v12).mono ?_
          rintro e v13 ⟨rfl, rfl⟩
          go_wp2_with fail
          refine (stand_nil v12).mono ?_
          rintro e v13 ⟨rfl, rfl⟩
          go_wp2_with fail
          go_ret
          exact ⟨rfl, X12.out.2⟩
  · have hz : z = false := by rw [ZD.out, decide_eq_false hd0, Bool.false_and]
    have e4 : ((nd : Int) == 0) = false := beq_eq_false_iff_ne.2 (by omega)
    subst hz
    have L13 := L12
    have E14 := E13
    clear hnw ZD L12 E13
    go_wp2_with fail
    have HLn1 := hide HA1.out.len
    have HLn0 := hide HA0.out.len
    go_loopw [11] (fun iv wr => ∃ i : Nat, iv = .int .i64 (i : Int) ∧ i ≤ n1 ∧ Hid (Lot wr w.heap.size [.prog p0 s, .prog p1 t, .prog pc ((ops1.take i).foldl Led.step s), .refr q0 s, .refr q1 t]) ∧ Hid (Ext w.heap.size w wr)) (fun iv _ => n1 - (RowKit.intOf iv).toNat)
    case atStart => exact ⟨0, rfl, Nat.zero_le _, L13, E14⟩
    case round =>
      obtain ⟨i, rfl, hi, HLt, HE⟩ := hrel
      by_cases hlt : i < n1
      · obtain ⟨b, o, y, rfl, hb, hy, hc⟩ := (HA1.out.ext HE.out).at_ hlt
        obtain ⟨k0, k1, k2, k3, k4, k5, k6, k7⟩ := hc _ (Ext.refl (Nat.le_trans HE.out.1 HE.out.size))
        have d0 : decide ((i : Int) < (n1 : Int)) = true := decide_eq_true (by omega)
        have a1 : (0 : Int) ≤ (i : Int) := by omega
        have a2 : (i : Int) < (n1 : Int) := by omega
        have HR := hide (show (ops1.take (i + 1)).foldl Led.step s = ((ops1.take i).foldl Led.step s).step y from by rw [take_next hy, List.foldl_append]; rfl)
        clear hy hc
        go_wp2_with fail
        refine (lot_do wr _ _ 2 pc _ y HLt.out rfl).mono ?_
        rintro e v2 ⟨rfl, h3, h4⟩
        have H3 := hide (show Lot v2 w.heap.size [.prog p0 s, .prog p1 t, .prog pc ((ops1.take (i + 1)).foldl Led.step s), .refr q0 s, .refr q1 t] from by rw [HR.out]; exact h3)
        have H4 := hide (HE.out.ext h4)
        clear h3 h4 HLt k0 k1 k2 k3 k4 k5 k6 k7
        go_wp2_with fail
        go_roundw
        case rel => exact ⟨i + 1, by go_num, by omega, H3, H4⟩
        case measure => simp [RowKit.intOf]; omega
      · obtain rfl : i = n1 := by omega
        have d0 : decide ((i : Int) < (i : Int)) = false := decide_eq_false (by omega)
        have HT2 := hide (show (ops1.take i).foldl Led.step s = runL (ops0 ++ ops1) from by
          rw [List.take_of_length_le (by rw [HLn1.out]; exact Nat.le_refl _), ← HSS.out]
          unfold runL
          rw [List.foldl_append])
        rw [HT2.out] at HLt
        go_wp2_with fail
        refine (model_any A0 n0 c0 ops0 wr _ _ HLt.out (HA0.out.ext HE.out) (Nat.le_trans h0 (by decide))).mono ?_
        rintro e v3 ⟨q5, rfl, l3, x3⟩
        have M3 := hide (show Lot v3 w.heap.size [.prog p0 s, .prog p1 t, .prog pc (runL (ops0 ++ ops1)), .refr q0 s, .refr q1 t, .refr q5 s] from by
          have := l3
          rw [HSS.out] at this
          exact this)
        have X3 := hide (HE.out.ext x3)
        clear l3 x3 HLt HE
        go_wp2_with fail
        refine (same_all v3 _ _ 0 5 p0 q5 _ _ M3.out rfl rfl true (decide_eq_true rfl)).mono ?_
        rintro e v4 ⟨rfl, l4, x4⟩
        have M4 := hide l4
        have X4 := hide (X3.out.ext x4)
        clear l4 x4 M3 X3
        have HOW := hide (show (v4.alloc (.cells #[] 48)).ownsRow v4.heap.size 48 8 (.slice (some ⟨v4.heap.size, 0, none⟩) 0 0) 0 [] from owns_new v4 (Nat.le_refl _))
        have SA0 := hide (srcO ((HA0.out.ext (X4.out.alloc (.cells #[] 48))).1))
        have FL0 := hide (show (flatE eO ops0).length = n0 * 8 from by rw [flatE_len, HLn0.out]; rfl)
        have FL1 := hide (show (flatE eO ops1).length = i * 8 from by rw [flatE_len, HLn1.out]; rfl)
        have XA := hide (X4.out.alloc (.cells #[] 48))
        have hB4 : w.heap.size ≤ v4.heap.size := Nat.le_trans X4.out.1 X4.out.size
        have sz1 : (v4.alloc (.cells #[] 48)).heap.size = v4.heap.size + 1 := by simp
        have sz2 : v4.heap.size ≤ (v4.alloc (.cells #[] 48)).heap.size := by omega
        go_wp2_with (first
          | (at_builtin; refine wpList_app_l64 _ (by rfl) _ _ 22 rfl v4.heap.size 48 _ 8 64 Tryz.underlying22 infoO rfl (by decide) v4.heap.size rfl HOW.out A0 n0 c0 (flatE eO ops0) rfl FL0.out SA0.out (flatE_one ops0) (by decide) (by omega) sz2 ?_; intro g1 c5 v5 r1 r2; have SA1 := hide (srcO ((HA1.out.ext (XA.out.ext ⟨by omega, r2.below (fun k hk => by rw [show k = v4.heap.size from hk]; exact hB4) (by omega)⟩)).1)); have hB5 : v4.heap.size ≤ v5.heap.size := Nat.le_trans sz2 r2.size)
          | (at_builtin; refine wpList_app_o64 _ (by rfl) _ _ 22 rfl v4.heap.size 48 _ 8 64 Tryz.underlying22 infoO rfl (by decide) (some ⟨g1, 0, none⟩) n0 c5 (flatE eO ops0) rfl r1 A1 i c1 (flatE eO ops1) rfl FL1.out SA1.out (flatE_one ops1) (by decide) (by omega) hB5 ?_; intro A6 c6 v6 r3 r4 r5))
        have OW := hide (show Ow eO v6 v4.heap.size A6 (n0 + i) c6 (ops0 ++ ops1) from by unfold Ow; rw [flatE_app]; exact r3)
        have B5 := hide (show Below v4.heap.size v4 v6 from Turn.onto (Turn.onto ((Below.refl _ _).alloc (Nat.le_refl _) (.cells #[] 48)) r2 fun k hk => by rw [show k = v4.heap.size from hk]; exact Nat.le_refl _) r4 fun k hk => (owns_blk r1 k hk).1)
        have M6 := hide (M4.out.keep B5.out)
        have X6 := hide (X4.out.bel B5.out)
        have AR6 := hide (show AR v6 v6.heap.size A6 (n0 + i) (ops0 ++ ops1) from ⟨OW.out.sl, fun _ g hg => (OW.out.blk g hg).2⟩)
        clear r1 r2 r3 r4 r5 SA1 hB5
        refine (model_any A6 (n0 + i) c6 (ops0 ++ ops1) v6 v6.heap.size [] (Lot.nil_ (Nat.le_refl _)) AR6.out (by omega)).mono ?_
        rintro e v7 ⟨q6, rfl, l7, x7⟩
        obtain ⟨F7, hF7⟩ := l7.get (i := 0) rfl
        have A7 := M6.out.add (ob := .refr q6 (runL (ops0 ++ ops1))) x7.2 hF7
        have M7 := hide (show Lot v7 w.heap.size [.prog p0 s, .prog p1 t, .prog pc (runL (ops0 ++ ops1)), .refr q0 s, .refr q1 t, .refr q5 s, .refr q6 (runL (ops0 ++ ops1))] from A7.1)
        have X7 := hide (X6.out.ext A7.2)
        clear l7 x7 hF7 A7 M6 X6 M4 X4 HOW SA0 XA
        go_wp2_with fail
        refine (same_all v7 _ _ 2 6 pc q6 _ _ M7.out rfl rfl true (decide_eq_true rfl)).mono ?_
        rintro e v8 ⟨rfl, -, x8⟩
        have X8 := hide (X7.out.ext x8)
        clear x8 M7 X7
        go_wp2_with fail
        refine (make_nil v8 ⟨0, 1, 3, 1, 2⟩).mono ?_
        rintro e v9 ⟨rfl, g9⟩
        have X9 := hide (X8.out.gr g9)
        clear g9 X8
        go_wp2_with fail
        refine (wd_nil v9 ⟨0, 1⟩).mono ?_
        rintro e v10 ⟨rfl, g10⟩
        have X10 := hide (X9.out.gr g10)
        clear g10 X9
        go_wp2_with fail
        refine (join_nil1 v10 _).mono ?_
        rintro e v11 ⟨rfl, g11⟩
        have X11 := hide (X10.out.gr g11)
        clear g11 X10
        go_wp2_with fail
        refine (join_nil2 v11 p0).mono ?_
        rintro e v12 ⟨rfl, g12⟩
        have X12 := hide (X11.out.gr g12)
        clear g12 X11
        go_wp2_with fail
        refine (clone_nil v12).mono ?_
        rintro e v13 ⟨rfl, rfl⟩
        go_wp2_with fail
        refine (stand_nil v12).mono ?_
        rintro e v13 ⟨rfl, rfl⟩
        go_wp2_with fail
        go_ret
        exact ⟨rfl, X12.out.2⟩

theorem sam_all (A0 : Option Addr) (n0 c0 : Nat) (ops0 : List Opr) (A1 : Option Addr) (n1 c1 : Nat) (ops1 : List Opr)  (w : World) (ha0 : AR w w.heap.size A0 n0 ops0) (ha1 : AR w w.heap.size A1 n1 ops1) : Calls Tryz.prog 4 #[.slice A0 n0 c0, .slice A1 n1 c1] w fun e w' => e = .returned (.bool true) ∧ Below w.heap.size w w' := by
  by_cases h0 : n0 ≤ 60
  · skip
    by_cases h1 : n1 ≤ 60
    · exact sam_main A0 n0 c0 ops0 A1 n1 c1 ops1  w ha0 ha1 h0 h1
    · exact sam_few1 A0 n0 c0 A1 n1 c1  w h0 h1
  · exact sam_few0 A0 n0 c0 A1 n1 c1  w h0
end Go.Proofs.YtalbdclcappjpaaGreat
