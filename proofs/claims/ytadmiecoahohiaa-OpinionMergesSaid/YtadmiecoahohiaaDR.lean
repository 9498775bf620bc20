/- Rows that are written over: copy; a list with one element more. -/
import Derived.Test.YtadmiecoahohiaaDC
import Derived.Laws.CopyRow
namespace Go.Proofs.Ytadmiecoahohiaa
open Go Go.RowKit Go.Lib
theorem run_copyK {P : Program} (w : World) (dT sT ty elem : TypeId) (g o dLen dCap : Nat) (a : Addr) (sLen sCap : Nat) (cur : Array Value) (t : TypeId) (cs : List Value) (K m : Nat)
    (hu : P.underlying dT = some (.slice elem)) (hs : (P.info? elem).map (·.size) = some K)
    (hg : w.heap[g]? = some (.cells cur t (0, 0))) (hm : Nat.min sLen dLen = m) (hn : cs.length = m * K)
    (hsrc : ∀ j v, cs[j]? = some v → w.cell? (a.add j) = some v) (hfit : o + cs.length ≤ cur.size) (h1 : ∀ v ∈ cs, v.oneCell' = true) :
    (Builtin.copy_ #[dT, sT] ty #[.slice (some ⟨g, o, none⟩) dLen dCap, .slice (some a) sLen sCap]).run P w =
      .ok (goInt m) (w.setRow g (cur.toList.take o ++ cs ++ cur.toList.drop (o + cs.length)).toArray) := by
  have hl := run_loadCells_list (P := P) w a cs hsrc
  have hst := run_storeCells_at P g o t cs 0 cur w hg (by simpa using hfit) h1
  cases hq : P.info? elem with
  | none => simp [hq] at hs
  | some i =>
    have hi : i.size = K := by simpa [hq] using hs
    simp [Builtin.copy_, run_underlying hu, Builtin.lenOf, Builtin.firstCells, sizeOf, typeInfo, hq, hi, hm, ← hn, hl, hst]
/-- put over a part of a list -/
def over (L : List Value) (o : Nat) (cs : List Value) : List Value := L.take o ++ cs ++ L.drop (o + cs.length)
theorem over_len {L cs : List Value} {o : Nat} (h : o + cs.length ≤ L.length) : (over L o cs).length = L.length := by
  unfold over; simp only [List.length_append, List.length_take, List.length_drop]; omega
theorem over_take {L cs : List Value} {o p : Nat} (h : o + cs.length ≤ L.length) (hp : p ≤ o) : (over L o cs).take p = L.take p := by
  unfold over
  rw [List.append_assoc, List.take_append_of_le_length (by rw [List.length_take]; omega), List.take_take, Nat.min_eq_left hp]
theorem over_to {L cs : List Value} {o : Nat} (h : o + cs.length ≤ L.length) : (over L o cs).take (o + cs.length) = L.take o ++ cs := by
  unfold over
  rw [List.take_append_of_le_length (by simp only [List.length_append, List.length_take]; omega), List.take_of_length_le (by simp only [List.length_append, List.length_take]; omega)]
theorem over_get_out {L cs : List Value} {o j : Nat} (h : o + cs.length ≤ L.length) (hj : j < o ∨ o + cs.length ≤ j) : (over L o cs)[j]? = L[j]? := by
  unfold over
  have hl : (L.take o ++ cs).length = o + cs.length := by simp only [List.length_append, List.length_take]; omega
  rcases hj with hj | hj
  · rw [List.append_assoc, List.getElem?_append_left (by rw [List.length_take]; omega), List.getElem?_take, if_pos hj]
  · rw [List.getElem?_append_right (by rw [hl]; exact hj), hl, List.getElem?_drop]
    congr 1; omega
/-- what stood from p on is moved by q, and X put in -/
theorem shift_row {L X D : List Value} {p q r : Nat} (hX : X.length = q) (hD : D.length = r) (h : p + q + r ≤ L.length) :
    (over (over L (p + q) D) p X).take (p + q + r) = L.take p ++ X ++ D := by
  subst hX; subst hD
  have h1 : (over L (p + X.length) D).length = L.length := over_len h
  have h2 : ((over L (p + X.length) D).drop (p + X.length)).take D.length = D := by
    rw [List.take_drop, over_to h]
    have : (L.take (p + X.length)).length = p + X.length := by rw [List.length_take]; omega
    rw [List.drop_append_of_le_length (by omega), List.drop_of_length_le (by omega), List.nil_append]
  show (List.take p (over L (p + X.length) D) ++ X ++ List.drop (p + X.length) (over L (p + X.length) D)).take (p + X.length + D.length) = _
  rw [List.take_append, List.take_of_length_le (l := (over L (p + X.length) D).take p ++ X) (by simp only [List.length_append, List.length_take]; omega), over_take h (by omega)]
  congr 1
  have : (L.take p ++ X).length = p + X.length := by simp only [List.length_append, List.length_take]; omega
  rw [this, show p + X.length + D.length - (p + X.length) = D.length by omega, h2]
theorem fill_row {L X D : List Value} {p q r : Nat} (hX : X.length = q) (hD : D.length = r) (h : p + q + r ≤ L.length) :
    (over (over L p X) (p + q) D).take (p + q + r) = L.take p ++ X ++ D := by
  subst hX; subst hD
  have h1 : p + X.length + D.length ≤ (over L p X).length := by rw [over_len (by omega)]; omega
  rw [over_to h1, over_to (by omega)]

theorem Ow.parts {α : Type} {e : En α} {w : World} {B g n c : Nat} {ys : List α} (h : Ow e w B (some ⟨g, 0, none⟩) n c ys) : ∃ cur, B ≤ g ∧ w.heap[g]? = some (.cells cur e.t (0, 0)) ∧ n ≤ c ∧ c ≤ maxLen ∧ cur.size = c * e.k ∧ cur.toList.take (n * e.k) = flatE e ys := by
  rcases h.2 with ⟨h1, _⟩ | ⟨g', c', cur, h1, h2, h3, h4, h5, h6, h7⟩
  · cases h1
  · injection h1 with e1 _ e3
    injection e1 with e1
    injection e1 with e1
    subst e1; subst e3
    exact ⟨cur, h2, h3, h4, h5, h6, h7⟩
/-- a row made of a block's cells -/
theorem Ow.made {α : Type} {e : En α} {w : World} {B g n c : Nat} {ys : List α} {cur : Array Value} (hB : B ≤ g) (hg : w.heap[g]? = some (.cells cur e.t (0, 0))) (hnc : n ≤ c) (hc : c ≤ maxLen) (hs : cur.size = c * e.k) (hl : ys.length = n) (ht : cur.toList.take (n * e.k) = flatE e ys) : Ow e w B (some ⟨g, 0, none⟩) n c ys :=
  ⟨by rw [flatE_len, hl], .inr ⟨g, c, cur, rfl, hB, hg, hnc, hc, hs, ht⟩⟩
/-- an element more -/
def insA {α : Type} (ys : List α) (i : Nat) (x : α) : List α := ys.take i ++ x :: ys.drop i
theorem insA_len {α : Type} {ys : List α} {i : Nat} (x : α) (h : i ≤ ys.length) : (insA ys i x).length = ys.length + 1 := by
  unfold insA
  simp only [List.length_append, List.length_take, List.length_cons, List.length_drop]
  omega
theorem insA_flat {α : Type} {e : En α} (ys : List α) (i : Nat) (x : α) : flatE e (insA ys i x) = flatE e (ys.take i) ++ e.enc x ++ flatE e (ys.drop i) := by
  unfold insA
  rw [flatE_app, flatE_cons, List.append_assoc]
theorem ow_shift {α : Type} {e : En α} {w W : World} {B g n c i : Nat} {ys : List α} {cur : Array Value} (x : α) (hl : ys.length = n) (hB : B ≤ g) (hnc : n + 1 ≤ c) (hc : c ≤ maxLen) (hs : cur.size = c * e.k) (ht : cur.toList.take (n * e.k) = flatE e ys) (hi : i ≤ n) {cur0 : Array Value}
    (hg : W.heap[g]? = some (.cells cur0 e.t (0, 0))) (hw : w = W.setRow g (over (over cur.toList ((i + 1) * e.k) (flatE e (ys.drop i))) (i * e.k) (e.enc x)).toArray) : Ow e w B (some ⟨g, 0, none⟩) (n + 1) c (insA ys i x) := by
  subst hw
  have hk : n * e.k = i * e.k + (n - i) * e.k := by rw [← Nat.add_mul]; congr 1; omega
  have hk2 : (n + 1) * e.k = i * e.k + e.k + (n - i) * e.k := by rw [Nat.add_mul]; omega
  have hck : (n + 1) * e.k ≤ c * e.k := Nat.mul_le_mul_right _ hnc
  have hdl : (flatE e (ys.drop i)).length = (n - i) * e.k := by rw [flatE_len, List.length_drop, hl]
  have hLl : cur.toList.length = c * e.k := by rw [Array.length_toList, hs]
  have h1 : (i + 1) * e.k = i * e.k + e.k := by rw [Nat.add_mul]; omega
  have hol : (over cur.toList ((i + 1) * e.k) (flatE e (ys.drop i))).length = c * e.k := by rw [over_len (by omega), hLl]
  refine Ow.made hB (setRow_heap _ _ _ _ _ _ hg) hnc hc ?_ (by rw [insA_len x (by omega), hl]) ?_
  · rw [List.size_toArray, over_len (by rw [e.len, hol]; omega), hol]
  · show (over (over cur.toList ((i + 1) * e.k) (flatE e (ys.drop i))) (i * e.k) (e.enc x)).take ((n + 1) * e.k) = _
    rw [h1, hk2, shift_row (e.len x) hdl (by omega), insA_flat, flatE_take, ← ht, List.take_take, Nat.min_eq_left (by omega)]
theorem ow_fill {α : Type} {e : En α} {w W : World} {B g n c i : Nat} {ys : List α} {L : List Value} (x : α) (hl : ys.length = n) (hB : B ≤ g) (hnc : n + 1 ≤ c) (hc : c ≤ maxLen) (hs : L.length = c * e.k) (ht : L.take (i * e.k) = flatE e (ys.take i)) (hi : i ≤ n) {cur0 : Array Value}
    (hg : W.heap[g]? = some (.cells cur0 e.t (0, 0))) (hw : w = W.setRow g (over (over L (i * e.k) (e.enc x)) ((i + 1) * e.k) (flatE e (ys.drop i))).toArray) : Ow e w B (some ⟨g, 0, none⟩) (n + 1) c (insA ys i x) := by
  subst hw
  have hk : n * e.k = i * e.k + (n - i) * e.k := by rw [← Nat.add_mul]; congr 1; omega
  have hk2 : (n + 1) * e.k = i * e.k + e.k + (n - i) * e.k := by rw [Nat.add_mul]; omega
  have hck : (n + 1) * e.k ≤ c * e.k := Nat.mul_le_mul_right _ hnc
  have hdl : (flatE e (ys.drop i)).length = (n - i) * e.k := by rw [flatE_len, List.length_drop, hl]
  have h1 : (i + 1) * e.k = i * e.k + e.k := by rw [Nat.add_mul]; omega
  have hol : (over L (i * e.k) (e.enc x)).length = c * e.k := by rw [over_len (by rw [e.len]; omega), hs]
  refine Ow.made hB (setRow_heap _ _ _ _ _ _ hg) hnc hc ?_ (by rw [insA_len x (by omega), hl]) ?_
  · rw [List.size_toArray, over_len (by rw [hol]; omega), hol]
  · show (over (over L (i * e.k) (e.enc x)) ((i + 1) * e.k) (flatE e (ys.drop i))).take ((n + 1) * e.k) = _
    rw [h1, hk2, fill_row (e.len x) hdl (by omega), insA_flat, ht]
theorem turn_row {w W : World} {F : Nat → Prop} {g : Nat} (h : Turn F w W) (hF : w.heap.size ≤ g ∨ F g) (cs : Array Value) : Turn F w (W.setRow g cs) :=
  ⟨h.os, h.tape, h.output, by simpa using h.size, fun k hk hn => by
    have hne : k ≠ g := by rintro rfl; rcases hF with h1 | h1; omega; exact hn h1
    rw [setRow_other _ _ _ _ hne]
    exact h.block k hk hn⟩
/-- copy, as a step of a walk -/
theorem wpList_copyR {P : Program} (w : World) {ops : Array Oper} {rest : List Oper} {o : Oper} {a : Act} {Q : Exit → Act → World → Prop} (hgd : o.guard = none) (d s : Operand) (t t' : TypeId)
    (ho : o.op = .call { callee := .builtin .copy, args := #[d, s], argTypes := #[t, t'] }) (v u : Value) (hd : a.eval d = v) (hs : a.eval s = u) {v' : Value} {w' : World}
    (hr : (Builtin.copy_ #[t, t'] o.type #[v, u]).run P w = .ok v' w') (h : wpList P ops Q rest (a.put o.dst v') w') : wpList P ops Q (o :: rest) a w :=
  wpList_plain hgd fun _ hK => by
    unfold Oper.wp execOp
    simp only [ho, resolve, invoke, builtin, Sem.run_bind, Sem.run_pure, Result.andThen_ok, List.map_toArray, List.map_cons, List.map_nil, hd, hs, hr]
    exact hK _ _ h
theorem step_copyR {P : Program} {ops : Array Oper} {o : Oper} {a : Act} {w : World} {K : Act → World → Prop} {Q : Exit → Act → World → Prop} {E : Prop}
    (hg : o.guard = none) (d x : Operand) (dT sT : TypeId) (hop : o.op = Op.call { callee := Callee.builtin Builtin.copy, args := #[d, x], argTypes := #[dT, sT] })
    (v u : Value) (hd : a.eval d = v) (hx : a.eval x = u) {v' : Value} {w' : World} (hr : (Builtin.copy_ #[dT, sT] o.type #[v, u]).run P w = .ok v' w') (hK : K (a.put o.dst v') w') :
    if Region.wanted o (yielded ops a.tmps) = true then Oper.wp P o a w K Q else E := by
  have hw : Region.wanted o (yielded ops a.tmps) = true := by simp [Region.wanted, hg]
  rw [if_pos hw]
  unfold Oper.wp
  simp [execOp, hop, resolve, invoke, builtin, hd, hx, hr, Result.andThen]
  exact hK
theorem Turn.drew_ {F : Nat → Prop} {w W : World} (h : Turn F w W) : Turn F w W.drew := h.next (Below.refl _ _).drew
theorem Turn.alloc_ {F : Nat → Prop} {w W : World} (h : Turn F w W) (o : Obj) : Turn F w (W.alloc o) := h.next ((Below.refl _ _).alloc (Nat.le_refl _) o)
/-- append to an own row, as a step of a walk -/
theorem wpList_app_ow {P : Program} (w : World) {ops : Array Oper} {rest : List Oper} {o : Oper} {a : Act} {Q : Exit → Act → World → Prop} (hgd : o.guard = none) (s x : Operand) (t : TypeId)
    (ho : o.op = .call { callee := .builtin .append, args := #[s, x], argTypes := #[t, t] }) (base : Nat) (e : TypeId) (z : Value) (size bytes : Nat) (ht : P.underlying t = some (.slice e)) (h2 : (P.info? e).map (fun i => (i.zero, i.size, i.bytes)) = some (some z, size, bytes))
    (hzs : z.cells.size = size) (hsz : 0 < size) (S : Option Addr) (n cs : Nat) (vs : List Value) (hs : a.eval s = .slice S n cs) (hown : w.ownsRow base e size (.slice S n cs) n vs) (A : Option Addr) (m c : Nat) (news : List Value) (hx : a.eval x = .slice A m c)
    (hl : news.length = m * size) (hr : 0 < m → ∃ a, A = some a ∧ ∀ j u, news[j]? = some u → w.cell? (a.add j) = some u) (h1 : ∀ u ∈ news, u.oneCell' = true) (hby : bytes ≤ 40) (hN : n + m ≤ 1000000) (hbase : base ≤ w.heap.size)
    (h : ∀ A' c' w', w'.ownsRow base e size (.slice A' (n + m) c') (n + m) (vs ++ news) → Turn (Blk S) w w' → (∀ g, Blk A' g → Blk S g ∨ (w.heap.size ≤ g ∧ g < w'.heap.size)) → wpList P ops Q rest (a.put o.dst (.slice A' (n + m) c')) w') : wpList P ops Q (o :: rest) a w :=
  wpList_plain hgd fun K hK => by
    obtain ⟨A', c', w', hrun, h3, h4, h5⟩ := run_append_ow (P := P) w base t o.type e z size bytes ht h2 hzs hsz S n cs vs hown A m c news hl hr h1 hby hN hbase
    unfold Oper.wp execOp
    simp only [ho, resolve, invoke, builtin, Sem.run_bind, Sem.run_pure, Result.andThen_ok, List.map_toArray, List.map_cons, List.map_nil, hs, hx, hrun]
    exact hK _ _ (h A' c' w' h3 h4 h5)
theorem step_app_ow {P : Program} {ops : Array Oper} {o : Oper} {a : Act} {w : World} {K : Act → World → Prop} {Q : Exit → Act → World → Prop} {E : Prop} (hg : o.guard = none) (s x : Operand) (t : TypeId)
    (hop : o.op = .call { callee := .builtin .append, args := #[s, x], argTypes := #[t, t] }) (base : Nat) (e : TypeId) (z : Value) (size bytes : Nat) (ht : P.underlying t = some (.slice e)) (h2 : (P.info? e).map (fun i => (i.zero, i.size, i.bytes)) = some (some z, size, bytes))
    (hzs : z.cells.size = size) (hsz : 0 < size) (S : Option Addr) (n cs : Nat) (vs : List Value) (hs : a.eval s = .slice S n cs) (hown : w.ownsRow base e size (.slice S n cs) n vs) (A : Option Addr) (m c : Nat) (news : List Value) (hx : a.eval x = .slice A m c)
    (hl : news.length = m * size) (hr : 0 < m → ∃ a, A = some a ∧ ∀ j u, news[j]? = some u → w.cell? (a.add j) = some u) (h1 : ∀ u ∈ news, u.oneCell' = true) (hby : bytes ≤ 40) (hN : n + m ≤ 1000000) (hbase : base ≤ w.heap.size)
    (hK : ∀ A' c' w', w'.ownsRow base e size (.slice A' (n + m) c') (n + m) (vs ++ news) → Turn (Blk S) w w' → (∀ g, Blk A' g → Blk S g ∨ (w.heap.size ≤ g ∧ g < w'.heap.size)) → K (a.put o.dst (.slice A' (n + m) c')) w') :
    if Region.wanted o (yielded ops a.tmps) = true then Oper.wp P o a w K Q else E := by
  have hw : Region.wanted o (yielded ops a.tmps) = true := by simp [Region.wanted, hg]
  rw [if_pos hw]
  obtain ⟨A', c', w', hrun, h3, h4, h5⟩ := run_append_ow (P := P) w base t o.type e z size bytes ht h2 hzs hsz S n cs vs hown A m c news hl hr h1 hby hN hbase
  unfold Oper.wp
  simp [execOp, hop, resolve, invoke, builtin, hs, hx, hrun, Result.andThen]
  exact hK _ _ _ h3 h4 h5
end Go.Proofs.Ytadmiecoahohiaa
