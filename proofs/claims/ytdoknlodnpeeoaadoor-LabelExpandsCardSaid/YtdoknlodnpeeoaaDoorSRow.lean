/- Rows of strings of the call's own: append. -/
import Derived.Test.YtdoknlodnpeeoaaDoorLRuns
import Derived.Laws.AppendOwn
namespace Go.Proofs.YtdoknlodnpeeoaaDoor
open Go Go.RowKit

def Grow (B : Nat) (w w' : World) : Prop := Below B w w' ∧ w.heap.size ≤ w'.heap.size
theorem Grow.of {w w' : World} (h : Below w.heap.size w w') {B : Nat} (hB : B ≤ w.heap.size) : Grow B w w' := ⟨h.mono hB, h.size⟩
/-- every cell is an int -/
def AllB (cs : Array Value) : Prop := ∀ (j : Nat) (v : Value), cs[j]? = some v → ∃ x : ByteArray, v = .string x
/-- a row of the call's own: nil, or the head of a block of slices, from base on -/
def SR (w : World) (base : Nat) (A : Option Addr) (n c : Nat) (us : List ByteArray) : Prop :=
  us.length = n ∧ ((A = none ∧ n = 0 ∧ c = 0) ∨ ∃ g cur, A = some ⟨g, 0, none⟩ ∧ base ≤ g ∧ w.heap[g]? = some (.cells cur 9 (0, 0)) ∧ n ≤ c ∧ c ≤ maxLen ∧ cur.size = c ∧ AllB cur ∧
    ∀ (j : Nat) (u : ByteArray), us[j]? = some u → cur[j]? = some (.string u))
section
variable {w w' : World} {base n c : Nat} {A : Option Addr} {us : List ByteArray}
theorem SR.nil_ : SR w base none 0 0 [] := ⟨rfl, .inl ⟨rfl, rfl, rfl⟩⟩
theorem SR.len (h : SR w base A n c us) : us.length = n := h.1
theorem SR.le (h : SR w base A n c us) : n ≤ c ∧ c ≤ maxLen := by
  rcases h.2 with ⟨_, h1, h2⟩ | ⟨g, cur, _, _, _, h1, h2, _⟩
  · subst h1; subst h2; exact ⟨Nat.le_refl _, by simp [maxLen]⟩
  · exact ⟨h1, h2⟩
theorem SR.lt (h : SR w base A n c us) : ∀ b o, A = some ⟨b, o, none⟩ → base ≤ b ∧ b < w.heap.size := by
  intro b o e
  rcases h.2 with ⟨h0, _⟩ | ⟨g, cur, h0, hb, hg, _⟩
  · rw [h0] at e; cases e
  · rw [h0] at e; injection e with e; injection e with e1 e2
    subst e1
    exact ⟨hb, (Array.getElem?_eq_some_iff.1 hg).1⟩
theorem SR.at_ (h : SR w base A n c us) (hn : 0 < n) : ∃ g, A = some ⟨g, 0, none⟩ ∧ g < w.heap.size ∧ ∀ (j : Nat) u, us[j]? = some u → w.cell? ⟨g, 0 + j, none⟩ = some (.string u) := by
  rcases h.2 with ⟨_, h1, _⟩ | ⟨g, cur, h0, hb, hg, _, _, _, _, hu⟩
  · omega
  · refine ⟨g, h0, (Array.getElem?_eq_some_iff.1 hg).1, fun j u hj => ?_⟩
    rw [Nat.zero_add, cell_of_row w g j cur _ (0, 0) hg]
    exact hu j u hj
theorem SR.grow {B : Nat} (h : SR w base A n c us) (hB : ∀ b o, A = some ⟨b, o, none⟩ → b < B) (hg : Grow B w w') : SR w' base A n c us := by
  refine ⟨h.1, ?_⟩
  rcases h.2 with h0 | ⟨g, cur, e, hb, hgg, h1, h2, h3, h4, hu⟩
  · exact .inl h0
  · exact .inr ⟨g, cur, e, hb, (hg.1.block g (hB g 0 e)).trans hgg, h1, h2, h3, h4, hu⟩
theorem SR.far (h : SR w base A n c us) {k i : Nat} (hne : ∀ b o, A = some ⟨b, o, none⟩ → b ≠ k) (v : Value) : SR (w.setCell ⟨k, i, none⟩ v) base A n c us := by
  refine ⟨h.1, ?_⟩
  rcases h.2 with h0 | ⟨g, cur, e, hb, hgg, h1, h2, h3, h4, hu⟩
  · exact .inl h0
  · exact .inr ⟨g, cur, e, hb, (Below.heap_setCell w ⟨k, i, none⟩ v g (hne g 0 e)).trans hgg, h1, h2, h3, h4, hu⟩
theorem SR.below (h : SR w base A n c us) (hb : Below w.heap.size w w') : SR w' base A n c us := h.grow (fun b o e => (h.lt b o e).2) (Grow.of hb (Nat.le_refl _))
theorem SR.low (h : SR w base A n c us) {b' : Nat} (hb : b' ≤ base) : SR w b' A n c us := by
  refine ⟨h.1, ?_⟩
  rcases h.2 with h0 | ⟨g, cur, e, hb2, r⟩
  · exact .inl h0
  · exact .inr ⟨g, cur, e, by omega, r⟩
end
theorem rl_farB {w : World} {S : Option Addr} {m g : Nat} {xs : List Nat} {cur : Array Value} {t : TypeId} {fr : Nat × Nat} (h : RL w .u32 S m xs) (hg : w.heap[g]? = some (.cells cur t fr)) (hs : AllB cur) : Sp S m g := by
  intro hn b o e
  rintro rfl
  subst e
  obtain ⟨x, _, hc⟩ := h.cell hn
  rw [cell_of_row w b _ _ t fr hg] at hc
  obtain ⟨y, e2⟩ := hs _ _ hc
  cases e2
/-- what has grown: nothing below a bound has turned, words read as before, boxes other than the row's block stay -/
def GrowB (B : Nat) (A : Option Addr) (w w' : World) : Prop := Below B w w' ∧ w.heap.size ≤ w'.heap.size ∧ (∀ A n xs, RL w .u32 A n xs → RL w' .u32 A n xs) ∧ ∀ h vs t, Box w h vs t → (∀ b o, A = some ⟨b, o, none⟩ → b ≠ h) → Box w' h vs t
theorem GrowB.of {w w' : World} (h : Below w.heap.size w w') {B : Nat} (hB : B ≤ w.heap.size) {A : Option Addr} : GrowB B A w w' := ⟨h.mono hB, h.size, fun _ _ _ hc => hc.below h, fun _ _ _ hb _ => hb.below' h⟩
theorem AllB.app {a b : Array Value} (ha : AllB a) (hb : AllB b) : AllB (a ++ b) := by
  intro j v e
  rw [Array.getElem?_append] at e
  split at e
  · exact ha _ _ e
  · exact hb _ _ e
theorem AllB.one (x : ByteArray) : AllB [Value.string x].toArray := by
  intro j v e
  rcases j with _ | j
  · simp at e; exact ⟨x, e.symm⟩
  · simp at e
theorem AllB.take_ {cur : Array Value} (h : AllB cur) (n : Nat) : AllB (cur.toList.take n).toArray := by
  intro j v e
  rw [List.getElem?_toArray, List.getElem?_take] at e
  split at e
  · exact h j v (by simpa using e)
  · cases e
theorem AllB.drop_ {cur : Array Value} (h : AllB cur) (n : Nat) : AllB (cur.toList.drop n).toArray := by
  intro j v e
  rw [List.getElem?_toArray, List.getElem?_drop] at e
  exact h (n + j) v (by simpa using e)
theorem AllB.zeros (n : Nat) : AllB (Builtin.zeroCells (Value.string ⟨#[]⟩).cells n) := by
  intro j v e
  have ec : (Value.string ⟨#[]⟩).cells = #[Value.string ⟨#[]⟩] := rfl
  rw [ec] at e
  unfold Builtin.zeroCells at e
  rw [Array.getElem?_map] at e
  obtain ⟨i, -, e2⟩ := Option.map_eq_some_iff.1 e
  have e3 : (#[Value.string ⟨#[]⟩] : Array Value).size = 1 := rfl
  rw [e3, Nat.mod_one] at e2
  exact ⟨⟨#[]⟩, e2.symm⟩
theorem elems_appB {us : List ByteArray} {xs : List Value} {n : Nat} {u : ByteArray} (hl : us.length = n) (hx : xs.length = n) (h : ∀ (j : Nat) (u' : ByteArray), us[j]? = some u' → xs[j]? = some (Value.string u')) (rest : List Value) :
    ∀ (j : Nat) (u' : ByteArray), (us ++ [u])[j]? = some u' → (xs ++ Value.string u :: rest)[j]? = some (Value.string u') := by
  intro j u' e
  rcases Nat.lt_or_ge j n with hj | hj
  · rw [List.getElem?_append_left (by omega)] at e
    rw [List.getElem?_append_left (by omega)]
    exact h j u' e
  · rw [List.getElem?_append_right (by omega), hl] at e
    rw [List.getElem?_append_right (by omega), hx]
    rcases hk : j - n with _ | k
    · rw [hk] at e
      simp at e
      subst e
      rfl
    · rw [hk] at e
      simp at e
/-- 'append(s, x)': s the call's own row of naturals, x a natural in a cell. -/
theorem run_append_sr {P : Program} (w : World) (t ty : TypeId) (bytes : Nat) (ht : P.underlying t = some (.slice 9))
    (h2 : (P.info? 9).map (fun i => (i.zero, i.size, i.bytes)) = some (some (.string ⟨#[]⟩), 1, bytes))
    {base n c : Nat} {A : Option Addr} {us : List ByteArray} (h : SR w base A n c us) (b o cc : Nat) {u : ByteArray} (hx : w.cell? ⟨b, o, none⟩ = some (.string u)) (hby : bytes ≤ 24) (hN : n + 1 ≤ 100000) (hbase : base ≤ w.heap.size) :
    ∃ A' c' w', (Builtin.append_ #[t, t] ty #[.slice A n c, .slice (some ⟨b, o, none⟩) 1 cc]).run P w = .ok (.slice A' (n + 1) c') w' ∧ SR w' base A' (n + 1) c' (us ++ [u]) ∧ GrowB base A w w' := by
  obtain ⟨i, hi, hz, hs, hb⟩ := info_parts h2
  have hml : (100000 : Nat) ≤ maxLen := by simp [maxLen]
  have hnews : ∀ j v, ([.string u] : List Value)[j]? = some v → w.cell? ((⟨b, o, none⟩ : Addr).add j) = some v := by
    intro j v e
    rcases j with _ | j
    · simp at e; subst e
      have h0 : (⟨b, o, none⟩ : Addr).add 0 = ⟨b, o, none⟩ := by unfold Addr.add; split <;> simp_all
      rw [h0]; exact hx
    · simp at e
  have new : ∀ (xs rest : List Value) (cap : Nat), xs.length = n → AllB xs.toArray → AllB rest.toArray → (xs ++ Value.string u :: rest).length = cap → n + 1 ≤ cap → cap ≤ maxLen → (∀ (j : Nat) (u' : ByteArray), us[j]? = some u' → xs[j]? = some (Value.string u')) →
      SR (w.drew.alloc (.cells (xs ++ Value.string u :: rest).toArray 9)) base (some ⟨w.heap.size, 0, none⟩) (n + 1) cap (us ++ [u]) ∧ GrowB base A w (w.drew.alloc (.cells (xs ++ Value.string u :: rest).toArray 9)) := by
    intro xs rest cap h1 h2 h3 h4 h5 h6 h7
    have hB : Below w.heap.size w (w.drew.alloc (.cells (xs ++ Value.string u :: rest).toArray 9)) := (Below.refl _ _).drew.alloc (Nat.le_refl _) _
    have hall : AllB (xs ++ Value.string u :: rest).toArray := by
      have := (h2.app (AllB.one u)).app h3
      simpa using this
    refine ⟨⟨by simp [h.1], .inr ⟨w.heap.size, _, rfl, hbase, heap_alloc_new w.drew _, h5, h6, by simpa using h4, hall, fun j u' hj => ?_⟩⟩, GrowB.of hB hbase⟩
    rw [List.getElem?_toArray]
    exact elems_appB h.1 h1 h7 rest j u' hj
  rcases h.2 with ⟨rfl, rfl, rfl⟩ | ⟨g, cur, rfl, hbg, hg, hnc, hcm, hcs, hall, hu⟩
  · have hus : us = [] := List.eq_nil_of_length_eq_zero h.1
    subst hus
    have hr := run_append_nil (P := P) w t ty _ i _ ht hi hz ⟨b, o, none⟩ 1 cc [.string u] (by rw [hs]; rfl) hnews (by omega) (by omega) (by rw [hb]; omega)
    have hge := grownCap_ge w 1 0 9
    have hle := grownCap_le_maxLen w 1 0 9 (by omega)
    obtain ⟨k1, k2⟩ := new [] (Builtin.zeroCells (Value.string ⟨#[]⟩).cells (grownCap w 1 0 9 - 1)).toList (grownCap w 1 0 9) rfl (fun j v e => by simp at e) (by simpa using AllB.zeros _) (by simp [size_zeroCells, Value.cells]; omega) hge hle (fun j u' e => by simp at e)
    have e0 : (([] : List Value) ++ Value.string u :: (Builtin.zeroCells (Value.string ⟨#[]⟩).cells (grownCap w 1 0 9 - 1)).toList).toArray = [Value.string u].toArray ++ Builtin.zeroCells (Value.string ⟨#[]⟩).cells (grownCap w 1 0 9 - 1) := by
      apply Array.ext'
      simp
    rw [e0] at k1 k2
    exact ⟨_, _, _, hr, k1, k2⟩
  · have hcl : cur.toList.length = c := by rw [Array.length_toList, hcs]
    have htl : (cur.toList.take n).length = n := by rw [List.length_take]; omega
    have hxs : ∀ (j : Nat) (u' : ByteArray), us[j]? = some u' → (cur.toList.take n)[j]? = some (Value.string u') := by
      intro j u' e
      have e1 := hu j u' e
      have hj : j < n := by rw [← h.1]; exact (List.getElem?_eq_some_iff.1 e).1
      rw [List.getElem?_take_of_lt hj]; simpa using e1
    by_cases hroom : n + 1 ≤ c
    · have hr := run_append_room (P := P) w t ty _ i ht hi g n c cur hg ⟨b, o, none⟩ 1 cc [.string u] (by rw [hs]; rfl) hnews (by intro v hv; simp at hv; subst hv; rfl) hroom (by rw [hs]; simp; omega)
      rw [hs, Nat.mul_one] at hr
      have hrest : AllB (cur.toList.drop (n + 1)).toArray := hall.drop_ _
      generalize hcs2 : (cur.toList.take n ++ [Value.string u] ++ cur.toList.drop (n + [Value.string u].length)).toArray = cs at hr
      have hall2 : AllB cs := by
        rw [← hcs2]
        have := ((hall.take_ n).app (AllB.one u)).app hrest
        simpa using this
      have hsz2 : cs.size = c := by rw [← hcs2]; simp; omega
      have hgr : w.grownBy (w.setRow g cs) (some g) := ⟨rfl, rfl, rfl, by simp, fun k _ hk => setRow_other w g k _ (fun e => hk (by rw [e]))⟩
      have hkeep : ∀ A n xs, RL w .u32 A n xs → RL (w.setRow g cs) .u32 A n xs := fun _ _ _ hq => hq.grown hgr (rl_farB hq hg hall)
      have hbox : ∀ h vs t, Box w h vs t → (∀ b o, (some ⟨g, 0, none⟩ : Option Addr) = some ⟨b, o, none⟩ → b ≠ h) → Box (w.setRow g cs) h vs t := fun h vs t hb hne => (hgr.block h hb.lt (by simpa using fun e => hne g 0 rfl e.symm)).trans hb
      refine ⟨_, _, _, hr, ⟨by simp [h.1], .inr ⟨g, cs, rfl, hbg, setRow_heap w g cur cs _ (0, 0) hg, hroom, hcm, hsz2, hall2, fun j u' hj => ?_⟩⟩, ⟨⟨rfl, rfl, rfl, by simp, fun k hk => setRow_other w g k _ (by omega)⟩, by simp, hkeep, hbox⟩⟩
      have e := elems_appB h.1 htl hxs (cur.toList.drop (n + 1)) j u' hj
      rw [← hcs2, List.getElem?_toArray, List.append_assoc]
      exact e
    · have hholds : ∀ j v, (cur.toList.take n)[j]? = some v → w.cell? ((⟨g, 0, none⟩ : Addr).add j) = some v := by
        intro j v e
        have hadd : (⟨g, 0, none⟩ : Addr).add j = ⟨g, j, none⟩ := by unfold Addr.add; split <;> simp_all
        rw [hadd, cell_of_row w g j cur _ (0, 0) hg]
        rw [List.getElem?_take] at e
        split at e
        · simpa using e
        · cases e
      have hr := run_append_grow (P := P) w t ty _ i _ ht hi hz ⟨g, 0, none⟩ n c (cur.toList.take n) (by rw [hs, htl, Nat.mul_one]) hholds ⟨b, o, none⟩ 1 cc [.string u] (by rw [hs]; rfl) hnews (by omega) (by omega) (growslice_fits (by omega) (by rw [hb]; have : (n + 1) * bytes ≤ 100000 * 24 := Nat.mul_le_mul hN hby; omega))
      have hge := grownCap_ge w (n + 1) c 9
      have hle := grownCap_le_maxLen w (n + 1) c 9 (by omega)
      obtain ⟨k1, k2⟩ := new (cur.toList.take n) (Builtin.zeroCells (Value.string ⟨#[]⟩).cells (grownCap w (n + 1) c 9 - (n + 1))).toList (grownCap w (n + 1) c 9) htl (hall.take_ n) (by simpa using AllB.zeros _) (by simp only [List.length_append, htl, List.length_cons, Array.length_toList, size_zeroCells]; simp [Value.cells]; omega) hge hle hxs
      have e0 : (cur.toList.take n ++ Value.string u :: (Builtin.zeroCells (Value.string ⟨#[]⟩).cells (grownCap w (n + 1) c 9 - (n + 1))).toList).toArray = (cur.toList.take n).toArray ++ [Value.string u].toArray ++ Builtin.zeroCells (Value.string ⟨#[]⟩).cells (grownCap w (n + 1) c 9 - (n + 1)) := by
        apply Array.ext'
        simp
      rw [e0] at k1 k2
      exact ⟨_, _, _, hr, k1, k2⟩
section
variable {P : Program} {w : World} {ops : Array Oper} {rest : List Oper} {o : Oper} {a : Act} {Q : Exit → Act → World → Prop}
theorem wp_append_sr {K : Act → World → Prop} (s x : Operand) (t : TypeId)
    (ho : o.op = .call { callee := .builtin .append, args := #[s, x], argTypes := #[t, t] }) (bytes : Nat) (ht : P.underlying t = some (.slice 9))
    (h2 : (P.info? 9).map (fun i => (i.zero, i.size, i.bytes)) = some (some (.string ⟨#[]⟩), 1, bytes))
    (base : Nat) (A : Option Addr) (n c : Nat) (us : List ByteArray) (hs : a.eval s = .slice A n c) (h : SR w base A n c us) (b b2 cc : Nat) (u : ByteArray) (hxe : a.eval x = .slice (some ⟨b, b2, none⟩) 1 cc) (hx : w.cell? ⟨b, b2, none⟩ = some (.string u)) (hby : bytes ≤ 24) (p : Nat) (hp : p = n + 1) (hN : p ≤ 100000) (hbase : base ≤ w.heap.size)
    (hK : ∀ A' c' w', SR w' base A' p c' (us ++ [u]) → GrowB base A w w' → K (a.put o.dst (.slice A' p c')) w') : o.wp P a w K Q := by
  subst hp
  obtain ⟨A', c', w', hrun, h3, h4⟩ := run_append_sr (P := P) w t o.type bytes ht h2 h b b2 cc hx hby hN hbase
  unfold Oper.wp execOp
  simp only [ho, resolve, invoke, builtin, Sem.run_bind, Sem.run_pure, Result.andThen_ok, List.map_toArray, List.map_cons, List.map_nil, hs, hxe, hrun]
  exact hK _ _ _ h3 h4
theorem wpList_append_sr (hgd : o.guard = none) (s x : Operand) (t : TypeId)
    (ho : o.op = .call { callee := .builtin .append, args := #[s, x], argTypes := #[t, t] }) (bytes : Nat) (ht : P.underlying t = some (.slice 9))
    (h2 : (P.info? 9).map (fun i => (i.zero, i.size, i.bytes)) = some (some (.string ⟨#[]⟩), 1, bytes))
    (base : Nat) (A : Option Addr) (n c : Nat) (us : List ByteArray) (hs : a.eval s = .slice A n c) (h : SR w base A n c us) (b b2 cc : Nat) (u : ByteArray) (hxe : a.eval x = .slice (some ⟨b, b2, none⟩) 1 cc) (hx : w.cell? ⟨b, b2, none⟩ = some (.string u)) (hby : bytes ≤ 24) (p : Nat) (hp : p = n + 1) (hN : p ≤ 100000) (hbase : base ≤ w.heap.size)
    (hK : ∀ A' c' w', SR w' base A' p c' (us ++ [u]) → GrowB base A w w' → wpList P ops Q rest (a.put o.dst (.slice A' p c')) w') : wpList P ops Q (o :: rest) a w :=
  wpList_plain hgd fun _ hk => wp_append_sr s x t ho bytes ht h2 base A n c us hs h b b2 cc u hxe hx hby p hp hN hbase fun A' c' w' h3 h4 => hk _ _ (hK A' c' w' h3 h4)
theorem step_append_sr {K : Act → World → Prop} {E : Prop} (hgd : o.guard = none) (s x : Operand) (t : TypeId)
    (ho : o.op = .call { callee := .builtin .append, args := #[s, x], argTypes := #[t, t] }) (bytes : Nat) (ht : P.underlying t = some (.slice 9))
    (h2 : (P.info? 9).map (fun i => (i.zero, i.size, i.bytes)) = some (some (.string ⟨#[]⟩), 1, bytes))
    (base : Nat) (A : Option Addr) (n c : Nat) (us : List ByteArray) (hs : a.eval s = .slice A n c) (h : SR w base A n c us) (b b2 cc : Nat) (u : ByteArray) (hxe : a.eval x = .slice (some ⟨b, b2, none⟩) 1 cc) (hx : w.cell? ⟨b, b2, none⟩ = some (.string u)) (hby : bytes ≤ 24) (p : Nat) (hp : p = n + 1) (hN : p ≤ 100000) (hbase : base ≤ w.heap.size)
    (hK : ∀ A' c' w', SR w' base A' p c' (us ++ [u]) → GrowB base A w w' → K (a.put o.dst (.slice A' p c')) w') :
    if Region.wanted o (yielded ops a.tmps) = true then Oper.wp P o a w K Q else E := by
  have hw : Region.wanted o (yielded ops a.tmps) = true := by simp [Region.wanted, hgd]
  rw [if_pos hw]
  exact wp_append_sr s x t ho bytes ht h2 base A n c us hs h b b2 cc u hxe hx hby p hp hN hbase hK
end
end Go.Proofs.YtdoknlodnpeeoaaDoor
