/- Rows of ints: append, and whether the row stays. -/
import Derived.Test.YtdoknlodnpeeoaaDoorLIRow
import Derived.Laws.AppendOwn
namespace Go.Proofs.YtdoknlodnpeeoaaDoor
open Go Go.RowKit

theorem run_append_ir2 {P : Program} (w : World) (t ty : TypeId) (bytes : Nat) (ht : P.underlying t = some (.slice 3))
    (h2 : (P.info? 3).map (fun i => (i.zero, i.size, i.bytes)) = some (some (.int .i64 0), 1, bytes))
    {base n c : Nat} {A : Option Addr} {us : List Nat} (h : IR w base A n c us) (b o cc : Nat) {u : Nat} (hx : w.cell? ⟨b, o, none⟩ = some (.int .i64 (u : Int))) (hby : bytes ≤ 24) (hN : n + 1 ≤ 100000) (hbase : base ≤ w.heap.size) :
    ∃ A' c' w', (Builtin.append_ #[t, t] ty #[.slice A n c, .slice (some ⟨b, o, none⟩) 1 cc]).run P w = .ok (.slice A' (n + 1) c') w' ∧ IR w' base A' (n + 1) c' (us ++ [u]) ∧ GrowI base A w w' ∧ (A' = A ∨ A' = some ⟨w.heap.size, 0, none⟩) := by
  obtain ⟨i, hi, hz, hs, hb⟩ := info_parts h2
  have hml : (100000 : Nat) ≤ maxLen := by simp [maxLen]
  have hnews : ∀ j v, ([.int .i64 (u : Int)] : List Value)[j]? = some v → w.cell? ((⟨b, o, none⟩ : Addr).add j) = some v := by
    intro j v e
    rcases j with _ | j
    · simp at e; subst e
      have h0 : (⟨b, o, none⟩ : Addr).add 0 = ⟨b, o, none⟩ := by unfold Addr.add; split <;> simp_all
      rw [h0]; exact hx
    · simp at e
  have new : ∀ (xs rest : List Value) (cap : Nat), xs.length = n → AllI xs.toArray → AllI rest.toArray → (xs ++ Value.int .i64 (u : Int) :: rest).length = cap → n + 1 ≤ cap → cap ≤ maxLen → (∀ (j u' : Nat), us[j]? = some u' → xs[j]? = some (Value.int .i64 (u' : Int))) →
      IR (w.drew.alloc (.cells (xs ++ Value.int .i64 (u : Int) :: rest).toArray 3)) base (some ⟨w.heap.size, 0, none⟩) (n + 1) cap (us ++ [u]) ∧ GrowI base A w (w.drew.alloc (.cells (xs ++ Value.int .i64 (u : Int) :: rest).toArray 3)) := by
    intro xs rest cap h1 h2 h3 h4 h5 h6 h7
    have hB : Below w.heap.size w (w.drew.alloc (.cells (xs ++ Value.int .i64 (u : Int) :: rest).toArray 3)) := (Below.refl _ _).drew.alloc (Nat.le_refl _) _
    have hall : AllI (xs ++ Value.int .i64 (u : Int) :: rest).toArray := by
      have := (h2.app (AllI.one (u : Int))).app h3
      simpa using this
    refine ⟨⟨by simp [h.1], .inr ⟨w.heap.size, _, rfl, hbase, heap_alloc_new w.drew _, h5, h6, by simpa using h4, hall, fun j u' hj => ?_⟩⟩, GrowI.of hB hbase⟩
    rw [List.getElem?_toArray]
    exact elems_appI h.1 h1 h7 rest j u' hj
  rcases h.2 with ⟨rfl, rfl, rfl⟩ | ⟨g, cur, rfl, hbg, hg, hnc, hcm, hcs, hall, hu⟩
  · have hus : us = [] := List.eq_nil_of_length_eq_zero h.1
    subst hus
    have hr := run_append_nil (P := P) w t ty _ i _ ht hi hz ⟨b, o, none⟩ 1 cc [.int .i64 (u : Int)] (by rw [hs]; rfl) hnews (by omega) (by omega) (by rw [hb]; omega)
    have hge := grownCap_ge w 1 0 3
    have hle := grownCap_le_maxLen w 1 0 3 (by omega)
    obtain ⟨k1, k2⟩ := new [] (Builtin.zeroCells (Value.int .i64 0).cells (grownCap w 1 0 3 - 1)).toList (grownCap w 1 0 3) rfl (fun j v e => by simp at e) (by simpa using AllI.zeros _) (by simp [size_zeroCells, Value.cells]; omega) hge hle (fun j u' e => by simp at e)
    have e0 : (([] : List Value) ++ Value.int .i64 (u : Int) :: (Builtin.zeroCells (Value.int .i64 0).cells (grownCap w 1 0 3 - 1)).toList).toArray = [Value.int .i64 (u : Int)].toArray ++ Builtin.zeroCells (Value.int .i64 0).cells (grownCap w 1 0 3 - 1) := by
      apply Array.ext'
      simp
    rw [e0] at k1 k2
    exact ⟨_, _, _, hr, k1, k2, .inr rfl⟩
  · have hcl : cur.toList.length = c := by rw [Array.length_toList, hcs]
    have htl : (cur.toList.take n).length = n := by rw [List.length_take]; omega
    have hxs : ∀ (j u' : Nat), us[j]? = some u' → (cur.toList.take n)[j]? = some (Value.int .i64 (u' : Int)) := by
      intro j u' e
      have e1 := hu j u' e
      have hj : j < n := by rw [← h.1]; exact (List.getElem?_eq_some_iff.1 e).1
      rw [List.getElem?_take_of_lt hj]; simpa using e1
    by_cases hroom : n + 1 ≤ c
    · have hr := run_append_room (P := P) w t ty _ i ht hi g n c cur hg ⟨b, o, none⟩ 1 cc [.int .i64 (u : Int)] (by rw [hs]; rfl) hnews (by intro v hv; simp at hv; subst hv; rfl) hroom (by rw [hs]; simp; omega)
      rw [hs, Nat.mul_one] at hr
      have hrest : AllI (cur.toList.drop (n + 1)).toArray := hall.drop_ _
      generalize hcs2 : (cur.toList.take n ++ [Value.int .i64 (u : Int)] ++ cur.toList.drop (n + [Value.int .i64 (u : Int)].length)).toArray = cs at hr
      have hall2 : AllI cs := by
        rw [← hcs2]
        have := ((hall.take_ n).app (AllI.one (u : Int))).app hrest
        simpa using this
      have hsz2 : cs.size = c := by rw [← hcs2]; simp; omega
      have hgr : w.grownBy (w.setRow g cs) (some g) := ⟨rfl, rfl, rfl, by simp, fun k _ hk => setRow_other w g k _ (fun e => hk (by rw [e]))⟩
      have hkeep : ∀ A n xs, RL w .u32 A n xs → RL (w.setRow g cs) .u32 A n xs := fun _ _ _ hq => hq.grown hgr (rl_farI hq hg hall)
      have hbox : ∀ h vs t, Box w h vs t → (∀ b o, (some ⟨g, 0, none⟩ : Option Addr) = some ⟨b, o, none⟩ → b ≠ h) → Box (w.setRow g cs) h vs t := fun h vs t hb hne => (hgr.block h hb.lt (by simpa using fun e => hne g 0 rfl e.symm)).trans hb
      refine ⟨_, _, _, hr, ⟨by simp [h.1], .inr ⟨g, cs, rfl, hbg, setRow_heap w g cur cs _ (0, 0) hg, hroom, hcm, hsz2, hall2, fun j u' hj => ?_⟩⟩, ⟨⟨rfl, rfl, rfl, by simp, fun k hk => setRow_other w g k _ (by omega)⟩, by simp, hkeep, hbox⟩, .inl rfl⟩
      have e := elems_appI h.1 htl hxs (cur.toList.drop (n + 1)) j u' hj
      rw [← hcs2, List.getElem?_toArray, List.append_assoc]
      exact e
    · have hholds : ∀ j v, (cur.toList.take n)[j]? = some v → w.cell? ((⟨g, 0, none⟩ : Addr).add j) = some v := by
        intro j v e
        have hadd : (⟨g, 0, none⟩ : Addr).add j = ⟨g, j, none⟩ := by unfold Addr.add; split <;> simp_all
        rw [hadd, cell_of_row w g j cur _ (0, 0) hg]
        rw [List.getElem?_take] at e
        split at e
        · simpa using e
        · cases e
      have hr := run_append_grow (P := P) w t ty _ i _ ht hi hz ⟨g, 0, none⟩ n c (cur.toList.take n) (by rw [hs, htl, Nat.mul_one]) hholds ⟨b, o, none⟩ 1 cc [.int .i64 (u : Int)] (by rw [hs]; rfl) hnews (by omega) (by omega) (growslice_fits (by omega) (by rw [hb]; have : (n + 1) * bytes ≤ 100000 * 24 := Nat.mul_le_mul hN hby; omega))
      have hge := grownCap_ge w (n + 1) c 3
      have hle := grownCap_le_maxLen w (n + 1) c 3 (by omega)
      obtain ⟨k1, k2⟩ := new (cur.toList.take n) (Builtin.zeroCells (Value.int .i64 0).cells (grownCap w (n + 1) c 3 - (n + 1))).toList (grownCap w (n + 1) c 3) htl (hall.take_ n) (by simpa using AllI.zeros _) (by simp only [List.length_append, htl, List.length_cons, Array.length_toList, size_zeroCells]; simp [Value.cells]; omega) hge hle hxs
      have e0 : (cur.toList.take n ++ Value.int .i64 (u : Int) :: (Builtin.zeroCells (Value.int .i64 0).cells (grownCap w (n + 1) c 3 - (n + 1))).toList).toArray = (cur.toList.take n).toArray ++ [Value.int .i64 (u : Int)].toArray ++ Builtin.zeroCells (Value.int .i64 0).cells (grownCap w (n + 1) c 3 - (n + 1)) := by
        apply Array.ext'
        simp
      rw [e0] at k1 k2
      exact ⟨_, _, _, hr, k1, k2, .inr rfl⟩
section
variable {P : Program} {w : World} {ops : Array Oper} {rest : List Oper} {o : Oper} {a : Act} {Q : Exit → Act → World → Prop}
theorem wp_append_ir2 {K : Act → World → Prop} (s x : Operand) (t : TypeId)
    (ho : o.op = .call { callee := .builtin .append, args := #[s, x], argTypes := #[t, t] }) (bytes : Nat) (ht : P.underlying t = some (.slice 3))
    (h2 : (P.info? 3).map (fun i => (i.zero, i.size, i.bytes)) = some (some (.int .i64 0), 1, bytes))
    (base : Nat) (A : Option Addr) (n c : Nat) (us : List Nat) (hs : a.eval s = .slice A n c) (h : IR w base A n c us) (b b2 cc : Nat) (u : Nat) (hxe : a.eval x = .slice (some ⟨b, b2, none⟩) 1 cc) (hx : w.cell? ⟨b, b2, none⟩ = some (.int .i64 (u : Int))) (hby : bytes ≤ 24) (p : Nat) (hp : p = n + 1) (hN : p ≤ 100000) (hbase : base ≤ w.heap.size)
    (hK : ∀ A' c' w', IR w' base A' p c' (us ++ [u]) → GrowI base A w w' → (A' = A ∨ A' = some ⟨w.heap.size, 0, none⟩) → K (a.put o.dst (.slice A' p c')) w') : o.wp P a w K Q := by
  subst hp
  obtain ⟨A', c', w', hrun, h3, h4, h5⟩ := run_append_ir2 (P := P) w t o.type bytes ht h2 h b b2 cc hx hby hN hbase
  unfold Oper.wp execOp
  simp only [ho, resolve, invoke, builtin, Sem.run_bind, Sem.run_pure, Result.andThen_ok, List.map_toArray, List.map_cons, List.map_nil, hs, hxe, hrun]
  exact hK _ _ _ h3 h4 h5
theorem wpList_append_ir2 (hgd : o.guard = none) (s x : Operand) (t : TypeId)
    (ho : o.op = .call { callee := .builtin .append, args := #[s, x], argTypes := #[t, t] }) (bytes : Nat) (ht : P.underlying t = some (.slice 3))
    (h2 : (P.info? 3).map (fun i => (i.zero, i.size, i.bytes)) = some (some (.int .i64 0), 1, bytes))
    (base : Nat) (A : Option Addr) (n c : Nat) (us : List Nat) (hs : a.eval s = .slice A n c) (h : IR w base A n c us) (b b2 cc : Nat) (u : Nat) (hxe : a.eval x = .slice (some ⟨b, b2, none⟩) 1 cc) (hx : w.cell? ⟨b, b2, none⟩ = some (.int .i64 (u : Int))) (hby : bytes ≤ 24) (p : Nat) (hp : p = n + 1) (hN : p ≤ 100000) (hbase : base ≤ w.heap.size)
    (hK : ∀ A' c' w', IR w' base A' p c' (us ++ [u]) → GrowI base A w w' → (A' = A ∨ A' = some ⟨w.heap.size, 0, none⟩) → wpList P ops Q rest (a.put o.dst (.slice A' p c')) w') : wpList P ops Q (o :: rest) a w :=
  wpList_plain hgd fun _ hk => wp_append_ir2 s x t ho bytes ht h2 base A n c us hs h b b2 cc u hxe hx hby p hp hN hbase fun A' c' w' h3 h4 h5 => hk _ _ (hK A' c' w' h3 h4 h5)
end
/-- two rows that share no block -/
def Apart (A B : Option Addr) : Prop := ∀ b o b' o', A = some ⟨b, o, none⟩ → B = some ⟨b', o', none⟩ → b ≠ b'
theorem Apart.none_ (B : Option Addr) : Apart none B := fun b o b' o' e => by cases e
theorem IR.keep {w w' : World} {base n c : Nat} {A B : Option Addr} {us : List Nat} (h : IR w base A n c us) (hG : GrowI base B w w') (ha : Apart B A) : IR w' base A n c us := by
  refine ⟨h.1, ?_⟩
  rcases h.2 with h0 | ⟨g, cur, e, hb, hgg, h1, h2, h3, h4, hu⟩
  · exact .inl h0
  · exact .inr ⟨g, cur, e, hb, hG.2.2.2 g cur 3 hgg (fun b o e2 => ha b o g 0 e2 e), h1, h2, h3, h4, hu⟩
theorem Apart.left {w : World} {base n c : Nat} {A A' B : Option Addr} {us : List Nat} (h : Apart A B) (hB : IR w base B n c us) (ho : A' = A ∨ A' = some ⟨w.heap.size, 0, none⟩) : Apart A' B := by
  rcases ho with rfl | rfl
  · exact h
  · intro b o b' o' e1 e2
    injection e1 with e1; injection e1 with e1 _
    have := (hB.lt b' o' e2).2
    omega
theorem Apart.symm {A B : Option Addr} (h : Apart A B) : Apart B A := fun b o b' o' e1 e2 e => h b' o' b o e2 e1 e.symm
end Go.Proofs.YtdoknlodnpeeoaaDoor
