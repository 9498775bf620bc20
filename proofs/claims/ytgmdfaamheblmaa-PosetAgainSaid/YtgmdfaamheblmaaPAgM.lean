/- PosetAgain: the mathematics; slices of arcs cut. -/
import Derived.Test.YtgmdfaamheblmaaPCls
namespace Go.Proofs.Ytgmdfaamheblmaa
open Go Go.RowKit PM

theorem off_eq {R S : Nat → Nat → Bool} {i j : Nat} (h : R i j = S i j) : off R i j = off S i j := by unfold off; rw [h]
theorem dig_list {n : Nat} (hn : n ≤ 24) (R : Nat → Nat → Bool) : Dig n (listR n (off R)) :=
  ⟨hn, fun p hp => by
    obtain ⟨h1, h2, h3⟩ := mem_listR.1 hp
    exact ⟨h1, h2, (off_iff.1 h3).1⟩, arcsTo_asc n _ n⟩
theorem adj_list {n : Nat} {R : Nat → Nat → Bool} {i j : Nat} : adj (listR n R) i j = true ↔ i < n ∧ j < n ∧ R i j = true := by rw [adj_iff, mem_listR]
theorem resC_dig {n : Nat} {bs : List (Nat × Nat)} (hd : Dig n bs) : resC n (bs.map zA) = (listR n (off (war (adj bs) n)), 0) := by
  unfold resC
  rw [vB_of hd, if_pos rfl, nA_zA, Int.toNat_natCast]
theorem again_clos {n : Nat} {bs : List (Nat × Nat)} (hd : Dig n bs) : listR n (off (war (adj (listR n (off (war (adj bs) n)))) n)) = listR n (off (war (adj bs) n)) := by
  refine listR_ext fun a b _ _ => clos_again hd.adj (fun i j => ?_) a b
  rw [adj_list]
  refine ⟨fun h => h.2.2, fun h => ?_⟩
  have := war_fits hd.adj i j (off_iff.1 h).2
  exact ⟨this.1, this.2, h⟩
theorem red_off {n : Nat} {T : Nat → Nat → Bool} (hT : Fits n T) (ha : Acy n T) {i j : Nat} (h : red n (war T n) i j = true) : off (red n (war T n)) i j = true := by
  refine off_iff.2 ⟨?_, h⟩
  rintro rfl
  have hw := (red_iff.1 h).1
  rw [ha i (war_fits hT i i hw).1] at hw; cases hw
theorem adj_red {n : Nat} {T : Nat → Nat → Bool} (hT : Fits n T) (ha : Acy n T) {i j : Nat} : adj (listR n (off (red n (war T n)))) i j = true ↔ red n (war T n) i j = true := by
  rw [adj_list]
  refine ⟨fun h => (off_iff.1 h.2.2).2, fun h => ?_⟩
  have := war_fits hT i j (red_iff.1 h).1
  exact ⟨this.1, this.2, red_off hT ha h⟩
theorem again_red {n : Nat} {bs : List (Nat × Nat)} (hd : Dig n bs) (ha : Acy n (adj bs)) : listR n (off (war (adj (listR n (off (red n (war (adj bs) n))))) n)) = listR n (off (war (adj bs) n)) :=
  listR_ext fun a b _ _ => off_eq (red_clos hd.adj ha (fun _ _ => adj_red hd.adj ha) a b)
theorem acB_acy {n : Nat} {bs : List (Nat × Nat)} (hd : Dig n bs) (h : acB n (bs.map zA) = true) : Acy n (adj bs) := by
  unfold acB at h
  rw [vB_of hd, nA_zA, Int.toNat_natCast, Bool.true_and] at h
  exact (ord_acy hd.adj).1 (of_decide_eq_true h)
theorem clos_none {n : Nat} {bs : List (Nat × Nat)} (hd : Dig n bs) (ha : Acy n (adj bs)) (h : listR n (off (red n (war (adj bs) n))) = []) : listR n (off (war (adj bs) n)) = [] := by
  have h1 := again_red hd ha
  rw [h] at h1
  rw [← h1]
  refine List.eq_nil_iff_forall_not_mem.2 fun p hp => ?_
  have hw := (off_iff.1 (mem_listR.1 hp).2.2).2
  have w := war_sound _ _ _ _ hw
  have : ∀ i j, PM.Way (adj []) i j → False := fun i j w => by
    induction w with
    | arc h => exact absurd (adj_iff.1 h) (by simp)
    | cons h _ _ => exact absurd (adj_iff.1 h) (by simp)
  exact this _ _ w
/-- one arc left out -/
def lessA (rs : List (Nat × Nat)) (k : Nat) : List (Nat × Nat) := rs.take k ++ rs.drop (k + 1)
theorem lessA_sub (rs : List (Nat × Nat)) (k : Nat) : (lessA rs k).Sublist rs := by
  unfold lessA
  have h := List.Sublist.append (List.Sublist.refl (rs.take k)) (List.drop_sublist 1 (rs.drop k))
  rw [List.drop_drop, List.take_append_drop] at h
  exact h
theorem lessA_dig {n : Nat} {rs : List (Nat × Nat)} (hd : Dig n rs) (k : Nat) : Dig n (lessA rs k) :=
  ⟨hd.le, fun p hp => hd.fits p ((lessA_sub rs k).subset hp), hd.asc.sublist (lessA_sub rs k)⟩
theorem ltN_irr (p : Nat × Nat) : ¬ltN p p := by unfold ltN; omega
theorem lessA_not {n : Nat} {rs : List (Nat × Nat)} (hd : Dig n rs) {k : Nat} {p : Nat × Nat} (hk : rs[k]? = some p) : p ∉ lessA rs k := by
  intro hm
  have hkl := (List.getElem?_eq_some_iff.1 hk).1
  have hkg := (List.getElem?_eq_some_iff.1 hk).2
  have hp := List.pairwise_iff_getElem.1 hd.asc
  unfold lessA at hm
  rcases List.mem_append.1 hm with hm | hm
  · obtain ⟨j, hj, e⟩ := List.getElem_of_mem hm
    rw [List.getElem_take] at e
    simp only [List.length_take] at hj
    have := hp j k (by omega) hkl (by omega)
    rw [e, hkg] at this
    exact ltN_irr p this
  · obtain ⟨j, hj, e⟩ := List.getElem_of_mem hm
    rw [List.getElem_drop] at e
    simp only [List.length_drop] at hj
    have := hp k (k + 1 + j) hkl (by omega) (by omega)
    rw [e, hkg] at this
    exact ltN_irr p this
theorem again_less {n : Nat} {bs : List (Nat × Nat)} (hd : Dig n bs) (ha : Acy n (adj bs)) {k : Nat} (hk : k < (listR n (off (red n (war (adj bs) n)))).length) : listR n (off (war (adj (lessA (listR n (off (red n (war (adj bs) n)))) k)) n)) ≠ listR n (off (war (adj bs) n)) := by
  intro e
  obtain ⟨⟨x, y⟩, hx⟩ : ∃ p, (listR n (off (red n (war (adj bs) n))))[k]? = some p := ⟨_, List.getElem?_eq_getElem hk⟩
  have hdr := dig_list hd.le (red n (war (adj bs) n))
  have hm := List.mem_of_getElem? hx
  obtain ⟨h1, h2, h3⟩ := mem_listR.1 hm
  simp only at h1 h2 h3
  have hr := (off_iff.1 h3).2
  have hmin := red_min (U := adj (lessA (listR n (off (red n (war (adj bs) n)))) k)) hd.adj (fun i j h => by
    have hi := adj_iff.1 h
    refine ⟨(adj_red hd.adj ha).1 (adj_iff.2 ((lessA_sub _ k).subset hi)), fun e2 => ?_⟩
    rw [e2] at hi
    exact lessA_not hdr hx hi) hr
  have h4 := listR_inj e h1 h2
  have h5 := off_iff.1 (h4.trans (off_iff.2 ⟨(off_iff.1 h3).1, (red_iff.1 hr).1⟩))
  rw [hmin] at h5
  cases h5.2
theorem YL.take_ {w : World} {A : Option Addr} {n : Nat} {l : List (Int × Int)} (h : YL w A n l) {k : Nat} (hk : k ≤ n) : YL w A k (l.take k) := by
  refine ⟨by rw [List.length_take, h.1]; omega, fun hn => ?_⟩
  obtain ⟨b, o, e, hl, hc⟩ := h.2 (by omega)
  refine ⟨b, o, e, hl, fun j u hu => hc j u ?_⟩
  have hf : flatY l = flatY (l.take k) ++ flatY (l.drop k) := by rw [← flatY_app, List.take_append_drop]
  rw [hf, List.getElem?_append_left (List.getElem?_eq_some_iff.1 hu).1]
  exact hu
theorem YL.drop_ {w : World} {b o n : Nat} {l : List (Int × Int)} (h : YL w (some ⟨b, o, none⟩) n l) {k : Nat} (hk : k ≤ n) : YL w (some ⟨b, o + k * 2, none⟩) (n - k) (l.drop k) := by
  refine ⟨by rw [List.length_drop, h.1], fun hn => ?_⟩
  obtain ⟨b2, o2, e, hl, hc⟩ := h.2 (by omega)
  injection e with e; injection e with e1 e2
  subst e1; subst e2
  refine ⟨b, o + k * 2, rfl, hl, fun j u hu => ?_⟩
  have hf : flatY l = flatY (l.take k) ++ flatY (l.drop k) := by rw [← flatY_app, List.take_append_drop]
  have := hc (k * 2 + j) u (by
    rw [hf, List.getElem?_append_right (by rw [flatY_len, List.length_take, h.1]; omega), flatY_len, List.length_take, h.1, show k * 2 + j - min k n * 2 = j by omega]
    exact hu)
  rwa [← Nat.add_assoc] at this
section
variable {P : Program} {w : World} {ops : Array Oper} {o : Oper} {a : Act} {Q : Exit → Act → World → Prop}
theorem step_append_ar {K : Act → World → Prop} {E : Prop} (hgd : o.guard = none) (s x : Operand) (t : TypeId)
    (ho : o.op = .call { callee := .builtin .append, args := #[s, x], argTypes := #[t, t] }) (ht : P.underlying t = some (.slice 42))
    (h2 : (P.info? 42).map (fun i => (i.zero, i.size, i.bytes)) = some (some (.agg #[.int .i64 0, .int .i64 0]), 2, 16))
    (base : Nat) (S : Option Addr) (n cs : Nat) (xs : List (Int × Int)) (hs : a.eval s = .slice S n cs) (hown : AR w base S n cs xs) (A : Option Addr) (m c : Nat) (ys : List (Int × Int)) (hx : a.eval x = .slice A m c) (hr : YL w A m ys) (p : Nat) (hp : p = n + m) (hN : p ≤ 100000) (hbase : base ≤ w.heap.size)
    (hK : ∀ A' c' w', AR w' base A' p c' (xs ++ ys) → GrowA base S w w' → K (a.put o.dst (.slice A' p c')) w') :
    if Region.wanted o (yielded ops a.tmps) = true then Oper.wp P o a w K Q else E := by
  have hw : Region.wanted o (yielded ops a.tmps) = true := by simp [Region.wanted, hgd]
  rw [if_pos hw]
  exact wp_append_ar s x t ho ht h2 base S n cs xs hs hown A m c ys hx hr p hp hN hbase hK
end
end Go.Proofs.Ytgmdfaamheblmaa
