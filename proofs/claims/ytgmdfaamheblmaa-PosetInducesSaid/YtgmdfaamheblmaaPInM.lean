/- The mathematics of Induced. -/
import Derived.Test.YtgmdfaamheblmaaAA
namespace Go.Proofs.Ytgmdfaamheblmaa.PM
/-- strictly ascending lists of the same members are the same -/
theorem asc_uniq : ∀ (xs ys : List (Nat × Nat)), xs.Pairwise ltN → ys.Pairwise ltN → (∀ p, p ∈ xs ↔ p ∈ ys) → xs = ys
  | [], [], _, _, _ => rfl
  | [], y :: ys, _, _, h => nomatch (h y).2 List.mem_cons_self
  | x :: xs, [], _, _, h => nomatch (h x).1 List.mem_cons_self
  | x :: xs, y :: ys, hx, hy, h => by
    rw [List.pairwise_cons] at hx hy
    have irr : ∀ {p q : Nat × Nat}, ltN p q → ltN q p → False := fun h1 h2 => by unfold ltN at h1 h2; omega
    have e : x = y := by
      rcases List.mem_cons.1 ((h x).1 List.mem_cons_self) with h1 | h1
      · exact h1
      · rcases List.mem_cons.1 ((h y).2 List.mem_cons_self) with h2 | h2
        · exact h2.symm
        · exact (irr (hx.1 _ h2) (hy.1 _ h1)).elim
    subst e
    congr 1
    refine asc_uniq xs ys hx.2 hy.2 fun p => ⟨fun hp => ?_, fun hp => ?_⟩
    · rcases List.mem_cons.1 ((h p).1 (List.mem_cons_of_mem _ hp)) with h1 | h1
      · subst h1; exact (irr (hx.1 _ hp) (hx.1 _ hp)).elim
      · exact h1
    · rcases List.mem_cons.1 ((h p).2 (List.mem_cons_of_mem _ hp)) with h1 | h1
      · subst h1; exact (irr (hy.1 _ hp) (hy.1 _ hp)).elim
      · exact h1
/-- the place of a number in an ascending list -/
theorem countP_at : ∀ (xs : List Int), xs.Pairwise (· < ·) → ∀ (i : Nat) (a : Int), xs[i]? = some a → xs.countP (· < a) = i
  | [], _, _, _, h => by simp at h
  | x :: xs, hx, 0, a, h => by
    rw [List.pairwise_cons] at hx
    simp at h; subst h
    rw [List.countP_cons_of_neg (by simp), List.countP_eq_zero]
    intro b hb
    have := hx.1 b hb
    simp; omega
  | x :: xs, hx, i + 1, a, h => by
    rw [List.pairwise_cons] at hx
    have h2 : xs[i]? = some a := by simpa using h
    have := hx.1 a (List.mem_of_getElem? h2)
    rw [List.countP_cons_of_pos (by simpa using this), countP_at xs hx.2 i a h2]
/-- one arc as an arc among the places -/
def indP (xs : List Int) (p : Nat × Nat) : List (Nat × Nat) := if xs.contains (p.1 : Int) = true ∧ xs.contains (p.2 : Int) = true then [(xs.countP (· < (p.1 : Int)), xs.countP (· < (p.2 : Int)))] else []
def indTo (xs : List Int) (bs : List (Nat × Nat)) (m : Nat) : List (Nat × Nat) := (bs.take m).flatMap (indP xs)
/-- which places an arc joins -/
def indR (xs : List Int) (bs : List (Nat × Nat)) (m : Nat) (i k : Nat) : Bool := (bs.take m).any fun p => xs[i]? == some (p.1 : Int) && xs[k]? == some (p.2 : Int)
theorem indR_iff {xs bs m i k} : indR xs bs m i k = true ↔ ∃ p ∈ bs.take m, xs[i]? = some (p.1 : Int) ∧ xs[k]? = some (p.2 : Int) := by
  unfold indR
  rw [List.any_eq_true]
  simp
theorem mem_indTo {xs bs m q} (hx : xs.Pairwise (· < ·)) : q ∈ indTo xs bs m ↔ indR xs bs m q.1 q.2 = true := by
  unfold indTo
  rw [List.mem_flatMap, indR_iff]
  constructor
  · rintro ⟨p, hp, hq⟩
    unfold indP at hq
    split at hq
    · rename_i hc
      simp only [List.mem_singleton] at hq
      subst hq
      obtain ⟨h1, h2⟩ := hc
      rw [List.contains_iff_mem, List.mem_iff_getElem?] at h1 h2
      obtain ⟨i, hi⟩ := h1
      obtain ⟨k, hk⟩ := h2
      refine ⟨p, hp, ?_, ?_⟩
      · show xs[xs.countP _]? = _; rw [countP_at xs hx i _ hi]; exact hi
      · show xs[xs.countP _]? = _; rw [countP_at xs hx k _ hk]; exact hk
    · cases hq
  · rintro ⟨p, hp, h1, h2⟩
    refine ⟨p, hp, ?_⟩
    unfold indP
    rw [if_pos ⟨List.contains_iff_mem.2 (List.mem_of_getElem? h1), List.contains_iff_mem.2 (List.mem_of_getElem? h2)⟩, countP_at xs hx _ _ h1, countP_at xs hx _ _ h2]
    simp
theorem pos_lt {xs : List Int} (hx : xs.Pairwise (· < ·)) {i k : Nat} {a b : Int} (h1 : xs[i]? = some a) (h2 : xs[k]? = some b) (h : a < b) : i < k := by
  rcases Nat.lt_trichotomy i k with h3 | h3 | h3
  · exact h3
  · subst h3; rw [h1] at h2; injection h2 with h2; omega
  · have l1 := (List.getElem?_eq_some_iff.1 h1).1
    have l2 := (List.getElem?_eq_some_iff.1 h2).1
    have := List.pairwise_iff_getElem.1 hx k i l2 l1 h3
    rw [(List.getElem?_eq_some_iff.1 h1).2, (List.getElem?_eq_some_iff.1 h2).2] at this
    omega
theorem indTo_asc {xs : List Int} (hx : xs.Pairwise (· < ·)) : ∀ (bs : List (Nat × Nat)), bs.Pairwise ltN → (bs.flatMap (indP xs)).Pairwise ltN
  | [], _ => List.Pairwise.nil
  | p :: bs, h => by
    rw [List.pairwise_cons] at h
    rw [List.flatMap_cons, List.pairwise_append]
    refine ⟨?_, indTo_asc hx bs h.2, fun a ha b hb => ?_⟩
    · unfold indP
      split
      · exact List.pairwise_singleton _ _
      · exact List.Pairwise.nil
    · have ha2 : a ∈ indTo xs [p] 1 := by unfold indTo; simpa using ha
      obtain ⟨p', hp', a1, a2⟩ := indR_iff.1 ((mem_indTo hx).1 ha2)
      simp only [List.take_succ_cons, List.take_zero, List.mem_singleton] at hp'
      subst hp'
      have hb2 : b ∈ indTo xs bs bs.length := by unfold indTo; rw [List.take_length]; exact hb
      obtain ⟨q, hq, b1, b2⟩ := indR_iff.1 ((mem_indTo hx).1 hb2)
      rw [List.take_length] at hq
      have := h.1 q hq
      unfold ltN at this ⊢
      rcases this with h3 | ⟨h3, h4⟩
      · exact .inl (pos_lt hx a1 b1 (by omega))
      · rw [h3] at a1
        refine .inr ⟨?_, pos_lt hx a2 b2 (by omega)⟩
        rw [← countP_at xs hx _ _ a1, ← countP_at xs hx _ _ b1]
theorem ind_eq {xs : List Int} {bs : List (Nat × Nat)} (hx : xs.Pairwise (· < ·)) (hb : bs.Pairwise ltN) {m : Nat} (hm : bs.length ≤ m) : indTo xs bs m = listR xs.length (indR xs bs m) := by
  refine asc_uniq _ _ ?_ (arcsTo_asc _ _ _) fun q => ?_
  · unfold indTo; rw [List.take_of_length_le hm]; exact indTo_asc hx bs hb
  · rw [mem_indTo hx, mem_listR]
    refine ⟨fun h => ?_, fun h => h.2.2⟩
    obtain ⟨p, _, h1, h2⟩ := indR_iff.1 h
    exact ⟨(List.getElem?_eq_some_iff.1 h1).1, (List.getElem?_eq_some_iff.1 h2).1, h⟩
theorem take_nextB {bs : List (Nat × Nat)} {k : Nat} {p : Nat × Nat} (h : bs[k]? = some p) : bs.take (k + 1) = bs.take k ++ [p] := by
  rw [List.take_add_one, h]; rfl
theorem indTo_next {xs : List Int} {bs : List (Nat × Nat)} {m : Nat} {p : Nat × Nat} (h : bs[m]? = some p) : indTo xs bs (m + 1) = indTo xs bs m ++ indP xs p := by
  unfold indTo
  rw [take_nextB h, List.flatMap_append]
  simp
theorem indTo_len (xs : List Int) (bs : List (Nat × Nat)) : ∀ m, (indTo xs bs m).length ≤ m
  | 0 => by simp [indTo]
  | m + 1 => by
    rcases h : bs[m]? with _ | p
    · have : bs.length ≤ m := by
        rcases Nat.lt_or_ge m bs.length with h1 | h1
        · rw [List.getElem?_eq_getElem h1] at h; cases h
        · exact h1
      have h2 := indTo_len xs bs m
      unfold indTo at h2 ⊢
      rw [List.take_of_length_le this] at h2
      rw [List.take_of_length_le (by omega)]
      omega
    · rw [indTo_next h, List.length_append]
      have := indTo_len xs bs m
      have h3 : (indP xs p).length ≤ 1 := by unfold indP; split <;> simp
      omega
/-- at most one arc joins two places -/
def oneTo (xs : List Int) (bs : List (Nat × Nat)) (i k m : Nat) : List (Nat × Nat) := if indR xs bs m i k then [(i, k)] else []
theorem oneTo_zero (xs bs i k) : oneTo xs bs i k 0 = [] := by simp [oneTo, indR]
theorem oneTo_hit {xs : List Int} {bs : List (Nat × Nat)} (hb : bs.Pairwise ltN) {i k m : Nat} {p : Nat × Nat} (h : bs[m]? = some p) (h1 : xs[i]? = some (p.1 : Int)) (h2 : xs[k]? = some (p.2 : Int)) : oneTo xs bs i k (m + 1) = oneTo xs bs i k m ++ [(i, k)] := by
  unfold oneTo
  rw [if_pos (indR_iff.2 ⟨p, by rw [take_nextB h]; simp, h1, h2⟩), if_neg, List.nil_append]
  rw [indR_iff]
  rintro ⟨q, hq, h3, h4⟩
  have e : q = p := by
    obtain ⟨q1, q2⟩ := q
    obtain ⟨p1, p2⟩ := p
    simp only at h1 h2 h3 h4
    rw [h1] at h3; rw [h2] at h4
    injection h3 with h3; injection h4 with h4
    congr 1 <;> omega
  subst e
  obtain ⟨j, hj⟩ := List.mem_iff_getElem?.1 hq
  have hjl := (List.getElem?_eq_some_iff.1 hj).1
  rw [List.length_take] at hjl
  rw [List.getElem?_take_of_lt (by omega)] at hj
  have l1 := (List.getElem?_eq_some_iff.1 hj).1
  have l2 := (List.getElem?_eq_some_iff.1 h).1
  have := List.pairwise_iff_getElem.1 hb j m l1 l2 (by omega)
  rw [(List.getElem?_eq_some_iff.1 hj).2, (List.getElem?_eq_some_iff.1 h).2] at this
  unfold ltN at this
  omega
theorem oneTo_miss {xs : List Int} {bs : List (Nat × Nat)} {i k m : Nat} {p : Nat × Nat} (h : bs[m]? = some p) (h1 : ¬(xs[i]? = some (p.1 : Int) ∧ xs[k]? = some (p.2 : Int))) : oneTo xs bs i k (m + 1) = oneTo xs bs i k m := by
  have e : indR xs bs (m + 1) i k = indR xs bs m i k := by
    rw [Bool.eq_iff_iff, indR_iff, indR_iff, take_nextB h]
    constructor
    · rintro ⟨q, hq, h2⟩
      rcases List.mem_append.1 hq with hq | hq
      · exact ⟨q, hq, h2⟩
      · simp only [List.mem_singleton] at hq; subst hq; exact (h1 h2).elim
    · rintro ⟨q, hq, h2⟩
      exact ⟨q, List.mem_append_left _ hq, h2⟩
  unfold oneTo
  rw [e]
theorem asc_le : ∀ (xs : List Int) (lo hi : Int), xs.Pairwise (· < ·) → (∀ x ∈ xs, lo ≤ x ∧ x < hi) → lo ≤ hi → (xs.length : Int) ≤ hi - lo
  | [], lo, hi, _, _, h => by simp; omega
  | x :: xs, lo, hi, hx, h, _ => by
    rw [List.pairwise_cons] at hx
    have h0 := h x List.mem_cons_self
    have := asc_le xs (x + 1) hi hx.2 (fun y hy => ⟨by have := hx.1 y hy; omega, (h y (List.mem_cons_of_mem _ hy)).2⟩) (by omega)
    simp only [List.length_cons]
    omega
end Go.Proofs.Ytgmdfaamheblmaa.PM
