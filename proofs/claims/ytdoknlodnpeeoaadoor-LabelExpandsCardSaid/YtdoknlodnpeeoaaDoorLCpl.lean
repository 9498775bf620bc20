/- The text of a list's runs is read as the list again. -/
import Derived.Test.YtdoknlodnpeeoaaDoorLExp
import Derived.Test.YtdoknlodnpeeoaaDoorLRPar
namespace Go.Proofs.YtdoknlodnpeeoaaDoor
open Go Go.RowKit Go.Lib

theorem drop_consL {l : List UInt8} {j : Nat} (hj : j < l.length) : l.drop j = l[j] :: l.drop (j + 1) := List.drop_eq_getElem_cons hj
theorem cutc_hit {d : UInt8} {l m : List UInt8} (h : ∀ c ∈ l, c ≠ d) : Lib.cut (l ++ d :: m) [d] = (l, m, true) := by
  have hd : (l ++ d :: m).drop l.length = d :: m := by simp
  have e : Lib.index (l ++ d :: m) [d] = (l.length : Int) := Lib.index_first (by simp) (by
    unfold Lib.occAt
    rw [hd]
    simp [List.isPrefixOf]) fun j hj => by
    unfold Lib.occAt
    rw [drop_consL (by simp; omega), List.getElem_append_left hj]
    have := h _ (List.getElem_mem hj)
    simp [List.isPrefixOf]
    exact fun h => this h.symm
  unfold Lib.cut
  rw [e, if_pos (by omega), Int.toNat_natCast]
  simp
theorem cutc_miss {d : UInt8} {l : List UInt8} (h : ∀ c ∈ l, c ≠ d) : Lib.cut l [d] = (l, [], false) := by
  have e : Lib.index l [d] = -1 := Lib.index_none fun j hj => by
    unfold Lib.occAt
    rcases Nat.lt_or_ge j l.length with h1 | h1
    · rw [drop_consL h1]
      have := h _ (List.getElem_mem h1)
      simp [List.isPrefixOf]
      exact fun h => this h.symm
    · rw [List.drop_of_length_le h1]; rfl
  unfold Lib.cut
  rw [e, if_neg (by decide)]
theorem sep_hit {u r : List UInt8} (h : ∀ c ∈ u, c ≠ 44) : Lib.index (u ++ 44 :: 32 :: r) sepL = (u.length : Int) := by
  have hd : (u ++ 44 :: 32 :: r).drop u.length = 44 :: 32 :: r := by simp
  exact Lib.index_first (by simp) (by
    unfold Lib.occAt sepL
    rw [hd]
    simp [List.isPrefixOf]) fun j hj => by
    unfold Lib.occAt sepL
    rw [drop_consL (by simp; omega), List.getElem_append_left hj]
    have := h _ (List.getElem_mem hj)
    simp [List.isPrefixOf]
    exact fun h => absurd h.symm this
theorem sep_miss {u : List UInt8} (h : ∀ c ∈ u, c ≠ 44) : Lib.index u sepL = -1 := Lib.index_none fun j hj => by
  unfold Lib.occAt sepL
  rcases Nat.lt_or_ge j u.length with h1 | h1
  · rw [drop_consL h1]
    have := h _ (List.getElem_mem h1)
    simp [List.isPrefixOf]
    exact fun h => absurd h.symm this
  · rw [List.drop_of_length_le h1]; rfl
theorem joinTail_cons5 (u : List UInt8) (us : List (List UInt8)) : Lib.joinTail [44, 32] (u :: us) = 44 :: 32 :: (u ++ Lib.joinTail [44, 32] us) := by
  unfold Lib.joinTail
  simp
theorem split_join : ∀ (us : List (List UInt8)) (u : List UInt8), (∀ x ∈ u :: us, ∀ c ∈ x, c ≠ 44) → splitL (u ++ Lib.joinTail [44, 32] us) = u :: us
  | [], u, h => by
    have hu := h u List.mem_cons_self
    have : Lib.joinTail [44, 32] [] = [] := rfl
    rw [this, List.append_nil, splitL_no (by rw [sep_miss hu]; decide)]
  | v :: us, u, h => by
    have hu := h u List.mem_cons_self
    have ih := split_join us v fun x hx => h x (List.mem_cons_of_mem _ hx)
    rw [joinTail_cons5, splitL_yes (sep_hit hu)]
    congr 1
    · simp
    · rw [← ih]
      congr 1
      rw [show u ++ 44 :: 32 :: (v ++ Lib.joinTail [44, 32] us) = (u ++ [44, 32]) ++ (v ++ Lib.joinTail [44, 32] us) by simp, show u.length + 2 = (u ++ [44, 32]).length by simp, List.drop_left]
theorem digs_ne {d : List UInt8} (h : DigL d) (c : UInt8) (hc : c.toNat < 48 ∨ 57 < c.toNat) : ∀ x ∈ d, x ≠ c := by
  intro x hx e
  subst e
  have := h x hx
  omega
theorem groupL_no44 (a b : Nat) : ∀ c ∈ groupL a b, c ≠ 44 := by
  intro c hc
  unfold groupL at hc
  split at hc
  · exact digs_ne (dec_digs a) 44 (.inl (by decide)) c hc
  · rcases List.mem_append.1 hc with hc | hc
    · exact digs_ne (dec_digs a) 44 (.inl (by decide)) c hc
    · rcases List.mem_cons.1 hc with rfl | hc
      · decide
      · exact digs_ne (dec_digs b) 44 (.inl (by decide)) c hc
theorem groupL_ne (a b : Nat) : groupL a b ≠ [] := by
  unfold groupL
  split
  · exact dec_ne a
  · exact fun h => by simp at h
theorem endsL_group (a b : Nat) (ha : a ≤ 9999) (hb : b ≤ 9999) : endsL (groupL a b) = some ((a : Int), (b : Int)) := by
  unfold groupL
  split
  · rename_i h
    subst h
    unfold endsL
    rw [cutc_miss (digs_ne (dec_digs a) 45 (.inl (by decide)))]
    simp only [Bool.false_eq_true, if_false, end_dec a (by omega)]
  · unfold endsL
    rw [cutc_hit (digs_ne (dec_digs a) 45 (.inl (by decide)))]
    simp only [end_dec a (by omega), if_true, end_dec b (by omega)]
theorem uptoL_cons : ∀ (k a : Nat), uptoL a (k + 1) = a :: uptoL (a + 1) k
  | 0, a => rfl
  | k + 1, a => by
    have h := uptoL_cons k a
    conv => lhs; unfold uptoL
    rw [h]
    conv => rhs; unfold uptoL
    rw [List.cons_append, show a + 1 + k = a + (k + 1) by omega]
theorem cons_split (n : Int) : ∀ (l : List Int) (p : Int), 0 ≤ p → setB n (p + 1) l = true →
    setB n (p + (consL p l : Nat) + 1) (l.drop (consL p l)) = true ∧ l.map Int.toNat = uptoL (p.toNat + 1) (consL p l) ++ (l.drop (consL p l)).map Int.toNat ∧ (consL p l = 0 ∨ p + (consL p l : Nat) < n)
  | [], p, _, _ => ⟨rfl, rfl, .inl rfl⟩
  | x :: l, p, hp, h => by
    by_cases hx : x = p + 1
    · have h' := h
      unfold setB at h'
      split at h'
      · cases h'
      · split at h'
        · cases h'
        · have ih := cons_split n l x (by omega) h'
          have e : consL p (x :: l) = consL x l + 1 := by
            conv => lhs; unfold consL
            rw [if_pos hx]
          rw [e, List.drop_succ_cons, List.map_cons, uptoL_cons, List.cons_append]
          have hz : x.toNat = p.toNat + 1 := by omega
          refine ⟨?_, ?_, .inr ?_⟩
          · rw [show p + ((consL x l + 1 : Nat) : Int) + 1 = x + (consL x l : Nat) + 1 by omega]; exact ih.1
          · rw [← hz, ← ih.2.1]
          · rcases ih.2.2 with h0 | h0 <;> omega
    · have e : consL p (x :: l) = 0 := by
        unfold consL
        rw [if_neg hx]
      rw [e]
      exact ⟨by simpa using h, rfl, .inl rfl⟩
theorem gfold_runs : ∀ (f : Nat) (xs : List Int) (L : List Nat) (nx : Nat), xs.length ≤ f → setB 1000 (nx : Int) xs = true →
    ∃ nx', gfold (some (L, nx)) ((runsG f xs).map (·.data.toList)) = some (L ++ xs.map Int.toNat, nx')
  | f, [], L, nx, _, _ => by
    rw [runsG_nil]
    exact ⟨nx, by simp [gfold]⟩
  | 0, x :: l, _, _, h, _ => by simp at h
  | f + 1, x :: l, L, nx, hf, h => by
    have h' := h
    unfold setB at h'
    split at h'
    · cases h'
    · split at h'
      · cases h'
      · obtain ⟨h1, h2, h3⟩ := cons_split 1000 l x (by omega) h'
        have hk := consL_le x l
        obtain ⟨k, hkk⟩ : ∃ k, consL x l = k := ⟨_, rfl⟩
        rw [hkk] at h1 h2 h3 hk
        obtain ⟨nx', ih⟩ := gfold_runs f (l.drop k) (L ++ uptoL x.toNat (k + 1)) (x.toNat + k + 1) (by rw [List.length_drop]; simp at hf; omega) (by rw [show ((x.toNat + k + 1 : Nat) : Int) = x + (k : Nat) + 1 by omega]; exact h1)
        refine ⟨nx', ?_⟩
        have e : runsG (f + 1) (x :: l) = strB (groupL x.toNat (x.toNat + k)) :: runsG f (l.drop k) := by
          conv => lhs; unfold runsG
          rw [hkk]
        rw [e, List.map_cons]
        have hg : gstep (L, nx) (strB (groupL x.toNat (x.toNat + k))).data.toList = some (L ++ uptoL x.toNat (k + 1), x.toNat + k + 1) := by
          rw [data_strB]
          unfold gstep
          rw [endsL_group _ _ (by omega) (by rcases h3 with h3 | h3 <;> omega)]
          simp only []
          rw [if_pos (by refine ⟨?_, ?_, ?_⟩ <;> rcases h3 with h3 | h3 <;> omega)]
          rw [Int.toNat_natCast, Int.toNat_natCast, show x.toNat + k + 1 - x.toNat = k + 1 by omega]
        show gfold (gstep (L, nx) _) _ = _
        rw [hg, ih, uptoL_cons, List.append_assoc, List.cons_append, ← h2, List.map_cons]
theorem runsG_no44 : ∀ (f : Nat) (xs : List Int), ∀ x ∈ (runsG f xs).map (·.data.toList), ∀ c ∈ x, c ≠ 44
  | 0, _ => fun x hx => by simp [runsG] at hx
  | f + 1, [] => fun x hx => by simp [runsG] at hx
  | f + 1, x :: l => fun y hy => by
    unfold runsG at hy
    rw [List.map_cons] at hy
    rcases List.mem_cons.1 hy with rfl | hy
    · rw [data_strB]; exact groupL_no44 _ _
    · exact runsG_no44 f _ y hy
theorem nums_runs {xs : List Int} (h : setB 1000 1 xs = true) : numsL (runsT xs).data.toList = some (xs.map Int.toNat) := by
  rcases xs with _ | ⟨x, l⟩
  · rfl
  · obtain ⟨nx', hg⟩ := gfold_runs (x :: l).length (x :: l) [] 1 (Nat.le_refl _) h
    have h44 := runsG_no44 (x :: l).length (x :: l)
    have e : (runsT (x :: l)).data.toList = Lib.join ((runsG (x :: l).length (x :: l)).map (·.data.toList)) [44, 32] := by
      unfold runsT joinT
      simp
    obtain ⟨u, us, hu⟩ : ∃ u us, (runsG (x :: l).length (x :: l)).map (·.data.toList) = u :: us := ⟨_, _, rfl⟩
    have hne : u ≠ [] := by
      have : (runsG (x :: l).length (x :: l)).map (·.data.toList) = (strB (groupL x.toNat (x.toNat + consL x l))).data.toList :: (runsG l.length (l.drop (consL x l))).map (·.data.toList) := rfl
      rw [this, data_strB] at hu
      injection hu with hu _
      rw [← hu]; exact groupL_ne _ _
    rw [hu] at h44 hg e
    rw [Lib.join_cons] at e
    unfold numsL
    rw [e, if_neg (by intro h; exact hne (List.append_eq_nil_iff.1 h).1), split_join us u h44, hg]
    rfl
theorem ints5_toNat {xs : List Int} (h : ∀ x ∈ xs, 0 ≤ x) : ints5 (xs.map Int.toNat) = xs := by
  unfold ints5
  rw [List.map_map]
  conv => rhs; rw [← List.map_id xs]
  exact List.map_congr_left fun x hx => by
    have := h x hx
    simp only [Function.comp_apply, id_eq]
    omega
theorem exp_runs {xs : List Int} (h : setB 1000 1 xs = true) : expR (runsT xs).data.toList = (xs.map Int.toNat, 0) := by
  have hi : ints5 (xs.map Int.toNat) = xs := ints5_toNat fun x hx => by have := setB_in 1000 xs 1 h x hx; omega
  unfold expR expL
  rw [nums_runs h]
  simp only []
  rw [hi, strB_data, if_pos (by unfold runT; rw [if_pos h])]
theorem groupL_len (a k : Nat) (h : a + k ≤ 999) : (groupL a (a + k)).length ≤ 5 * (k + 1) - 2 := by
  have z1 := dec_len3 3 a (by omega) (by omega)
  have z2 := dec_len3 3 (a + k) (by omega) (by omega)
  unfold groupL
  split
  · omega
  · simp only [List.length_append, List.length_cons]; omega
theorem tail_runs : ∀ (f : Nat) (xs : List Int) (y : Int), 0 ≤ y → setB 1000 y xs = true → (Lib.joinTail [44, 32] ((runsG f xs).map (·.data.toList))).length ≤ 5 * xs.length
  | 0, _, _, _, _ => by simp [runsG, Lib.joinTail]
  | f + 1, [], _, _, _ => by simp [runsG, Lib.joinTail]
  | f + 1, x :: l, y, hy, h => by
    unfold setB at h
    split at h
    · cases h
    · split at h
      · cases h
      · obtain ⟨h1, -, h3⟩ := cons_split 1000 l x (by omega) h
        have hk := consL_le x l
        have ih := tail_runs f (l.drop (consL x l)) _ (by omega) h1
        have hg := groupL_len x.toNat (consL x l) (by rcases h3 with h3 | h3 <;> omega)
        unfold runsG
        rw [List.map_cons, joinTail_cons5, data_strB]
        rw [List.length_drop] at ih
        simp only [List.length_cons, List.length_append]
        omega
theorem runsT_size {xs : List Int} (h : setB 1000 1 xs = true) : (runsT xs).size ≤ 5 * xs.length := by
  have ht := tail_runs xs.length xs 1 (by omega) h
  have e : (runsT xs).size = (Lib.join ((runsG xs.length xs).map (·.data.toList)) [44, 32]).length := by
    rw [Lib.size_eq]
    unfold runsT joinT
    simp
  rw [e]
  rcases hg : (runsG xs.length xs).map (·.data.toList) with _ | ⟨u, us⟩
  · rw [hg]; exact Nat.zero_le _
  · rw [hg, joinTail_cons5] at ht
    rw [hg, Lib.join_cons]
    simp only [List.length_cons, List.length_append] at ht ⊢
    omega
end Go.Proofs.YtdoknlodnpeeoaaDoor
