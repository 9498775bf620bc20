/- Reading the text of years gives them back: the mathematics. -/
import Derived.Test.YtihadabaehcmiaaDoorYPars2
namespace Go.Proofs.YtihadabaehcmiaaDoor
open Go Go.RowKit Go.Lib

/-- all are digits -/
def DigL (l : List UInt8) : Prop := ∀ c ∈ l, 48 ≤ c.toNat ∧ c.toNat ≤ 57
theorem ofNat_dig {d : Nat} (h : d < 10) : (UInt8.ofNat (48 + d)).toNat = 48 + d := by
  simp [UInt8.toNat_ofNat']
  omega
theorem dec_dig : ∀ (f u : Nat), u < f → DigL (Lib.decDigits u) ∧ Lib.decDigits u ≠ []
  | 0, u, h => by omega
  | f + 1, u, h => by
    rw [Lib.decDigits]
    split
    · rename_i h10
      refine ⟨fun c hc => ?_, by simp⟩
      rw [List.mem_singleton] at hc
      subst hc
      rw [ofNat_dig h10]
      omega
    · rename_i h10
      refine ⟨fun c hc => ?_, by simp⟩
      rcases List.mem_append.1 hc with hc | hc
      · exact (dec_dig f (u / 10) (by omega)).1 c hc
      · rw [List.mem_singleton] at hc
        subst hc
        rw [ofNat_dig (by omega)]
        omega
theorem parse_app : ∀ (l : List UInt8) (acc u : Nat) (c : UInt8) (d : Nat), parseUint10 acc l = .ok u → d < 10 → c.toNat = 48 + d → u < 1000000 → parseUint10 acc (l ++ [c]) = .ok (u * 10 + d)
  | [], acc, u, c, d, h, hd, hc, hu => by
    simp only [parseUint10] at h
    injection h with h
    subst h
    simp only [List.nil_append, parseUint10]
    rw [if_pos (by omega), if_neg (by omega), if_neg (by omega)]
    congr 1
    omega
  | x :: r, acc, u, c, d, h, hd, hc, hu => by
    simp only [List.cons_append, parseUint10] at h ⊢
    split at h
    · rename_i h1
      rw [if_pos h1]
      split at h
      · cases h
      · rename_i h2
        rw [if_neg h2]
        split at h
        · cases h
        · rename_i h3
          rw [if_neg h3]
          exact parse_app r _ u c d h hd hc hu
    · cases h
theorem parse_dec : ∀ (f u : Nat), u < f → u < 1000000 → parseUint10 0 (Lib.decDigits u) = .ok u
  | 0, u, h, _ => by omega
  | f + 1, u, h, hu => by
    rw [Lib.decDigits]
    split
    · rename_i h10
      have := parse_app [] 0 0 (UInt8.ofNat (48 + u)) u rfl h10 (ofNat_dig h10) (by omega)
      simpa using this
    · rename_i h10
      have h1 := parse_dec f (u / 10) (by omega) (by omega)
      have := parse_app _ 0 (u / 10) (UInt8.ofNat (48 + u % 10)) (u % 10) h1 (by omega) (ofNat_dig (by omega)) (by omega)
      rw [this]
      congr 1
      omega
theorem end_dec (u : Nat) (hu : u < 1000000) : endL (Lib.decDigits u) = some (u : Int) := by
  rw [endL_some]
  obtain ⟨hd, hne⟩ := dec_dig (u + 1) u (by omega)
  have hp := parse_dec (u + 1) u (by omega) hu
  rcases hl : Lib.decDigits u with _ | ⟨c, r⟩
  · exact absurd hl hne
  · rw [hl] at hd hp
    have hc := hd c List.mem_cons_self
    unfold Lib.atoiAll
    have h43 : ¬(c.toNat = 43 ∨ c.toNat = 45) := by omega
    have h45 : ¬(c.toNat = 45) := by omega
    simp only [if_neg h43, if_neg h45, Lib.parseMag]
    rw [if_neg (by simp), hp]
    simp only []
    rw [if_neg (by omega), if_neg (by omega)]
theorem suf_app (l p : List UInt8) : Lib.hasSuffix (l ++ p) p = true := by
  unfold Lib.hasSuffix
  exact List.isSuffixOf_iff_suffix.2 (List.suffix_append _ _)
theorem trim_app (l p : List UInt8) : Lib.trimSuffix (l ++ p) p = l := by
  unfold Lib.trimSuffix
  rw [if_pos (suf_app l p)]
  simp
theorem suf_no (l : List UInt8) (a b : UInt8) (h : a ≠ b) (p q : List UInt8) : Lib.hasSuffix (l ++ (q ++ [a])) (p ++ [b]) = false := by
  rw [Bool.eq_false_iff]
  intro h1
  unfold Lib.hasSuffix at h1
  obtain ⟨t, ht⟩ := List.isSuffixOf_iff_suffix.1 h1
  rw [← List.append_assoc, ← List.append_assoc] at ht
  have := List.append_inj_right' ht rfl
  injection this with this
  exact h this.symm
theorem num_dig (n : Int) : DigL (numL n) ∧ numL n ≠ [] := by
  unfold numL
  exact dec_dig _ _ (Nat.lt_succ_self _)
theorem end_num (n : Int) (h1 : -9999 ≤ n) (h2 : n ≤ 9999) : endL (numL n) = some (if 0 < n then n else 1 - n) := by
  unfold numL
  rw [end_dec _ (by split <;> omega)]
  congr 1
  split <;> omega
theorem year_name (n : Int) (h1 : -9999 ≤ n) (h2 : n ≤ 9999) : yearL (nameL n) = some n := by
  have he := end_num n h1 h2
  unfold yearL nameL eraL
  by_cases h : 0 < n
  · rw [if_pos h] at he
    rw [if_pos h, show ([32, 65, 68] : List UInt8) = adL from rfl, if_pos (suf_app _ _), trim_app, he]
  · rw [if_neg h] at he
    rw [if_neg h, show ([32, 66, 67] : List UInt8) = [32, 66] ++ [67] from rfl, show adL = [32, 65] ++ [68] from rfl, suf_no _ 67 68 (by decide), if_neg (by decide), show ([32, 66] ++ [67] : List UInt8) = bcL from rfl, if_pos (suf_app _ _), trim_app, he]
    simp only [Option.map_some, wrap64]
    congr 1
    omega
theorem year_num (n : Int) : yearL (numL n) = none := by
  obtain ⟨hd, hne⟩ := num_dig n
  rcases List.eq_nil_or_concat (numL n) with h | ⟨l, c, h⟩
  · exact absurd h hne
  · rw [List.concat_eq_append] at h
    have hc := hd c (by rw [h]; simp)
    unfold yearL
    have e1 := suf_no l c 68 (by intro e; subst e; exact absurd hc.2 (by decide)) [32, 65] []
    have e2 := suf_no l c 67 (by intro e; subst e; exact absurd hc.2 (by decide)) [32, 66] []
    rw [h, show adL = [32, 65] ++ [68] from rfl, show bcL = [32, 66] ++ [67] from rfl]
    rw [List.nil_append] at e1 e2
    rw [e1, e2]
    rfl
theorem idx_app : ∀ (l m : List UInt8), (∀ c ∈ l, c ≠ 45) → Lib.index (l ++ 45 :: m) [45] = l.length
  | [], m, _ => by simp [Lib.index]
  | x :: r, m, h => by
    have ih := idx_app r m fun c hc => h c (List.mem_cons_of_mem _ hc)
    have hx : (45 == x) = false := by
      have := h x List.mem_cons_self
      exact beq_eq_false_iff_ne.2 fun e => this e.symm
    simp only [List.cons_append, Lib.index, List.isPrefixOf, hx, Bool.false_and, ih]
    have : ((r.length : Int) == -1) = false := beq_eq_false_iff_ne.2 (by omega)
    simp [this]
theorem idx_no : ∀ (l : List UInt8), (∀ c ∈ l, c ≠ 45) → Lib.index l [45] = -1
  | [], _ => by simp [Lib.index]
  | x :: r, h => by
    have ih := idx_no r fun c hc => h c (List.mem_cons_of_mem _ hc)
    have hx : (45 == x) = false := by
      have := h x List.mem_cons_self
      exact beq_eq_false_iff_ne.2 fun e => this e.symm
    simp [Lib.index, List.isPrefixOf, hx, ih]
theorem cut_app (l m : List UInt8) (h : ∀ c ∈ l, c ≠ 45) : Lib.cut (l ++ 45 :: m) [45] = (l, m, true) := by
  unfold Lib.cut
  rw [idx_app l m h, if_pos (by omega)]
  simp
theorem cut_no (l : List UInt8) (h : ∀ c ∈ l, c ≠ 45) : Lib.cut l [45] = (l, [], false) := by
  unfold Lib.cut
  rw [idx_no l h, if_neg (by omega)]
theorem num_no (n : Int) : ∀ c ∈ numL n, c ≠ 45 := fun c hc e => by
  have := (num_dig n).1 c hc
  subst e
  exact absurd this.1 (by decide)
theorem name_no (n : Int) : ∀ c ∈ nameL n, c ≠ 45 := fun c hc => by
  unfold nameL at hc
  rcases List.mem_append.1 hc with hc | hc
  · exact num_no n c hc
  · unfold eraL at hc
    split at hc <;> (simp at hc; rcases hc with rfl | rfl | rfl <;> decide)
/-- Parse inverts Text -/
theorem parse_text (a b : Int) (h : yB a b = true) : parseL (textL a b) = some (a, b) := by
  obtain ⟨h1, h2, h3⟩ := yB_true.1 h
  have ht : txt a b = ⟨(textL a b).toArray⟩ := by unfold txt; rw [if_pos h]; rfl
  have yb := year_name b (by omega) h3
  have ya := year_name a h1 (by omega)
  unfold parseL
  by_cases hab : a = b
  · subst hab
    have e : textL a a = nameL a := by unfold textL; rw [if_pos rfl]
    have hc := cut_no _ (name_no a)
    rw [e] at ht ⊢
    have hto : too (nameL a) = nameL a := by unfold too; rw [hc]; rfl
    have hfr : frm (nameL a) = nameL a := by unfold frm; rw [hc]
    have hf : fstL (nameL a) a = some a := by unfold fstL; rw [hfr, ya]
    rw [hto, ya]
    simp only [hf]
    rw [if_pos ht]
  · by_cases hs : 0 < a ∨ b ≤ 0
    · have e : textL a b = numL a ++ 45 :: nameL b := by unfold textL; rw [if_neg hab, if_pos hs]
      have hc := cut_app _ (nameL b) (num_no a)
      rw [e] at ht ⊢
      have hto : too (numL a ++ 45 :: nameL b) = nameL b := by unfold too; rw [hc]; rfl
      have hfr : frm (numL a ++ 45 :: nameL b) = numL a := by unfold frm; rw [hc]
      have he : eraL b = eraL a := by
        unfold eraL
        rcases hs with hs | hs
        · rw [if_pos hs, if_pos (by omega)]
        · rw [if_neg (by omega), if_neg (by omega)]
      have hf : fstL (numL a ++ 45 :: nameL b) b = some a := by
        unfold fstL
        rw [hfr, year_num]
        simp only []
        rw [he]
        exact ya
      rw [hto, yb]
      simp only [hf]
      rw [if_pos ht]
    · have e : textL a b = nameL a ++ 45 :: nameL b := by unfold textL; rw [if_neg hab, if_neg hs]
      have hc := cut_app _ (nameL b) (name_no a)
      rw [e] at ht ⊢
      have hto : too (nameL a ++ 45 :: nameL b) = nameL b := by unfold too; rw [hc]; rfl
      have hfr : frm (nameL a ++ 45 :: nameL b) = nameL a := by unfold frm; rw [hc]
      have hf : fstL (nameL a ++ 45 :: nameL b) b = some a := by unfold fstL; rw [hfr, ya]
      rw [hto, yb]
      simp only [hf]
      rw [if_pos ht]
theorem prs_txt (a b : Int) : prs (txt a b).data.toList = if yB a b then (a, b, 0) else (0, 0, 3) := by
  unfold prs txt
  rcases Bool.eq_false_or_eq_true (yB a b) with h | h
  · rw [h]
    simp only [if_true, data_strB]
    rw [parse_text a b h]
  · rw [h]
    rfl
end Go.Proofs.YtihadabaehcmiaaDoor
