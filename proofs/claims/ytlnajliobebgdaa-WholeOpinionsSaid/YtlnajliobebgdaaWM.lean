/- WholeOpinions, the mathematics: a merger without conflicts. -/
import Derived.Test.YtlnajliobebgdaaUN
namespace Go.Proofs.Ytlnajliobebgdaa
open Go Go.RowKit Go.Lib
theorem meF_mem {o a b : List Ent} {k : Int} (h : k ∉ meK o a b) : at' o k = Sd.no ∧ at' a k = Sd.no ∧ at' b k = Sd.no := by
  refine ⟨?_, ?_, ?_⟩
  · exact Decidable.byContradiction fun h1 => h (mem_meK.2 (.inl (at_ex h1)))
  · exact Decidable.byContradiction fun h1 => h (mem_meK.2 (.inr (.inl (at_ex h1))))
  · exact Decidable.byContradiction fun h1 => h (mem_meK.2 (.inr (.inr (at_ex h1))))
theorem me1_nrm {o x y : Sd} (ho : Nrm o) (hx : Nrm x) (hy : Nrm y) : Nrm (me1 o x y) := by
  unfold me1
  split
  · exact hx
  · split
    · exact hy
    · exact ho
theorem nrm_no {s : Sd} (h : Nrm s) (hi : s.i = false) : s = Sd.no := by
  obtain ⟨v, i⟩ := s
  have h1 : i = false := hi
  subst h1
  have h2 : v = 0 := h rfl
  subst h2
  rfl
/-- what the merger says of a key -/
theorem at_meL (o a b : List Ent) (k : Int) : at' (meL o a b) k = me1 (at' o k) (at' a k) (at' b k) := by
  unfold meL
  rw [at_mkE (K := meK o a b) (srt_kset _)]
  split
  · rfl
  · rename_i h
    symm
    by_cases hk : k ∈ meK o a b
    · have hi : (me1 (at' o k) (at' a k) (at' b k)).i = false := by
        cases hh : (me1 (at' o k) (at' a k) (at' b k)).i with
        | false => rfl
        | true => exact absurd ⟨hk, hh⟩ h
      exact nrm_no (me1_nrm (at_nrm _ _) (at_nrm _ _) (at_nrm _ _)) hi
    · obtain ⟨h1, h2, h3⟩ := meF_mem hk
      rw [h1, h2, h3]
      rfl
theorem bad_no {o a b : List Ent} (h : meB o a b = []) (k : Int) : bad1 (at' o k) (at' a k) (at' b k) = false := by
  by_cases hk : k ∈ meK o a b
  · cases hb : bad1 (at' o k) (at' a k) (at' b k) with
    | false => rfl
    | true =>
      have : k ∈ meB o a b := List.mem_filter.2 ⟨hk, hb⟩
      rw [h] at this
      cases this
  · obtain ⟨h1, h2, h3⟩ := meF_mem hk
    rw [h1, h2, h3]
    rfl
theorem len_meK (o a b : List Ent) : (meK o a b).length ≤ o.length + (a.length + b.length) := by
  refine Nat.le_trans (len_kset _) ?_
  rw [List.length_append, List.length_append, List.length_map, List.length_map, List.length_map]
  exact Nat.le_refl _
theorem len_meL (o a b : List Ent) : (meL o a b).length ≤ o.length + (a.length + b.length) := Nat.le_trans (List.length_filterMap_le _ _) (len_meK o a b)
theorem len_meB (o a b : List Ent) : (meB o a b).length ≤ o.length + (a.length + b.length) := Nat.le_trans (List.length_filter_le _ _) (len_meK o a b)
theorem len_difK (a b : List Ent) : (difL a b).length ≤ a.length + b.length := by
  refine Nat.le_trans (List.length_filterMap_le _ _) (Nat.le_trans (len_kset _) ?_)
  rw [List.length_append, List.length_map, List.length_map]
  exact Nat.le_refl _
theorem vE_meL {o a b : List Ent} (h : (meL o a b).length ≤ 64) : vE (meL o a b) = true := vE_iff.2 ⟨h, srt_mkE (srt_kset _) _⟩
/-- the rest of the changes is a part of those of the other side -/
theorem rest_sub {o a b : List Ent} (hb : meB o a b = []) : ∀ x ∈ difL a (meL o a b), x ∈ difL o b := by
  intro x hx
  obtain ⟨_, h2, h3, h4⟩ := mem_mkC.1 hx
  have hn := bad_no hb x.k
  rw [at_meL] at h3 h4
  have key : at' a x.k = at' o x.k ∧ me1 (at' o x.k) (at' a x.k) (at' b x.k) = at' b x.k ∧ at' o x.k ≠ at' b x.k := by
    generalize at' o x.k = so at *
    generalize at' a x.k = sa at *
    generalize at' b x.k = sb at *
    unfold me1 at h4 ⊢
    unfold bad1 at hn
    by_cases c1 : sa = sb ∨ sb = so
    · rw [if_pos c1] at h4; exact absurd rfl h4
    · rw [if_neg c1] at h4 ⊢
      by_cases c2 : sa = so
      · rw [if_pos c2] at h4 ⊢
        exact ⟨c2, rfl, by rw [← c2]; exact h4⟩
      · exact absurd ⟨fun e => c1 (.inl e), fun e => c1 (.inr e), c2⟩ (of_decide_eq_false hn)
  refine mem_mkC.2 ⟨at_ne key.2.2, ?_, ?_, key.2.2⟩
  · rw [h2, key.1]
  · rw [h3, key.2.1]
theorem len_rest {o a b : List Ent} (hb : meB o a b = []) : (difL a (meL o a b)).length ≤ (difL o b).length := by
  have e : difL a (meL o a b) = (difL o b).filter fun x => decide (x ∈ difL a (meL o a b)) := by
    refine srt_ext (κ := Chg.k) (srt_mkC (srt_kset _) _ _) ((srt_mkC (srt_kset _) _ _).filter _) fun x => ?_
    rw [List.mem_filter, decide_eq_true_iff]
    exact ⟨fun h => ⟨rest_sub hb x h, h⟩, fun h => h.2⟩
  rw [e]
  exact List.length_filter_le _ _
theorem len_all (o a b : List Ent) : (difL o (meL o a b)).length ≤ o.length + (a.length + b.length) := by
  have e : difL o (meL o a b) = mkC (meK o a b) (at' o) (at' (meL o a b)) := by
    refine mkC_ext (srt_kset _) (srt_kset _) fun k x y => ?_
    constructor
    · rintro ⟨_, h1, h2, h3⟩
      refine ⟨?_, h1, h2, h3⟩
      exact Decidable.byContradiction fun hk => by
        obtain ⟨q1, q2, q3⟩ := meF_mem hk
        rw [at_meL, q1, q2, q3] at h3
        exact h3 rfl
    · rintro ⟨_, h1, h2, h3⟩
      exact ⟨at_ne h3, h1, h2, h3⟩
  rw [e]
  exact Nat.le_trans (List.length_filterMap_le _ _) (len_meK o a b)
end Go.Proofs.Ytlnajliobebgdaa
