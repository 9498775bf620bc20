/- Lists without neighbours that are the same; what Join makes. -/
import Derived.Test.YtadmiecoahohiaaDN
namespace Go.Proofs.Ytadmiecoahohiaa
open Go Go.RowKit Go.Lib
section
variable {α : Type} [DecidableEq α]
/-- each of a run once -/
def cmpct : List α → List α
  | [] => []
  | [x] => [x]
  | x :: y :: l => if x = y then cmpct (y :: l) else x :: cmpct (y :: l)
theorem cmpct_snoc : ∀ (l : List α) (x y : α), cmpct (l ++ [x] ++ [y]) = cmpct (l ++ [x]) ++ (if x = y then [] else [y])
  | [], x, y => by
    show cmpct [x, y] = [x] ++ _
    unfold cmpct
    by_cases h : x = y
    · rw [if_pos h, if_pos h, h]; rfl
    · rw [if_neg h, if_neg h]; rfl
  | [z], x, y => by
    have := cmpct_snoc [] x y
    show cmpct (z :: x :: [y]) = cmpct (z :: x :: []) ++ _
    conv => lhs; unfold cmpct
    conv => rhs; lhs; unfold cmpct
    by_cases h : z = x
    · rw [if_pos h, if_pos h]; exact this
    · rw [if_neg h, if_neg h]
      show z :: cmpct ([] ++ [x] ++ [y]) = _
      rw [this]; rfl
  | z :: u :: l, x, y => by
    have := cmpct_snoc (u :: l) x y
    show cmpct (z :: u :: (l ++ [x] ++ [y])) = cmpct (z :: u :: (l ++ [x])) ++ _
    conv => lhs; unfold cmpct
    conv => rhs; lhs; unfold cmpct
    by_cases h : z = u
    · rw [if_pos h, if_pos h]; exact this
    · rw [if_neg h, if_neg h]
      show z :: cmpct (u :: l ++ [x] ++ [y]) = _
      rw [this]; rfl
theorem cmpct_step {zs : List α} {p : Nat} {x y : α} (hx : zs[p]? = some x) (hy : zs[p + 1]? = some y) : cmpct (zs.take (p + 2)) = cmpct (zs.take (p + 1)) ++ (if x = y then [] else [y]) := by
  have e1 : zs.take (p + 1) = zs.take p ++ [x] := by rw [List.take_add_one, hx]; rfl
  have e2 : zs.take (p + 2) = zs.take p ++ [x] ++ [y] := by rw [List.take_add_one (i := p + 1), hy, e1]; rfl
  rw [e1, e2, cmpct_snoc]
theorem cmpct_one {zs : List α} (h : 0 < zs.length) : cmpct (zs.take 1) = zs.take 1 := by
  match zs, h with
  | z :: zs, _ => rfl
theorem mem_cmpct : ∀ {l : List α} {x : α}, x ∈ cmpct l ↔ x ∈ l
  | [], _ => Iff.rfl
  | [_], _ => Iff.rfl
  | y :: z :: l, x => by
    have h := mem_cmpct (l := z :: l) (x := x)
    conv => lhs; unfold cmpct
    split
    · rename_i e
      rw [h, List.mem_cons (a := x) (b := y), List.mem_cons, e]
      constructor
      · exact .inr
      · rintro (h | h); exact .inl h; exact h
    · rw [List.mem_cons, h, List.mem_cons (b := y)]
variable {κ : α → Int}
theorem srt_cmpct : ∀ {l : List α}, l.Pairwise (fun x y => κ x ≤ κ y) → (∀ x ∈ l, ∀ y ∈ l, κ x = κ y → x = y) → Srt κ (cmpct l)
  | [], _, _ => Srt.nil
  | [_], _, _ => List.pairwise_singleton _ _
  | y :: z :: l, h, hi => by
    have h' := List.pairwise_cons.1 h
    have ih := srt_cmpct h'.2 fun a ha b hb => hi a (List.mem_cons_of_mem _ ha) b (List.mem_cons_of_mem _ hb)
    conv => arg 2; unfold cmpct
    split
    · exact ih
    · rename_i hne
      rw [srt_cons]
      refine ⟨fun a ha => ?_, ih⟩
      have ha' := mem_cmpct.1 ha
      have h1 := h'.1 a ha'
      rcases Int.lt_or_eq_of_le h1 with h2 | h2
      · exact h2
      · exfalso
        have e1 := hi y (List.mem_cons_self ..) a (List.mem_cons_of_mem _ ha') h2
        have hz := List.mem_cons_self (a := z) (l := l)
        have h3 : κ z ≤ κ a := by
          rcases List.mem_cons.1 ha' with e | e
          · rw [e]; exact Int.le_refl _
          · exact (List.pairwise_cons.1 h'.2).1 a e
        have h4 := h'.1 z hz
        exact hne (hi y (List.mem_cons_self ..) z (List.mem_cons_of_mem _ hz) (by omega))
/-- sorted and without neighbours that are the same: both together -/
theorem cmpct_uni {a b zs : List α} (ha : Srt κ a) (hb : Srt κ b) (hg : Agr κ a b) (hp : zs.Perm (a ++ b)) (hs : zs.Pairwise fun x y => κ x ≤ κ y) : cmpct zs = uni κ a b := by
  refine srt_ext (srt_cmpct hs fun x hx y hy e => ?_) (srt_uni ha hb hg) fun x => ?_
  · have hx' := List.mem_append.1 (hp.mem_iff.1 hx)
    have hy' := List.mem_append.1 (hp.mem_iff.1 hy)
    rcases hx' with hx' | hx' <;> rcases hy' with hy' | hy'
    · exact ha.inj hx' hy' e
    · exact hg x hx' y hy' e
    · exact (hg y hy' x hx' e.symm).symm
    · exact hb.inj hx' hy' e
  · rw [mem_cmpct, hp.mem_iff, mem_uni, List.mem_append]
end
theorem take_next {α : Type} {b : List α} {i : Nat} {x : α} (h : b[i]? = some x) : b.take (i + 1) = b.take i ++ [x] := by rw [List.take_add_one, h]; rfl
theorem agr_take {α : Type} {κ : α → Int} {a b : List α} {i : Nat} (h : Agr κ a b) : Agr κ a (b.take i) := fun x hx y hy e => h x hx y (List.mem_of_mem_take hy) e
theorem srt_take {α : Type} {κ : α → Int} {b : List α} (h : Srt κ b) (i : Nat) : Srt κ (b.take i) := List.Pairwise.sublist (List.take_sublist i b) h
section
variable {α : Type} [DecidableEq α] {κ : α → Int}
/-- the next one, when one with its key is there already -/
theorem uni_hit {a b : List α} {i : Nat} {x y : α} (ha : Srt κ a) (hb : Srt κ b) (hg : Agr κ a (b.take i)) (hx : b[i]? = some x) (hy : y ∈ uni κ a (b.take i)) (e : κ y = κ x) :
    (y = x → Agr κ a (b.take (i + 1)) ∧ uni κ a (b.take (i + 1)) = uni κ a (b.take i)) ∧ (y ≠ x → ¬ Agr κ a b) := by
  have hya : y ∈ a := by
    rcases mem_uni.1 hy with h | h
    · exact h
    · exfalso
      obtain ⟨j, hj⟩ := List.mem_iff_getElem?.1 h
      rw [List.getElem?_take] at hj
      split at hj
      · rename_i hji
        have h4 := List.getElem?_eq_some_iff.1 hj
        have h5 := List.getElem?_eq_some_iff.1 hx
        have h6 := List.pairwise_iff_getElem.1 hb j i h4.1 h5.1 hji
        rw [h4.2, h5.2] at h6
        omega
      · cases hj
  refine ⟨?_, fun hne h => hne (h y hya x (List.mem_of_getElem? hx) e)⟩
  rintro rfl
  rw [take_next hx]
  refine ⟨fun u hu v hv e' => ?_, ?_⟩
  · rcases List.mem_append.1 hv with hv | hv
    · exact hg u hu v hv e'
    · rw [List.mem_singleton] at hv; subst hv; exact ha.inj hu hya e'
  · rw [uni_snoc]
    unfold put
    rw [if_pos hy]
theorem uni_miss {a b : List α} {i : Nat} {x : α} (hg : Agr κ a (b.take i)) (hx : b[i]? = some x) (hn : ∀ y ∈ uni κ a (b.take i), κ y ≠ κ x) :
    Agr κ a (b.take (i + 1)) ∧ uni κ a (b.take (i + 1)) = ins κ x (uni κ a (b.take i)) := by
  rw [take_next hx]
  refine ⟨fun u hu v hv e' => ?_, ?_⟩
  · rcases List.mem_append.1 hv with hv | hv
    · exact hg u hu v hv e'
    · rw [List.mem_singleton] at hv; subst hv; exact absurd e' (hn u (mem_uni.2 (.inl hu)))
  · rw [uni_snoc]
    unfold put
    rw [if_neg fun h => hn x h rfl]
theorem agr_one {a : List Dec} {d : Dec} : Agr Dec.key a [d] ↔ ∀ y ∈ a, y.key = d.key → y = d :=
  ⟨fun h y hy e => h y hy d (List.mem_singleton.2 rfl) e, fun h y hy x hx e => by rw [List.mem_singleton] at hx; subst hx; exact h y hy e⟩
theorem uni_one (a : List α) (x : α) : uni κ a [x] = put κ a x := rfl
end
/-- Make and Withdraw in the words of the union -/
theorem mkE_uni {l : List Dec} {d : Dec} (hs : Srt Dec.key l) (hl : l.length ≤ 200) : mkE l d = if vD d = true then if Agr Dec.key l [d] then if (uni Dec.key l [d]).length ≤ 200 then 0 else 6 else 10 else 1 := by
  unfold mkE
  by_cases hv : vD d = true
  · rw [if_pos hv, if_pos hv]
    by_cases hm : d ∈ l
    · rw [if_pos hm, if_pos (agr_one.2 fun y hy e => hs.inj hy hm e), uni_one, put_in hm, if_pos hl]
    · rw [if_neg hm]
      by_cases hk : ∃ y ∈ l, y.key = d.key
      · obtain ⟨y, hy, e⟩ := hk
        rw [if_pos ⟨y, hy, e⟩, if_neg fun h => hm (by have := agr_one.1 h y hy e; rw [← this]; exact hy)]
      · rw [if_neg hk, if_pos (agr_one.2 fun y hy e => absurd ⟨y, hy, e⟩ hk), uni_one, put_out hm, len_ins]
        by_cases h2 : l.length < 200
        · rw [if_pos h2, if_pos (by omega)]
        · rw [if_neg h2, if_neg (by omega)]
  · rw [if_neg hv, if_neg hv]
theorem wdE_uni {l : List Mk} {m : Mk} (hl : l.length ≤ 200) : wdE l m = if vM m = true then if (uni Mk.key l [m]).length ≤ 200 then 0 else 6 else 1 := by
  unfold wdE
  by_cases hv : vM m = true
  · rw [if_pos hv, if_pos hv, uni_one]
    by_cases hm : m ∈ l
    · rw [if_pos hm, put_in hm, if_pos hl]
    · rw [if_neg hm, put_out hm, len_ins]
      by_cases h2 : l.length < 200
      · rw [if_pos h2, if_pos (by omega)]
      · rw [if_neg h2, if_neg (by omega)]
  · rw [if_neg hv, if_neg hv]
theorem uni_valid {l b : List Dec} (h : ∀ x ∈ l, vD x = true) (hb : ∀ x ∈ b, vD x = true) : ∀ x ∈ uni Dec.key l b, vD x = true := fun x hx => (mem_uni.1 hx).elim (h x) (hb x)
theorem uni_validM {l b : List Mk} (h : ∀ x ∈ l, vM x = true) (hb : ∀ x ∈ b, vM x = true) : ∀ x ∈ uni Mk.key l b, vM x = true := fun x hx => (mem_uni.1 hx).elim (h x) (hb x)
end Go.Proofs.Ytadmiecoahohiaa
