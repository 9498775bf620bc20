/- Reading a label's text: the mathematics. -/
import Derived.Test.YtaapcfflnklpjaaGreatDoorLEnds
import Derived.Test.YtaapcfflnklpjaaGreatDoorYB
import Derived.Lib.SlTrimSet
namespace Go.Proofs.YtaapcfflnklpjaaGreatDoor
open Go Go.RowKit Go.Lib

/-- all are digits -/
def DigL (l : List UInt8) : Prop := ∀ c ∈ l, 48 ≤ c.toNat ∧ c.toNat ≤ 57
theorem ofNat_dig {d : Nat} (h : d < 10) : (UInt8.ofNat (48 + d)).toNat = 48 + d := by
  simp [UInt8.toNat_ofNat']
  omega
theorem dec_dig : ∀ (f u : Nat), u < f → DigL (Lib.decDigits u) ∧ Lib.decDigits u ≠ []
  | 0, u, h => by omega
  | f + 1, u, h => by
    rw [Lib.decDigits]
    split
    · rename_i h10
      refine ⟨fun c hc => ?_, by simp⟩
      rw [List.mem_singleton] at hc
      subst hc
      rw [ofNat_dig h10]
      omega
    · rename_i h10
      refine ⟨fun c hc => ?_, by simp⟩
      rcases List.mem_append.1 hc with hc | hc
      · exact (dec_dig f (u / 10) (by omega)).1 c hc
      · rw [List.mem_singleton] at hc
        subst hc
        rw [ofNat_dig (by omega)]
        omega
theorem dec_digs (u : Nat) : DigL (Lib.decDigits u) := (dec_dig _ u (Nat.lt_succ_self _)).1
theorem dec_ne (u : Nat) : Lib.decDigits u ≠ [] := (dec_dig _ u (Nat.lt_succ_self _)).2
theorem parse_app : ∀ (l : List UInt8) (acc u : Nat) (c : UInt8) (d : Nat), parseUint10 acc l = .ok u → d < 10 → c.toNat = 48 + d → u < 1000000 → parseUint10 acc (l ++ [c]) = .ok (u * 10 + d)
  | [], acc, u, c, d, h, hd, hc, hu => by
    simp only [parseUint10] at h
    injection h with h
    subst h
    simp only [List.nil_append, parseUint10]
    rw [if_pos (by omega), if_neg (by omega), if_neg (by omega)]
    congr 1
    omega
  | x :: r, acc, u, c, d, h, hd, hc, hu => by
    simp only [List.cons_append, parseUint10] at h ⊢
    split at h
    · rename_i h1
      rw [if_pos h1]
      split at h
      · cases h
      · rename_i h2
        rw [if_neg h2]
        split at h
        · cases h
        · rename_i h3
          rw [if_neg h3]
          exact parse_app r _ u c d h hd hc hu
    · cases h
theorem parse_dec : ∀ (f u : Nat), u < f → u < 1000000 → parseUint10 0 (Lib.decDigits u) = .ok u
  | 0, u, h, _ => by omega
  | f + 1, u, h, hu => by
    rw [Lib.decDigits]
    split
    · rename_i h10
      have := parse_app [] 0 0 (UInt8.ofNat (48 + u)) u rfl h10 (ofNat_dig h10) (by omega)
      simpa using this
    · rename_i h10
      have h1 := parse_dec f (u / 10) (by omega) (by omega)
      have := parse_app _ 0 (u / 10) (UInt8.ofNat (48 + u % 10)) (u % 10) h1 (by omega) (ofNat_dig (by omega)) (by omega)
      rw [this]
      congr 1
      omega
theorem end_dec (u : Nat) (hu : u < 1000000) : endL (Lib.decDigits u) = some (u : Int) := by
  rw [endL_some]
  obtain ⟨hd, hne⟩ := dec_dig (u + 1) u (by omega)
  have hp := parse_dec (u + 1) u (by omega) hu
  rcases hl : Lib.decDigits u with _ | ⟨c, r⟩
  · exact absurd hl hne
  · rw [hl] at hd hp
    have hc := hd c List.mem_cons_self
    unfold Lib.atoiAll
    have h43 : ¬(c.toNat = 43 ∨ c.toNat = 45) := by omega
    have h45 : ¬(c.toNat = 45) := by omega
    simp only [if_neg h43, if_neg h45, Lib.parseMag]
    rw [if_neg (by simp), hp]
    simp only []
    rw [if_neg (by omega), if_neg (by omega)]
/-- the letters of the states -/
def stL : List UInt8 := [97, 98, 99, 100, 101, 102, 103, 104, 105]
theorem ib_no : ∀ (l : List UInt8) (c : UInt8), (∀ x ∈ l, x ≠ c) → Lib.indexByte l c = -1
  | [], _, _ => rfl
  | b :: l, c, h => by
    unfold Lib.indexByte
    rw [beq_eq_false_iff_ne.2 (h b List.mem_cons_self), ib_no l c fun x hx => h x (List.mem_cons_of_mem _ hx)]
    rfl
theorem st_dig {c : UInt8} (h : c.toNat ≤ 57) : c ∉ stL := by
  intro hc
  have : ∀ x ∈ stL, 97 ≤ x.toNat := by decide
  have := this c hc
  omega
theorem ib_dig {c : UInt8} (h : c.toNat ≤ 57) : Lib.indexByte stL c = -1 := ib_no _ _ fun x hx e => by subst e; exact st_dig h hx
theorem st_at (k : Nat) (hk : k ≤ 8) : UInt8.ofNat (97 + k) ∈ stL ∧ Lib.indexByte stL (UInt8.ofNat (97 + k)) = (k : Int) := by
  match k, hk with
  | 0, _ => decide
  | 1, _ => decide
  | 2, _ => decide
  | 3, _ => decide
  | 4, _ => decide
  | 5, _ => decide
  | 6, _ => decide
  | 7, _ => decide
  | 8, _ => decide
theorem trim_dec {d e : List UInt8} (hd : DigL d) (he : ∀ c ∈ e, c ∈ stL) : Lib.trimRightS (d ++ e) stL = d := by
  rw [Lib.trimRightS_take (d ++ e) stL d.length (by simp) (fun j b hj hb => ?_) (fun b h0 hb => ?_)]
  · simp
  · rw [List.getElem?_append_right hj] at hb
    exact List.contains_iff_mem.2 (he b (List.mem_of_getElem? hb))
  · rw [List.getElem?_append_left (by omega)] at hb
    rw [← Bool.not_eq_true, List.contains_iff_mem]
    exact st_dig (hd b (List.mem_of_getElem? hb)).2
theorem stateL_in {t : Int} (h0 : 0 ≤ t) (h9 : t ≤ 9) : ∀ c ∈ stateL t, c ∈ stL := by
  intro c hc
  unfold stateL at hc
  split at hc
  · cases hc
  · rename_i hne
    simp only [List.mem_singleton] at hc
    subst hc
    rw [show 96 + t.toNat = 97 + (t.toNat - 1) by omega]
    exact (st_at _ (by omega)).1
/-- what a label's text is made of -/
theorem par_parts {s n t : Int} (h : lB s n t = true) {b : UInt8} {r : List UInt8} (hl : labL s n t = b :: r) {c : UInt8} (hc : (b :: r)[r.length]? = some c) :
    Lib.indexByte [79, 82] b = s ∧ endL (Lib.trimRightS r stL) = some n ∧ Lib.indexByte stL c + 1 = t := by
  obtain ⟨hs, ⟨hn1, hn2⟩, h0, h9⟩ := lB_true.1 h
  have hsl : ∃ x, sideL s = [x] ∧ Lib.indexByte [79, 82] x = s := by
    unfold sideL
    rcases hs with rfl | rfl
    · exact ⟨79, rfl, rfl⟩
    · exact ⟨82, rfl, rfl⟩
  obtain ⟨x, hx1, hx2⟩ := hsl
  unfold labL at hl
  rw [hx1, List.append_assoc] at hl
  injection hl with e1 e2
  replace e2 : Lib.decDigits n.toNat ++ stateL t = r := e2
  subst e1
  have hd := dec_digs n.toNat
  have hst := stateL_in h0 h9
  refine ⟨hx2, ?_, ?_⟩
  · rw [← e2, trim_dec hd hst, end_dec _ (by omega)]
    congr 1; omega
  · subst e2
    by_cases ht : t = 0
    · subst ht
      have e : stateL 0 = [] := rfl
      rw [e, List.append_nil] at hc
      have hne := dec_ne n.toNat
      have hmem : c ∈ Lib.decDigits n.toNat := by
        rcases hq : Lib.decDigits n.toNat with _ | ⟨y, q⟩
        · exact absurd hq hne
        · rw [hq] at hc
          rw [List.length_cons, List.getElem?_cons_succ] at hc
          exact List.mem_of_getElem? hc
      rw [ib_dig (hd c hmem).2]; rfl
    · have e : stateL t = [UInt8.ofNat (96 + t.toNat)] := by unfold stateL; rw [if_neg ht]
      rw [e, List.length_append, List.length_singleton, List.getElem?_cons_succ, List.getElem?_append_right (Nat.le_refl _), Nat.sub_self] at hc
      simp only [List.getElem?_cons_zero] at hc
      injection hc with hc
      rw [← hc, show 96 + t.toNat = 97 + (t.toNat - 1) by omega, (st_at _ (by omega)).2]
      omega
/-- different labels have different texts -/
theorem labL_inj {s n t s' n' t' : Int} (h : lB s n t = true) (h' : lB s' n' t' = true) (e : labL s n t = labL s' n' t') : s = s' ∧ n = n' ∧ t = t' := by
  have hne : labL s n t ≠ [] := by unfold labL sideL; split <;> simp
  rcases hl : labL s n t with _ | ⟨b, r⟩
  · exact absurd hl hne
  · obtain ⟨c, hc⟩ : ∃ c, (b :: r)[r.length]? = some c := ⟨_, List.getElem?_eq_getElem (by simp)⟩
    obtain ⟨a1, a2, a3⟩ := par_parts h hl hc
    obtain ⟨b1, b2, b3⟩ := par_parts h' (e.symm.trans hl) hc
    rw [a2] at b2
    injection b2 with b2
    exact ⟨a1.symm.trans b1, b2, a3.symm.trans b3⟩
theorem labL_ne (s n t : Int) : labL s n t ≠ [] := by unfold labL sideL; split <;> simp
/-- the label whose text this is -/
def IsLab (l : List UInt8) (s n t : Int) : Prop := lB s n t = true ∧ labL s n t = l
/-- the three numbers that stand in a text, if any -/
def guess (l : List UInt8) : Option (Int × Int × Int) := match l with
  | [] => none
  | b :: r => match endL (Lib.trimRightS r stL) with
    | none => none
    | some n => some (Lib.indexByte [79, 82] b, n, Lib.indexByte stL ((b :: r).getLastD 0) + 1)
/-- what Parse reads -/
def parL (l : List UInt8) : Option (Int × Int × Int) := match guess l with
  | none => none
  | some (s, n, t) => if lB s n t = true ∧ labL s n t = l then some (s, n, t) else none
theorem last_at (b : UInt8) (r : List UInt8) : (b :: r)[r.length]? = some ((b :: r).getLastD 0) := by
  rw [List.getLastD_eq_getLast?, List.getLast?_eq_getElem?, List.length_cons, Nat.add_sub_cancel]
  have : r.length < (b :: r).length := by simp
  rw [List.getElem?_eq_getElem this]; rfl
theorem parL_some {l : List UInt8} {s n t : Int} : parL l = some (s, n, t) ↔ IsLab l s n t := by
  constructor
  · intro h
    unfold parL at h
    split at h
    · cases h
    · split at h
      · rename_i hc
        injection h with h
        injection h with h1 h2
        injection h2 with h2 h3
        subst h1; subst h2; subst h3
        exact hc
      · cases h
  · intro ⟨h1, h2⟩
    rcases l with _ | ⟨b, r⟩
    · exact absurd h2 (labL_ne _ _ _)
    · obtain ⟨a1, a2, a3⟩ := par_parts h1 h2 (last_at b r)
      have hg : guess (b :: r) = some (s, n, t) := by
        show (match endL (Lib.trimRightS r stL) with | none => none | some n => some (Lib.indexByte [79, 82] b, n, Lib.indexByte stL ((b :: r).getLastD 0) + 1)) = _
        rw [a2]; simp only []; rw [a1, a3]
      unfold parL
      rw [hg]
      simp only []
      rw [if_pos ⟨h1, h2⟩]
theorem parL_none {l : List UInt8} : parL l = none ↔ ∀ s n t, ¬IsLab l s n t := by
  constructor
  · intro h s n t hl
    rw [parL_some.2 hl] at h; cases h
  · intro h
    rcases e : parL l with _ | ⟨s, n, t⟩
    · rfl
    · exact (h s n t (parL_some.1 e)).elim
end Go.Proofs.YtaapcfflnklpjaaGreatDoor
