/- Decimal texts as lists of bytes: plain mathematics. -/
import Derived.Test.YtoeknkakdoemfaaGreatDoorBaseD
namespace Go.Proofs.YtoeknkakdoemfaaGreatDoor
open Go

/-- the value of a list of digits, the greatest first -/
def decV (l : List Nat) : Nat := l.foldl (fun a x => 10 * a + (x - 48)) 0
theorem decV_nil : decV [] = 0 := rfl
theorem decV_snoc (l : List Nat) (x : Nat) : decV (l ++ [x]) = 10 * decV l + (x - 48) := by simp [decV]
def AllDig (l : List Nat) : Prop := ∀ x ∈ l, 48 ≤ x ∧ x ≤ 57
theorem AllDig.snoc {l : List Nat} {x : Nat} (h : AllDig (l ++ [x])) : AllDig l ∧ 48 ≤ x ∧ x ≤ 57 :=
  ⟨fun y hy => h y (by simp [hy]), h x (by simp)⟩
theorem AllDig.left {l m : List Nat} (h : AllDig (l ++ m)) : AllDig l := fun y hy => h y (by simp [hy])
theorem AllDig.right {l m : List Nat} (h : AllDig (l ++ m)) : AllDig m := fun y hy => h y (by simp [hy])
theorem AllDig.take {l : List Nat} (h : AllDig l) (k : Nat) : AllDig (l.take k) := fun y hy => h y (List.mem_of_mem_take hy)
theorem AllDig.drop {l : List Nat} (h : AllDig l) (k : Nat) : AllDig (l.drop k) := fun y hy => h y (List.mem_of_mem_drop hy)

theorem snoc_ind {α : Type} {P : List α → Prop} (h0 : P []) (h1 : ∀ l x, P l → P (l ++ [x])) : ∀ l, P l := by
  intro l
  have : ∀ m : List α, P m.reverse := by
    intro m
    induction m with
    | nil => exact h0
    | cons x m ih => rw [List.reverse_cons]; exact h1 _ _ ih
  have h := this l.reverse
  rwa [List.reverse_reverse] at h

theorem decV_append (l m : List Nat) : decV (l ++ m) = decV l * 10 ^ m.length + decV m := by
  induction m using snoc_ind with
  | h0 => simp [decV]
  | h1 m x ih =>
    rw [← List.append_assoc, decV_snoc, ih, decV_snoc, List.length_append, List.length_singleton, Nat.pow_succ]
    have e : 10 * (decV l * 10 ^ m.length) = decV l * (10 ^ m.length * 10) := by rw [Nat.mul_comm 10, Nat.mul_assoc]
    rw [Nat.mul_add, e]
    omega
theorem decV_lt (l : List Nat) (h : AllDig l) : decV l < 10 ^ l.length := by
  induction l using snoc_ind with
  | h0 => simp [decV]
  | h1 l x ih =>
    obtain ⟨h1, h2⟩ := h.snoc
    have := ih h1
    rw [decV_snoc, List.length_append, List.length_singleton, Nat.pow_succ]
    omega
theorem dec_one {d : Nat} (h : d < 10) : dec 1 d = [48 + d] := by
  show [48 + d / 1 % 10] = _
  rw [Nat.div_one, Nat.mod_eq_of_lt h]
theorem dec_succ (n v : Nat) : dec (n + 1) v = dec n (v / 10) ++ [48 + v % 10] := by
  have h := dec_split n 1 (v % 10) (v / 10) (Nat.mod_lt _ (by decide))
  rw [dec_one (Nat.mod_lt _ (by decide))] at h
  have e : v % 10 + 10 ^ 1 * (v / 10) = v := by rw [Nat.pow_one]; omega
  rwa [e] at h
theorem dec_decV (l : List Nat) (h : AllDig l) : dec l.length (decV l) = l := by
  induction l using snoc_ind with
  | h0 => rfl
  | h1 l x ih =>
    obtain ⟨h1, h2⟩ := h.snoc
    rw [List.length_append, List.length_singleton, dec_succ, decV_snoc]
    have e1 : (10 * decV l + (x - 48)) / 10 = decV l := by omega
    have e2 : 48 + (10 * decV l + (x - 48)) % 10 = x := by omega
    rw [e1, e2, ih h1]
theorem decV_dec (n v : Nat) (h : v < 10 ^ n) : decV (dec n v) = v := by
  induction n generalizing v with
  | zero => simp at h; subst h; rfl
  | succ n ih =>
    rw [dec_succ, decV_snoc, ih (v / 10) (by rw [Nat.pow_succ] at h; omega)]
    omega
theorem dec_length (n v : Nat) : (dec n v).length = n := by simp [dec]
theorem dec_digits (n v : Nat) : AllDig (dec n v) := by
  intro x hx
  unfold dec at hx
  obtain ⟨j, _, rfl⟩ := List.mem_map.1 hx
  omega
theorem dec_head (n v : Nat) (h : 10 ^ n ≤ v) (h2 : v < 10 ^ (n + 1)) : ∃ y l, dec (n + 1) v = y :: l ∧ y ≠ 48 := by
  refine ⟨48 + v / 10 ^ n % 10, (List.range n).map fun j => 48 + v / 10 ^ (n + 1 - 1 - (j + 1)) % 10, ?_, ?_⟩
  · unfold dec
    rw [List.range_succ_eq_map, List.map_cons, List.map_map]
    rfl
  · have h1 : 1 ≤ v / 10 ^ n := (Nat.le_div_iff_mul_le (Nat.pow_pos (by decide))).2 (by omega)
    have h3 : v / 10 ^ n < 10 := (Nat.div_lt_iff_lt_mul (Nat.pow_pos (by decide))).2 (by rw [Nat.pow_succ] at h2; omega)
    omega
theorem asc_zero : asc 0 = [48] := asc_small (by decide)
/-- how many digits a number has, told by its size -/
theorem asc_pow {v : Nat} (h : v ≠ 0) : ∃ n, 10 ^ n ≤ v ∧ v < 10 ^ (n + 1) ∧ asc v = dec (n + 1) v := by
  have : ∀ m v : Nat, v ≤ m → v ≠ 0 → ∃ n, 10 ^ n ≤ v ∧ v < 10 ^ (n + 1) := by
    intro m
    induction m with
    | zero => intro v h1 h2; omega
    | succ m ih =>
      intro v h1 h2
      by_cases h3 : v < 10
      · exact ⟨0, by simp; omega, by simpa using h3⟩
      · obtain ⟨n, h4, h5⟩ := ih (v / 10) (by omega) (by omega)
        refine ⟨n + 1, ?_, ?_⟩
        · rw [Nat.pow_succ]; omega
        · rw [Nat.pow_succ]; omega
  obtain ⟨n, h1, h2⟩ := this v v (Nat.le_refl _) h
  exact ⟨n, h1, h2, asc_eq h1 h2⟩
theorem asc_digits (v : Nat) : AllDig (asc v) := dec_digits _ _
theorem asc_len (v : Nat) : (asc v).length = nd v := by
  by_cases h : v = 0
  · subst h; rw [asc_zero]; rfl
  · obtain ⟨n, h1, h2, h3⟩ := asc_pow h
    rw [h3, dec_length]
    have e1 := (dig_length_le 10 (by decide) (n + 1) v).2 h2
    have e2 : ¬ (dig 10 v).length ≤ n := fun h4 => by
      have := (dig_length_le 10 (by decide) n v).1 h4
      omega
    unfold nd
    rw [if_neg h]
    omega
theorem decV_asc (v : Nat) : decV (asc v) = v := by
  by_cases h : v = 0
  · subst h; rw [asc_zero]; rfl
  · obtain ⟨n, _, h2, h3⟩ := asc_pow h
    rw [h3]; exact decV_dec _ _ h2
/-- the texts of naturals -/
def IsT (l : List Nat) : Prop := AllDig l ∧ (l = [48] ∨ ∃ y m, l = y :: m ∧ y ≠ 48)
theorem isT_asc (v : Nat) : IsT (asc v) := by
  refine ⟨asc_digits v, ?_⟩
  by_cases h : v = 0
  · subst h; exact .inl asc_zero
  · obtain ⟨n, h1, h2, h3⟩ := asc_pow h
    rw [h3]; exact .inr (dec_head n v h1 h2)
theorem decV_head {y : Nat} {m : List Nat} (h : AllDig (y :: m)) (hy : y ≠ 48) : 10 ^ m.length ≤ decV (y :: m) := by
  have e : y :: m = [y] ++ m := rfl
  rw [e, decV_append]
  have h1 := h y (by simp)
  have e2 : decV [y] = y - 48 := by simp [decV]
  rw [e2]
  have : 1 * 10 ^ m.length ≤ (y - 48) * 10 ^ m.length := Nat.mul_le_mul_right _ (by omega)
  omega
theorem asc_decV {l : List Nat} (h : IsT l) : asc (decV l) = l := by
  obtain ⟨h1, rfl | ⟨y, m, rfl, hy⟩⟩ := h
  · exact asc_zero
  · rw [asc_eq (n := m.length) (decV_head h1 hy) (decV_lt _ h1)]
    exact dec_decV _ h1
theorem isT_iff {l : List Nat} : IsT l ↔ asc (decV l) = l := ⟨asc_decV, fun h => h ▸ isT_asc _⟩
theorem asc_inj {u v : Nat} (h : asc u = asc v) : u = v := by rw [← decV_asc u, h, decV_asc]

/-- the last k limbs of a text, and what stands before them -/
theorem chunk_step {l : List Nat} {e V k : Nat} {out : List Nat} (hk : out.length = k) (h : val B9 out + B9 ^ k * decV (l.take e) = V) (he : e ≤ l.length) :
    val B9 (out ++ [decV ((l.take e).drop (e - 9))]) + B9 ^ (k + 1) * decV (l.take (e - 9)) = V := by
  have h1 : l.take e = l.take (e - 9) ++ (l.take e).drop (e - 9) := by
    have := List.take_append_drop (e - 9) (l.take e)
    rw [List.take_take, Nat.min_eq_left (by omega)] at this
    exact this.symm
  have h2 := decV_append (l.take (e - 9)) ((l.take e).drop (e - 9))
  rw [← h1, List.length_drop, List.length_take, Nat.min_eq_left he] at h2
  rw [val_snoc, hk, ← h, h2]
  rcases Nat.lt_or_ge e 9 with h9 | h9
  · have e0 : e - 9 = 0 := by omega
    rw [e0, List.take_zero, decV_nil]
    simp
  · have e9 : e - (e - 9) = 9 := by omega
    rw [e9, Nat.pow_succ, Nat.mul_add, Nat.mul_assoc, Nat.add_assoc, Nat.add_comm (B9 ^ k * decV _)]
    congr 2
    rw [Nat.mul_comm (decV _) (10 ^ 9)]
end Go.Proofs.YtoeknkakdoemfaaGreatDoor
