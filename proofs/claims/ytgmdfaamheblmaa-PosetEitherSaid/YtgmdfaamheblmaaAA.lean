import Derived.WalkKit
import Derived.Below
import Derived.Laws.OwnMore
import Derived.Deep.Draws
import Derived.Laws.Rows
import Derived.Maps.AppendAt
import Derived.OwnWalk
/- Plain lemmas on numbers as lists of digits in a base b (the limbs of a natural: b = 10^9; its decimal digits: b = 10), the least digit first. -/
namespace Go.Proofs.Ytgmdfaamheblmaa

/-- 10^9 -/
abbrev B9 : Nat := 1000000000
/-- the value of digits -/
def val (b : Nat) : List Nat → Nat
  | [] => 0
  | x :: xs => x + b * val b xs
/-- leaves out the leading zeros (which stand at the end) -/
def trimL : List Nat → List Nat
  | [] => []
  | x :: xs => match trimL xs with
    | [] => if x = 0 then [] else [x]
    | y :: ys => x :: y :: ys
def digF (b : Nat) : Nat → Nat → List Nat
  | 0, _ => []
  | f + 1, v => if v = 0 then [] else v % b :: digF b f (v / b)
/-- the digits of a value, without leading zeros -/
def dig (b v : Nat) : List Nat := digF b v v

theorem digF_enough (b : Nat) (hb : 2 ≤ b) : ∀ f g v : Nat, v ≤ f → v ≤ g → digF b f v = digF b g v := by
  intro f
  induction f with
  | zero =>
    intro g v h1 _
    obtain rfl : v = 0 := by omega
    cases g <;> simp [digF]
  | succ f ih =>
    intro g v h1 h2
    cases g with
    | zero =>
      obtain rfl : v = 0 := by omega
      simp [digF]
    | succ g =>
      by_cases h0 : v = 0
      · simp [digF, h0]
      · have hlt : v / b < v := Nat.div_lt_self (by omega) hb
        simp only [digF, if_neg h0]
        rw [ih g (v / b) (by omega) (by omega)]
theorem dig_zero (b : Nat) : dig b 0 = [] := rfl
theorem dig_pos (b : Nat) (hb : 2 ≤ b) (v : Nat) (h : v ≠ 0) : dig b v = v % b :: dig b (v / b) := by
  obtain ⟨n, rfl⟩ : ∃ n, v = n + 1 := ⟨v - 1, by omega⟩
  have hlt : (n + 1) / b < n + 1 := Nat.div_lt_self (by omega) hb
  show digF b (n + 1) (n + 1) = _
  simp only [digF, if_neg h]
  rw [digF_enough b hb n ((n + 1) / b) _ (by omega) (Nat.le_refl _)]
  rfl
theorem dig_cons (b : Nat) (hb : 2 ≤ b) (x v : Nat) (hx : x < b) (h : ¬(x = 0 ∧ v = 0)) : dig b (x + b * v) = x :: dig b v := by
  have hne : x + b * v ≠ 0 := by
    intro e
    have h1 : x = 0 := by omega
    have h2 : b * v = 0 := by omega
    rcases Nat.mul_eq_zero.1 h2 with h3 | h3
    · omega
    · exact h ⟨h1, h3⟩
  rw [dig_pos b hb _ hne, Nat.add_mul_mod_self_left, Nat.mod_eq_of_lt hx, Nat.add_mul_div_left _ _ (by omega), Nat.div_eq_of_lt hx, Nat.zero_add]
theorem dig_small (b : Nat) (hb : 2 ≤ b) (x : Nat) (hx : x < b) (h : x ≠ 0) : dig b x = [x] := by
  have := dig_cons b hb x 0 hx (by omega)
  simpa [dig_zero] using this
theorem val_dig (b : Nat) (hb : 2 ≤ b) (v : Nat) : val b (dig b v) = v := by
  induction v using Nat.strongRecOn with
  | _ v ih =>
    by_cases h : v = 0
    · subst h; rfl
    · rw [dig_pos b hb v h]
      simp only [val]
      rw [ih _ (Nat.div_lt_self (by omega) hb)]
      exact Nat.mod_add_div v b
theorem dig_inj (b : Nat) (hb : 2 ≤ b) {u v : Nat} (h : dig b u = dig b v) : u = v := by rw [← val_dig b hb u, h, val_dig b hb v]
theorem dig_lt (b : Nat) (hb : 2 ≤ b) (v : Nat) : ∀ x ∈ dig b v, x < b := by
  induction v using Nat.strongRecOn with
  | _ v ih =>
    by_cases h : v = 0
    · subst h; intro x hx; cases hx
    · rw [dig_pos b hb v h]
      intro x hx
      rcases List.mem_cons.1 hx with rfl | hx
      · exact Nat.mod_lt _ (by omega)
      · exact ih _ (Nat.div_lt_self (by omega) hb) x hx
theorem dig_eq_nil (b : Nat) (hb : 2 ≤ b) {v : Nat} : dig b v = [] ↔ v = 0 := by
  constructor
  · intro h
    by_cases h0 : v = 0
    · exact h0
    · rw [dig_pos b hb v h0] at h; cases h
  · rintro rfl; rfl
theorem trimL_dig (b : Nat) (hb : 2 ≤ b) (xs : List Nat) (h : ∀ x ∈ xs, x < b) : trimL xs = dig b (val b xs) := by
  induction xs with
  | nil => rfl
  | cons x xs ih =>
    have ih' := ih (fun y hy => h y (List.mem_cons_of_mem _ hy))
    have hx := h x List.mem_cons_self
    simp only [trimL, val]
    by_cases h0 : val b xs = 0
    · rw [h0, dig_zero] at ih'
      rw [ih', h0, Nat.mul_zero, Nat.add_zero]
      by_cases hx0 : x = 0
      · subst hx0; rfl
      · rw [if_neg hx0, dig_small b hb x hx hx0]
    · rw [dig_cons b hb x _ hx (by omega), ih']
      rw [dig_pos b hb _ h0]
theorem val_lt (b : Nat) (_hb : 2 ≤ b) (xs : List Nat) (h : ∀ x ∈ xs, x < b) : val b xs < b ^ xs.length := by
  induction xs with
  | nil => simp [val]
  | cons x xs ih =>
    have ih' := ih (fun y hy => h y (List.mem_cons_of_mem _ hy))
    have hx := h x List.mem_cons_self
    simp only [val, List.length_cons, Nat.pow_succ]
    have h1 : b * (val b xs + 1) ≤ b * b ^ xs.length := Nat.mul_le_mul_left b ih'
    rw [Nat.mul_add, Nat.mul_one, Nat.mul_comm b (b ^ xs.length)] at h1
    omega
theorem dig_length_le (b : Nat) (hb : 2 ≤ b) (n : Nat) : ∀ v : Nat, (dig b v).length ≤ n ↔ v < b ^ n := by
  induction n with
  | zero =>
    intro v
    rw [Nat.pow_zero]
    constructor
    · intro h
      have := (dig_eq_nil b hb).1 (List.eq_nil_of_length_eq_zero (by omega) : dig b v = [])
      omega
    · intro h
      obtain rfl : v = 0 := by omega
      rw [dig_zero]; simp
  | succ n ih =>
    intro v
    by_cases h0 : v = 0
    · subst h0
      rw [dig_zero]
      have : 0 < b ^ (n + 1) := Nat.pow_pos (by omega)
      simp; exact this
    · rw [dig_pos b hb v h0, List.length_cons, Nat.add_le_add_iff_right, ih, Nat.pow_succ, Nat.div_lt_iff_lt_mul (by omega)]
theorem val_append (b : Nat) (xs ys : List Nat) : val b (xs ++ ys) = val b xs + b ^ xs.length * val b ys := by
  induction xs with
  | nil => simp [val]
  | cons x xs ih =>
    simp only [List.cons_append, val, ih, List.length_cons, Nat.pow_succ]
    rw [Nat.mul_add, Nat.mul_comm (b ^ xs.length) b, Nat.mul_assoc, Nat.add_assoc]
theorem val_snoc (b : Nat) (xs : List Nat) (x : Nat) : val b (xs ++ [x]) = val b xs + b ^ xs.length * x := by
  rw [val_append]; simp [val]
theorem dig_mono (b : Nat) (hb : 2 ≤ b) {u v : Nat} (h : u ≤ v) : (dig b u).length ≤ (dig b v).length :=
  (dig_length_le b hb _ u).2 (Nat.lt_of_le_of_lt h ((dig_length_le b hb _ v).1 (Nat.le_refl _)))
theorem lt_of_dig_length (b : Nat) (hb : 2 ≤ b) {u v : Nat} (h : (dig b u).length < (dig b v).length) : u < v := by
  rcases Nat.lt_or_ge u v with h1 | h1
  · exact h1
  · have := dig_mono b hb h1
    omega

theorem take_snoc {α : Type} (xs : List α) (j : Nat) (x : α) (h : xs[j]? = some x) : xs.take (j + 1) = xs.take j ++ [x] := by
  rw [List.take_add_one, h]; rfl
theorem lt_of_getElem? {α : Type} {xs : List α} {j : Nat} {x : α} (h : xs[j]? = some x) : j < xs.length := by
  rcases Nat.lt_or_ge j xs.length with hlt | hge
  · exact hlt
  · rw [List.getElem?_eq_none hge] at h; cases h
theorem split_at {α : Type} {xs : List α} {j : Nat} {x : α} (h : xs[j]? = some x) : xs = xs.take j ++ x :: xs.drop (j + 1) := by
  have hl := lt_of_getElem? h
  have e : xs[j] = x := by rw [List.getElem?_eq_getElem hl] at h; exact Option.some.inj h
  rw [← e, ← List.drop_eq_getElem_cons hl, List.take_append_drop]
theorem val_split (b : Nat) {xs : List Nat} {j x : Nat} (h : xs[j]? = some x) : val b xs = val b (xs.take j) + b ^ j * (x + b * val b (xs.drop (j + 1))) := by
  have hl := lt_of_getElem? h
  have e := split_at h
  have hv := congrArg (val b) e
  rw [val_append, List.length_take, Nat.min_eq_left (by omega)] at hv
  exact hv
theorem val_take_lt (b : Nat) (hb : 2 ≤ b) {xs : List Nat} (h : ∀ x ∈ xs, x < b) (j : Nat) : val b (xs.take j) < b ^ j := by
  have h1 := val_lt b hb (xs.take j) (fun x hx => h x (List.mem_of_mem_take hx))
  have h2 : b ^ (xs.take j).length ≤ b ^ j := Nat.pow_le_pow_right (by omega) (List.length_take_le _ _)
  omega
/-- two lists that are the same above place j are ordered as their digits at place j -/
theorem val_lt_of_digit (b : Nat) (hb : 2 ≤ b) {xs ys : List Nat} (hx : ∀ x ∈ xs, x < b) {j x y : Nat} (h1 : xs[j]? = some x) (h2 : ys[j]? = some y)
    (h : xs.drop (j + 1) = ys.drop (j + 1)) (hlt : x < y) : val b xs < val b ys := by
  rw [val_split b h1, val_split b h2, h]
  have h3 := val_take_lt b hb hx j
  have h4 : b ^ j * (x + b * val b (ys.drop (j + 1)) + 1) ≤ b ^ j * (y + b * val b (ys.drop (j + 1))) := Nat.mul_le_mul_left _ (by omega)
  rw [Nat.mul_add, Nat.mul_one] at h4
  omega

theorem trimL_append_zero (xs : List Nat) : trimL (xs ++ [0]) = trimL xs := by
  induction xs with
  | nil => rfl
  | cons x xs ih => simp only [List.cons_append, trimL, ih]
theorem trimL_append_pos (xs : List Nat) (x : Nat) (h : x ≠ 0) : trimL (xs ++ [x]) = xs ++ [x] := by
  induction xs with
  | nil => simp [trimL, h]
  | cons y ys ih =>
    simp only [List.cons_append, trimL, ih]
    cases ys <;> simp
theorem trimL_take (xs : List Nat) : ∃ m, m ≤ xs.length ∧ trimL xs = xs.take m := by
  induction xs with
  | nil => exact ⟨0, by simp, rfl⟩
  | cons x xs ih =>
    obtain ⟨m, hm, e⟩ := ih
    simp only [trimL]
    cases h : trimL xs with
    | nil =>
      by_cases hx : x = 0
      · exact ⟨0, by simp, by simp [hx]⟩
      · exact ⟨1, by simp, by simp [hx]⟩
    | cons y ys =>
      refine ⟨m + 1, by simp; omega, ?_⟩
      simp only [List.take_succ_cons]
      rw [← e, h]
theorem trimL_length_le (xs : List Nat) : (trimL xs).length ≤ xs.length := by
  obtain ⟨m, hm, e⟩ := trimL_take xs
  rw [e, List.length_take]; omega
theorem trimL_eq_take (xs : List Nat) : trimL xs = xs.take (trimL xs).length := by
  obtain ⟨m, hm, e⟩ := trimL_take xs
  have : (trimL xs).length = m := by rw [e, List.length_take]; omega
  rw [this]; exact e
theorem val_trimL (b : Nat) (xs : List Nat) : val b (trimL xs) = val b xs := by
  induction xs with
  | nil => rfl
  | cons x xs ih =>
    simp only [trimL]
    cases h : trimL xs with
    | nil =>
      rw [h] at ih
      simp only [val] at ih ⊢
      rw [← ih]
      by_cases hx : x = 0
      · subst hx; rfl
      · simp [hx, val]
    | cons y ys =>
      rw [h] at ih
      simp only [val] at ih ⊢
      rw [ih]
theorem trim_zero {xs : List Nat} {k : Nat} (hk : ¬k = 0) (h : trimL (xs.take k) = trimL xs) (hx : xs[k - 1]? = some 0) : trimL (xs.take (k - 1)) = trimL xs := by
  have e := take_snoc xs (k - 1) 0 hx
  rw [show k - 1 + 1 = k from by omega] at e
  rw [e, trimL_append_zero] at h
  exact h
theorem trim_pos {xs : List Nat} {k x : Nat} (hk : ¬k = 0) (h : trimL (xs.take k) = trimL xs) (hx : xs[k - 1]? = some x) (h0 : x ≠ 0) : (trimL xs).length = k := by
  have e := take_snoc xs (k - 1) x hx
  have hl := lt_of_getElem? hx
  rw [show k - 1 + 1 = k from by omega] at e
  rw [e, trimL_append_pos _ _ h0, ← e] at h
  rw [← h, List.length_take]; omega
/-- the result of a comparison -/
def cmpI (u v : Nat) : Int := if u < v then -1 else if u = v then 0 else 1
theorem cmpI_lt {u v : Nat} (h : u < v) : cmpI u v = -1 := by simp [cmpI, h]
theorem cmpI_gt {u v : Nat} (h : v < u) : cmpI u v = 1 := by
  rw [cmpI, if_neg (by omega), if_neg (by omega)]
theorem cmpI_eq {u v : Nat} (h : u = v) : cmpI u v = 0 := by simp [cmpI, h]
theorem cmp_short {b u v : Nat} (hb : 2 ≤ b) (h : (dig b u).length < (dig b v).length) : cmpI u v = -1 := cmpI_lt (lt_of_dig_length b hb h)
theorem cmp_long {b u v : Nat} (hb : 2 ≤ b) (h : (dig b v).length < (dig b u).length) : cmpI u v = 1 := cmpI_gt (lt_of_dig_length b hb h)
theorem cmp_digit_lt {b u v k x y : Nat} (hb : 2 ≤ b) (h1 : (dig b u)[k]? = some x) (h2 : (dig b v)[k]? = some y) (h : (dig b u).drop (k + 1) = (dig b v).drop (k + 1)) (hlt : x < y) : cmpI u v = -1 := by
  apply cmpI_lt
  have := val_lt_of_digit b hb (dig_lt b hb u) h1 h2 h hlt
  rwa [val_dig b hb, val_dig b hb] at this
theorem cmp_digit_gt {b u v k x y : Nat} (hb : 2 ≤ b) (h1 : (dig b u)[k]? = some x) (h2 : (dig b v)[k]? = some y) (h : (dig b u).drop (k + 1) = (dig b v).drop (k + 1)) (hlt : y < x) : cmpI u v = 1 := by
  apply cmpI_gt
  have := val_lt_of_digit b hb (dig_lt b hb v) h2 h1 h.symm hlt
  rwa [val_dig b hb, val_dig b hb] at this
theorem cmp_same {b u v : Nat} (hb : 2 ≤ b) (h : (dig b u).drop 0 = (dig b v).drop 0) : cmpI u v = 0 := cmpI_eq (dig_inj b hb h)
theorem drop_step {xs ys : List Nat} {k x : Nat} (h1 : xs[k]? = some x) (h2 : ys[k]? = some x) (h : xs.drop (k + 1) = ys.drop (k + 1)) : xs.drop k = ys.drop k := by
  have l1 := lt_of_getElem? h1
  have l2 := lt_of_getElem? h2
  rw [List.drop_eq_getElem_cons l1, List.drop_eq_getElem_cons l2, h]
  rw [List.getElem?_eq_getElem l1] at h1
  rw [List.getElem?_eq_getElem l2] at h2
  rw [Option.some.inj h1, Option.some.inj h2]
theorem take_set {α : Type} (zs : List α) (k : Nat) (v : α) (hk : k < zs.length) : (zs.set k v).take (k + 1) = zs.take k ++ [v] := by
  rw [take_snoc _ k v (by rw [List.getElem?_set_self hk])]
  rw [List.take_set_of_le (Nat.le_refl k)]
theorem put_step (b : Nat) (zs : List Nat) (k S : Nat) (hk : k < zs.length) : val b ((zs.set k (S % b)).take (k + 1)) + b ^ (k + 1) * (S / b) = val b (zs.take k) + b ^ k * S := by
  rw [take_set zs k _ hk, val_snoc, List.length_take, Nat.min_eq_left (by omega), Nat.pow_succ, Nat.mul_assoc, Nat.add_assoc, ← Nat.mul_add, Nat.mod_add_div]
theorem val_take_succ (b : Nat) {xs : List Nat} {k x : Nat} (h : xs[k]? = some x) : val b (xs.take (k + 1)) = val b (xs.take k) + b ^ k * x := by
  have hl := lt_of_getElem? h
  rw [take_snoc xs k x h, val_snoc, List.length_take, Nat.min_eq_left (by omega)]
/-- one round of a loop that carries -/
theorem carry_step {b : Nat} {zs ys : List Nat} {k C x : Nat} (hk : k < zs.length) (hx : ys[k]? = some x) (h : val b (zs.take k) + b ^ k * C = val b (ys.take k)) :
    val b ((zs.set k ((C + x) % b)).take (k + 1)) + b ^ (k + 1) * ((C + x) / b) = val b (ys.take (k + 1)) := by
  rw [put_step b zs k (C + x) hk, val_take_succ b hx, Nat.mul_add, ← Nat.add_assoc, h]
theorem all_take_set {b : Nat} {zs : List Nat} {k v : Nat} (hk : k < zs.length) (h : ∀ x ∈ zs.take k, x < b) (hv : v < b) : ∀ x ∈ (zs.set k v).take (k + 1), x < b := by
  rw [take_set zs k v hk]
  intro x hx
  rcases List.mem_append.1 hx with h1 | h1
  · exact h x h1
  · simp at h1; subst h1; exact hv
theorem mem_trimL {xs : List Nat} {x : Nat} (h : x ∈ trimL xs) : x ∈ xs := by
  rw [trimL_eq_take] at h
  exact List.mem_of_mem_take h
theorem trimL_idem (xs : List Nat) : trimL (trimL xs) = trimL xs := by
  induction xs with
  | nil => rfl
  | cons x xs ih =>
    simp only [trimL]
    cases h : trimL xs with
    | nil =>
      by_cases hx : x = 0
      · simp [hx, trimL]
      · simp [hx, trimL]
    | cons y ys =>
      rw [h] at ih
      show (match trimL (y :: ys) with | [] => if x = 0 then [] else [x] | y :: ys => x :: y :: ys) = _
      rw [ih]
theorem val_le_of_all (b M : Nat) (xs : List Nat) (h : ∀ x ∈ xs, x ≤ M) (hb : 1 ≤ b) : (b - 1) * val b xs ≤ M * (b ^ xs.length - 1) := by
  induction xs with
  | nil => simp [val]
  | cons x xs ih =>
    have ih' := ih (fun y hy => h y (List.mem_cons_of_mem _ hy))
    have hx := h x List.mem_cons_self
    simp only [val, List.length_cons, Nat.pow_succ]
    have hp : 1 ≤ b ^ xs.length := Nat.pow_pos (by omega)
    generalize hq : b ^ xs.length = q at *
    have e1 : (b - 1) * (x + b * val b xs) = (b - 1) * x + b * ((b - 1) * val b xs) := by
      rw [Nat.mul_add, ← Nat.mul_assoc, ← Nat.mul_assoc, Nat.mul_comm b (b - 1)]
    have e2 : M * (q * b - 1) = (b - 1) * M + b * (M * (q - 1)) := by
      obtain ⟨q, rfl⟩ : ∃ r, q = r + 1 := ⟨q - 1, by omega⟩
      obtain ⟨b, rfl⟩ : ∃ r, b = r + 1 := ⟨b - 1, by omega⟩
      have : (q + 1) * (b + 1) - 1 = b + (b + 1) * q := by rw [Nat.mul_comm, Nat.mul_add]; omega
      rw [this, Nat.mul_add, Nat.add_sub_cancel, Nat.add_sub_cancel, Nat.mul_comm M b, Nat.mul_left_comm]
    rw [e1, e2]
    exact Nat.add_le_add (Nat.mul_le_mul_left _ hx) (Nat.mul_le_mul_left _ ih')
theorem val_lt_u32 (xs : List Nat) (h : ∀ x ∈ xs, x < 4294967296) : val B9 xs < B9 ^ (xs.length + 1) := by
  have h1 := val_le_of_all B9 4294967295 xs (fun x hx => by have := h x hx; omega) (by decide)
  have hp : 1 ≤ B9 ^ xs.length := Nat.pow_pos (by decide)
  rw [Nat.pow_succ]
  generalize B9 ^ xs.length = q at *
  show val B9 xs < q * 1000000000
  have h2 : 999999999 * val B9 xs ≤ 4294967295 * (q - 1) := h1
  omega
theorem val_take_all (b : Nat) {xs : List Nat} {k j : Nat} (h : xs.length ≤ k) (h2 : xs.length ≤ j) : val b (xs.take j) = val b (xs.take k) := by
  rw [List.take_of_length_le h, List.take_of_length_le h2]
theorem add_step {b : Nat} {zs xs ys : List Nat} {k C x y : Nat} (hk : k < zs.length) (hx : xs[k]? = some x) (hy : ys[k]? = some y) (h : val b (zs.take k) + b ^ k * C = val b (xs.take k) + val b (ys.take k)) :
    val b ((zs.set k ((C + x + y) % b)).take (k + 1)) + b ^ (k + 1) * ((C + x + y) / b) = val b (xs.take (k + 1)) + val b (ys.take (k + 1)) := by
  rw [put_step b zs k (C + x + y) hk, val_take_succ b hx, val_take_succ b hy, Nat.mul_add, Nat.mul_add]
  omega
theorem add_step_none {b : Nat} {zs xs ys : List Nat} {k C x : Nat} (hk : k < zs.length) (hx : xs[k]? = some x) (hy : ys.length ≤ k) (h : val b (zs.take k) + b ^ k * C = val b (xs.take k) + val b (ys.take k)) :
    val b ((zs.set k ((C + x) % b)).take (k + 1)) + b ^ (k + 1) * ((C + x) / b) = val b (xs.take (k + 1)) + val b (ys.take (k + 1)) := by
  rw [put_step b zs k (C + x) hk, val_take_succ b hx, val_take_all b hy (by omega : ys.length ≤ k + 1), Nat.mul_add]
  omega
/-- the last limb, and the leading zeros left out -/
theorem last_limb {b : Nat} (hb : 2 ≤ b) {zs : List Nat} {k C V : Nat} (hk : zs.length = k + 1) (h : val b (zs.take k) + b ^ k * C = V) (hz : ∀ x ∈ zs.take k, x < b) (hC : C < b) :
    trimL (zs.set k C) = dig b V := by
  have e1 := put_step b zs k C (by omega)
  rw [Nat.mod_eq_of_lt hC, Nat.div_eq_of_lt hC, Nat.mul_zero, Nat.add_zero, h, List.take_of_length_le (by rw [List.length_set]; omega)] at e1
  rw [← e1]
  apply trimL_dig b hb
  have e2 := all_take_set (by omega : k < zs.length) hz hC
  rwa [List.take_of_length_le (by rw [List.length_set]; omega)] at e2
theorem val_take_dig (b : Nat) (hb : 2 ≤ b) (v k : Nat) (h : (dig b v).length ≤ k) : val b ((dig b v).take k) = v := by
  rw [List.take_of_length_le h, val_dig b hb]
theorem mul_step {b : Nat} {zk zs xs : List Nat} {o k C z x F : Nat} (hk : o + k < zk.length) (hz : zs[o + k]? = some z) (hx : xs[k]? = some x)
    (h : val b (zk.take (o + k)) + b ^ (o + k) * C = val b (zs.take (o + k)) + b ^ o * (F * val b (xs.take k))) :
    val b ((zk.set (o + k) ((C + (z + F * x)) % b)).take (o + k + 1)) + b ^ (o + k + 1) * ((C + (z + F * x)) / b) = val b (zs.take (o + k + 1)) + b ^ o * (F * val b (xs.take (k + 1))) := by
  rw [put_step b zk (o + k) _ hk, val_take_succ b hz, val_take_succ b hx]
  have e : b ^ o * (F * (val b (xs.take k) + b ^ k * x)) = b ^ o * (F * val b (xs.take k)) + b ^ (o + k) * (F * x) := by
    rw [Nat.mul_add F, Nat.mul_add (b ^ o), Nat.pow_add, Nat.mul_assoc (b ^ o), Nat.mul_left_comm F]
  rw [e, Nat.mul_add, Nat.mul_add]
  omega
theorem drop_set_lt {α : Type} (xs : List α) (i j : Nat) (v : α) (h : i < j) : (xs.set i v).drop j = xs.drop j := by
  apply List.ext_getElem?
  intro k
  rw [List.getElem?_drop, List.getElem?_drop, List.getElem?_set_ne (by omega)]
theorem getElem?_of_drop {α : Type} {xs ys : List α} {j k : Nat} (h : xs.drop j = ys.drop j) (hk : j ≤ k) : xs[k]? = ys[k]? := by
  have := congrArg (fun l => l[k - j]?) h
  simp only [List.getElem?_drop] at this
  rwa [show j + (k - j) = k from by omega] at this
theorem drop_of_drop {α : Type} {xs ys : List α} {j k : Nat} (h : xs.drop j = ys.drop j) (hk : j ≤ k) : xs.drop k = ys.drop k := by
  have := congrArg (List.drop (k - j)) h
  rwa [List.drop_drop, List.drop_drop, show j + (k - j) = k from by omega] at this
theorem all_set {b : Nat} {zs : List Nat} {k v : Nat} (h : ∀ x ∈ zs, x < b) (hv : v < b) : ∀ x ∈ zs.set k v, x < b := by
  intro x hx
  rcases List.mem_or_eq_of_mem_set hx with h1 | h1
  · exact h x h1
  · subst h1; exact hv
theorem val_set {b : Nat} {zs : List Nat} {k z v : Nat} (h : zs[k]? = some z) : val b (zs.set k v) + b ^ k * z = val b zs + b ^ k * v := by
  have hl := lt_of_getElem? h
  have h1 := val_split b h
  have h2 : (zs.set k v)[k]? = some v := List.getElem?_set_self hl
  have h3 := val_split b h2
  rw [List.take_set_of_le (Nat.le_refl k), drop_set_lt zs k (k + 1) v (by omega)] at h3
  rw [h1, h3, Nat.mul_add, Nat.mul_add]
  omega
theorem mul_end {b : Nat} {zk zs xs : List Nat} {o n C F : Nat} (hz : zs[o + n]? = some 0) (hd : zk.drop (o + n) = zs.drop (o + n)) (hx : xs.length ≤ n)
    (h : val b (zk.take (o + n)) + b ^ (o + n) * C = val b (zs.take (o + n)) + b ^ o * (F * val b (xs.take n))) :
    val b (zk.set (o + n) C) = val b zs + b ^ o * (F * val b xs) := by
  have hz' : zk[o + n]? = some 0 := by rw [getElem?_of_drop hd (Nat.le_refl _)]; exact hz
  have h1 := val_set (b := b) (v := C) hz'
  have h2 := val_split b hz
  have h3 := val_split b hz'
  rw [drop_of_drop hd (by omega : o + n ≤ o + n + 1)] at h3
  rw [List.take_of_length_le hx] at h
  omega
theorem val_replicate_zero (b n : Nat) : val b (List.replicate n 0) = 0 := by
  induction n with
  | zero => rfl
  | succ n ih => rw [List.replicate_succ]; simp [val, ih]
theorem drop_replicate_eq {n j : Nat} : (List.replicate n 0).drop j = List.replicate (n - j) 0 := by simp
theorem dig_len_u32 {xs : List Nat} {n m : Nat} (h1 : (dig B9 (val B9 xs)).length = n) (h2 : xs.length = m) (h : ∀ x ∈ xs, x < 4294967296) : n ≤ m + 1 := by
  rw [← h1, ← h2, dig_length_le B9 (by decide)]
  exact val_lt_u32 xs h
theorem sub_step {b : Nat} {zs xs ys : List Nat} {k C C' x y z : Nat} (hk : k < zs.length) (hx : xs[k]? = some x) (hy : ys[k]? = some y) (hz : z + (C + y) = x + b * C')
    (h : val b (zs.take k) + val b (ys.take k) = val b (xs.take k) + b ^ k * C) :
    val b ((zs.set k z).take (k + 1)) + val b (ys.take (k + 1)) = val b (xs.take (k + 1)) + b ^ (k + 1) * C' := by
  rw [take_set zs k z hk, val_snoc, List.length_take, Nat.min_eq_left (by omega), val_take_succ b hx, val_take_succ b hy, Nat.pow_succ, Nat.mul_assoc]
  have e := congrArg (fun t => b ^ k * t) hz
  simp only [Nat.mul_add] at e
  omega
theorem sub_step_none {b : Nat} {zs xs ys : List Nat} {k C C' x z : Nat} (hk : k < zs.length) (hx : xs[k]? = some x) (hy : ys.length ≤ k) (hz : z + C = x + b * C')
    (h : val b (zs.take k) + val b (ys.take k) = val b (xs.take k) + b ^ k * C) :
    val b ((zs.set k z).take (k + 1)) + val b (ys.take (k + 1)) = val b (xs.take (k + 1)) + b ^ (k + 1) * C' := by
  rw [take_set zs k z hk, val_snoc, List.length_take, Nat.min_eq_left (by omega), val_take_succ b hx, val_take_all b hy (by omega : ys.length ≤ k + 1), Nat.pow_succ, Nat.mul_assoc]
  have e := congrArg (fun t => b ^ k * t) hz
  simp only [Nat.mul_add] at e
  omega
theorem sub_end {b : Nat} (hb : 2 ≤ b) {zs : List Nat} {n C u v : Nat} (hl : zs.length = n) (hz : ∀ x ∈ zs, x < b) (h : val b zs + v = u + b ^ n * C) (huv : v ≤ u) : trimL zs = dig b (u - v) := by
  have h1 := val_lt b hb zs hz
  rw [hl] at h1
  have hC : C = 0 := by
    rcases Nat.eq_zero_or_pos C with h0 | h0
    · exact h0
    · have : b ^ n * 1 ≤ b ^ n * C := Nat.mul_le_mul_left _ h0
      omega
  subst hC
  rw [trimL_dig b hb zs hz]
  congr 1
  omega
/-- the number of decimal digits of a value -/
def nd (v : Nat) : Nat := if v = 0 then 1 else (dig 10 v).length
theorem len_split {m low t : Nat} (hl : low < 10 ^ m) (ht : t ≠ 0) : (dig 10 (low + 10 ^ m * t)).length = m + (dig 10 t).length := by
  have h10 : 2 ≤ 10 := by decide
  have hp : 0 < 10 ^ m := Nat.pow_pos (by decide)
  obtain ⟨L, hL⟩ : ∃ L, (dig 10 t).length = L + 1 := ⟨(dig 10 t).length - 1, by rw [dig_pos 10 h10 t ht]; simp⟩
  have ht1 : t < 10 ^ (L + 1) := (dig_length_le 10 h10 _ t).1 (by omega)
  have ht2 : 10 ^ L ≤ t := by
    rcases Nat.lt_or_ge t (10 ^ L) with h | h
    · have := (dig_length_le 10 h10 L t).2 h; omega
    · exact h
  apply Nat.le_antisymm
  · rw [dig_length_le 10 h10, hL, Nat.pow_add]
    have h1 : 10 ^ m * (t + 1) ≤ 10 ^ m * 10 ^ (L + 1) := Nat.mul_le_mul_left _ ht1
    rw [Nat.mul_add, Nat.mul_one] at h1
    omega
  · rcases Nat.lt_or_ge (dig 10 (low + 10 ^ m * t)).length (m + (dig 10 t).length) with h | h
    · have h1 := (dig_length_le 10 h10 (m + L) (low + 10 ^ m * t)).1 (by omega)
      rw [Nat.pow_add] at h1
      have h2 : 10 ^ m * 10 ^ L ≤ 10 ^ m * t := Nat.mul_le_mul_left _ ht2
      omega
    · exact h
theorem pow_B9 (k : Nat) : B9 ^ k = 10 ^ (9 * k) := by
  rw [Nat.pow_mul]
theorem nd_top {v n t : Nat} (hl : (dig B9 v).length = n) (hn : n ≠ 0) (ht : (dig B9 v)[n - 1]? = some t) : nd v = 9 * (n - 1) + (dig 10 t).length ∧ t ≠ 0 := by
  have hb : 2 ≤ B9 := by decide
  have hv0 : v ≠ 0 := by
    rintro rfl
    rw [dig_zero] at hl
    simp at hl; omega
  have hsp := val_split B9 ht
  have hdr : (dig B9 v).drop (n - 1 + 1) = [] := List.drop_eq_nil_of_le (by omega)
  rw [val_dig B9 hb, hdr] at hsp
  simp only [val, Nat.mul_zero, Nat.add_zero] at hsp
  have hlt := val_take_lt B9 hb (dig_lt B9 hb v) (n - 1)
  have ht0 : t ≠ 0 := by
    rintro rfl
    rw [Nat.mul_zero, Nat.add_zero] at hsp
    have := (dig_length_le B9 hb (n - 1) v).2 (by omega)
    omega
  refine ⟨?_, ht0⟩
  rw [nd, if_neg hv0]
  have e : v = val B9 ((dig B9 v).take (n - 1)) + 10 ^ (9 * (n - 1)) * t := by rw [← pow_B9]; exact hsp
  rw [pow_B9] at hlt
  rw [e]
  exact len_split hlt ht0
theorem dig_len_step {t : Nat} (h : t ≠ 0) : (dig 10 t).length = (dig 10 (t / 10)).length + 1 := by
  rw [dig_pos 10 (by decide) t h]; rfl
theorem gcd_step (a b : Nat) : Nat.gcd b (a % b) = Nat.gcd a b := by
  rw [Nat.gcd_comm b (a % b), Nat.gcd_comm a b, Nat.gcd_rec b a]
theorem val_drop_step (b : Nat) {xs : List Nat} {k x : Nat} (h : xs[k]? = some x) : val b (xs.drop k) = x + b * val b (xs.drop (k + 1)) := by
  have hl := lt_of_getElem? h
  rw [List.drop_eq_getElem_cons hl]
  rw [List.getElem?_eq_getElem hl] at h
  rw [Option.some.inj h]
  rfl
theorem val_drop_lt (b : Nat) (hb : 2 ≤ b) {xs : List Nat} (h : ∀ x ∈ xs, x < b) (k : Nat) : val b (xs.drop k) < b ^ (xs.length - k) := by
  have h1 := val_lt b hb (xs.drop k) (fun x hx => h x (List.mem_of_mem_drop hx))
  rwa [List.length_drop] at h1
theorem div_step {D V x b : Nat} (hD : 0 < D) : (x + b * V) / D = (V % D * b + x) / D + b * (V / D) ∧ (x + b * V) % D = (V % D * b + x) % D := by
  have e : x + b * V = (V % D * b + x) + D * (b * (V / D)) := by
    have h := Nat.mod_add_div V D
    have h2 : b * V = b * (V % D) + b * (D * (V / D)) := by rw [← Nat.mul_add, h]
    rw [h2, Nat.mul_left_comm b D, Nat.mul_comm b (V % D)]
    omega
  constructor
  · rw [e, Nat.add_mul_div_left _ _ hD]
  · rw [e, Nat.add_mul_mod_self_left]
theorem div_bound {D R x b : Nat} (hR : R < D) (hx : x < b) : (R * b + x) / D < b := by
  rw [Nat.div_lt_iff_lt_mul (by omega)]
  have h1 : (R + 1) * b ≤ D * b := Nat.mul_le_mul_right _ hR
  rw [Nat.add_mul, Nat.one_mul] at h1
  rw [Nat.mul_comm b D]
  omega
theorem drop_set_eq {α : Type} (zs : List α) (k : Nat) (v : α) (hk : k < zs.length) : (zs.set k v).drop k = v :: zs.drop (k + 1) := by
  rw [List.drop_eq_getElem_cons (by rw [List.length_set]; exact hk), List.getElem_set_self, drop_set_lt _ _ _ _ (by omega)]
theorem val_drop_set (b : Nat) (zs : List Nat) (k v : Nat) (hk : k < zs.length) : val b ((zs.set k v).drop k) = v + b * val b (zs.drop (k + 1)) := by
  rw [drop_set_eq zs k v hk]; rfl
/-- the loop of the guess -/
theorem guess_go {G R d1 d0 t t0 b : Nat} (h : G * d1 + R = t) (hlt : R * b + t0 < G * d0) : t * b + t0 < G * (d1 * b + d0) := by
  have e : G * (d1 * b + d0) = G * d1 * b + G * d0 := by rw [Nat.mul_add, Nat.mul_assoc]
  rw [e, ← h, Nat.add_mul]
  omega
theorem guess_end {G R d1 d0 t t0 b : Nat} (h : G * d1 + R = t) (hle : G * d0 ≤ R * b + t0) : G * (d1 * b + d0) ≤ t * b + t0 := by
  have e : G * (d1 * b + d0) = G * d1 * b + G * d0 := by rw [Nat.mul_add, Nat.mul_assoc]
  rw [e, ← h, Nat.add_mul]
  omega
theorem guess_first {d1 d0 t t0 b : Nat} (hd : 0 < d1) (hb : 0 < b) (ht0 : t0 < b) : (t * b + t0) / (d1 * b + d0) ≤ t / d1 := by
  have hp : 0 < d1 * b + d0 := by have := Nat.mul_pos hd hb; omega
  rw [Nat.le_div_iff_mul_le hd]
  have h1 : (t * b + t0) / (d1 * b + d0) * (d1 * b + d0) ≤ t * b + t0 := Nat.div_mul_le_self _ _
  generalize (t * b + t0) / (d1 * b + d0) = q at *
  rw [Nat.mul_add, ← Nat.mul_assoc] at h1
  have h2 : q * d1 * b < (t + 1) * b := by rw [Nat.add_mul, Nat.one_mul]; omega
  have := Nat.lt_of_mul_lt_mul_right h2
  omega
theorem smul_step {b : Nat} {dk ds ys : List Nat} {k F B B' y z v : Nat} (hk : k < dk.length) (hz : ds[k]? = some z) (hy : ys[k]? = some y) (e : v + (B + F * y) = z + b * B')
    (h : val b (dk.take k) + F * val b (ys.take k) = val b (ds.take k) + b ^ k * B) :
    val b ((dk.set k v).take (k + 1)) + F * val b (ys.take (k + 1)) = val b (ds.take (k + 1)) + b ^ (k + 1) * B' := by
  rw [take_set dk k v hk, val_snoc, List.length_take, Nat.min_eq_left (by omega), val_take_succ b hz, val_take_succ b hy, Nat.pow_succ, Nat.mul_assoc]
  have e2 := congrArg (fun t => b ^ k * t) e
  simp only [Nat.mul_add] at e2
  rw [Nat.mul_add, Nat.mul_left_comm F]
  omega
theorem drop_set_add {α : Type} (zs : List α) (o k : Nat) (v : α) : (zs.set (o + k) v).drop o = (zs.drop o).set k v := by
  apply List.ext_getElem?
  intro j
  rw [List.getElem?_drop, List.getElem?_set, List.getElem?_set, List.getElem?_drop]
  by_cases h : k = j
  · subst h
    by_cases h2 : o + k < zs.length
    · simp [h2]; omega
    · simp; rw [if_neg (by omega), if_neg (by omega)]
  · rw [if_neg (by omega), if_neg h]
theorem take_set_lt {α : Type} (zs : List α) (o k : Nat) (v : α) (h : k ≤ o) : (zs.set o v).take k = zs.take k := List.take_set_of_le h
/-- Knuth: the quotient of the first three limbs by two is at most one too great -/
theorem guess_bounds {b m pv dv lo lo' top d : Nat} (hpv : pv = lo + b ^ m * top) (hlo : lo < b ^ m) (hdv : dv = lo' + b ^ m * d) (hlo' : lo' < b ^ m) (hd : 0 < d) (hq : top / d ≤ d) :
    pv / dv ≤ top / d ∧ top / d ≤ pv / dv + 1 := by
  have hp : 0 < b ^ m := by omega
  have hdv0 : 0 < dv := by rw [hdv]; have := Nat.mul_pos hp hd; omega
  constructor
  · rw [Nat.le_div_iff_mul_le hd]
    have h1 : pv / dv * dv ≤ pv := Nat.div_mul_le_self _ _
    generalize pv / dv = q at *
    have h2 : q * d * b ^ m < (top + 1) * b ^ m := by
      have e1 : q * dv = q * lo' + q * d * b ^ m := by rw [hdv, Nat.mul_add, ← Nat.mul_assoc, Nat.mul_right_comm]
      have e2 : (top + 1) * b ^ m = b ^ m * top + b ^ m := by rw [Nat.add_mul, Nat.one_mul, Nat.mul_comm]
      omega
    have := Nat.lt_of_mul_lt_mul_right h2
    omega
  · have h1 : top / d * d ≤ top := Nat.div_mul_le_self _ _
    generalize top / d = q at *
    rcases Nat.eq_zero_or_pos q with h0 | h0
    · rw [h0]; exact Nat.zero_le _
    · have h2 : (q - 1) ≤ pv / dv := by
        rw [Nat.le_div_iff_mul_le hdv0]
        obtain ⟨p, rfl⟩ : ∃ p, q = p + 1 := ⟨q - 1, by omega⟩
        rw [Nat.add_sub_cancel]
        have e1 : p * dv = p * lo' + b ^ m * (p * d) := by rw [hdv, Nat.mul_add, Nat.mul_left_comm]
        have e2 : p * lo' ≤ p * b ^ m := Nat.mul_le_mul_left _ (by omega)
        have e3 : b ^ m * ((p + 1) * d) ≤ b ^ m * top := Nat.mul_le_mul_left _ h1
        have e4 : b ^ m * ((p + 1) * d) = b ^ m * (p * d) + b ^ m * d := by rw [← Nat.mul_add, Nat.add_mul, Nat.one_mul]
        have e5 : p * b ^ m ≤ b ^ m * d := by rw [Nat.mul_comm]; exact Nat.mul_le_mul_left _ (by omega)
        omega
      generalize pv / dv = z at *
      omega
end Go.Proofs.Ytgmdfaamheblmaa

/- Words for memory: a slice of integers that reads as a list of numbers; a block of the call's own. -/
namespace Go.Proofs.Ytgmdfaamheblmaa
open Go Go.RowKit

theorem alloc_heap (w : World) (o : Obj) : (w.alloc o).heap = w.heap.push o := rfl
theorem hide {p : Prop} (h : p) : Hid p := h
theorem ret_slice {a b : Nat} {A : Option Addr} {c : Nat} (h : a = b) : Ending.returned (.slice A a c) = .returned (.slice A b c) := by rw [h]
theorem ret_int {k : IntKind} {a b : Int} (h : a = b) : Ending.returned (.int k a) = .returned (.int k b) := by rw [h]

/-- The cells of a list of numbers. -/
def cells (k : IntKind) (xs : List Nat) : List Value := xs.map (fun x : Nat => Value.int k (x : Int))
theorem cells_getElem? (k : IntKind) (xs : List Nat) (j : Nat) : (cells k xs)[j]? = (xs[j]?).map (fun x : Nat => Value.int k (x : Int)) := by simp [cells]
theorem cells_length (k : IntKind) (xs : List Nat) : (cells k xs).length = xs.length := by simp [cells]
theorem cells_append (k : IntKind) (xs ys : List Nat) : cells k (xs ++ ys) = cells k xs ++ cells k ys := by simp [cells]
theorem cells_one (k : IntKind) (xs : List Nat) : ∀ u ∈ cells k xs, u.oneCell' = true := by
  intro u hu
  obtain ⟨x, _, rfl⟩ := List.mem_map.1 hu
  rfl

/-- The slice value '.slice A n c' reads as the numbers xs. -/
def RL (w : World) (k : IntKind) (A : Option Addr) (n : Nat) (xs : List Nat) : Prop :=
  xs.length = n ∧ (0 < n → ∃ b o, A = some ⟨b, o, none⟩ ∧ ∀ j x : Nat, xs[j]? = some x → w.cell? ⟨b, o + j, none⟩ = some (.int k (x : Int)))
/-- The slice does not lie in block g. -/
def Sp (A : Option Addr) (n g : Nat) : Prop := 0 < n → ∀ b o, A = some ⟨b, o, none⟩ → b ≠ g
/-- Block g is just these numbers. -/
def Own (w : World) (g : Nat) (k : IntKind) (t : TypeId) (xs : List Nat) : Prop := w.heap[g]? = some (.cells (cells k xs).toArray t (0, 0))

section
variable {w w' : World} {B n g : Nat} {k : IntKind} {A : Option Addr} {xs : List Nat} {t : TypeId}
theorem RL.len (h : RL w k A n xs) : xs.length = n := h.1
theorem RL.nil_ : RL w k A 0 [] := ⟨rfl, fun h => absurd h (by omega)⟩
theorem RL.zero (h : xs = []) (hn : n = 0) : RL w k A n xs := by subst h; subst hn; exact RL.nil_
theorem RL.at_ {j : Nat} (h : RL w k A n xs) (hj : j < n) : ∃ b o x, A = some ⟨b, o, none⟩ ∧ xs[j]? = some x ∧ w.cell? ⟨b, o + j, none⟩ = some (.int k (x : Int)) := by
  obtain ⟨b, o, e, hc⟩ := h.2 (by omega)
  have hl : j < xs.length := by have := h.1; omega
  exact ⟨b, o, xs[j], e, List.getElem?_eq_getElem hl, hc j _ (List.getElem?_eq_getElem hl)⟩
/-- the same, the address known already -/
theorem RL.cell {b o j : Nat} (h : RL w k (some ⟨b, o, none⟩) n xs) (hj : j < n) : ∃ x, xs[j]? = some x ∧ w.cell? ⟨b, o + j, none⟩ = some (.int k (x : Int)) := by
  obtain ⟨b', o', x, e, hx, hc⟩ := h.at_ hj
  injection e with e; injection e with e1 e2; subst e1; subst e2
  exact ⟨x, hx, hc⟩
theorem RL.lt (h : RL w k A n xs) (hn : 0 < n) : ∀ b o, A = some ⟨b, o, none⟩ → b < w.heap.size := by
  intro b o e
  subst e
  obtain ⟨x, _, hc⟩ := h.cell hn
  exact World.block_lt_of_cell? w ⟨b, o + 0, none⟩ hc
theorem RL.keep (h : RL w k A n xs) (hk : ∀ p : Addr, p.block < w.heap.size → w'.cell? p = w.cell? p) : RL w' k A n xs :=
  ⟨h.1, fun hn => by
    obtain ⟨b, o, e, hc⟩ := h.2 hn
    have hb := h.lt hn b o e
    exact ⟨b, o, e, fun j u hu => (hk _ hb).trans (hc j u hu)⟩⟩
theorem RL.below (h : RL w k A n xs) (hb : Below w.heap.size w w') : RL w' k A n xs := h.keep fun _ hp => hb.cell hp
theorem RL.drewN (h : RL w k A n xs) (m : Nat) : RL (w.drewN m) k A n xs := h
theorem RL.sp (h : RL w k A n xs) (hg : w.heap.size ≤ g) : Sp A n g := fun hn b o e => by have := h.lt hn b o e; omega
theorem RL.grown (h : RL w k A n xs) (hg : w.grownBy w' (some g)) (hs : Sp A n g) : RL w' k A n xs :=
  ⟨h.1, fun hn => by
    obtain ⟨b, o, e, hc⟩ := h.2 hn
    have hb := h.lt hn b o e
    have hne := hs hn b o e
    exact ⟨b, o, e, fun j u hu => (World.cell?_of_block (a := ⟨b, o + j, none⟩) (hg.block b hb (by simpa using hne))).trans (hc j u hu)⟩⟩
theorem RL.take_ (h : RL w k A n xs) {m : Nat} (hm : m ≤ n) : RL w k A m (xs.take m) :=
  ⟨by rw [List.length_take, h.1]; omega, fun hm0 => by
    obtain ⟨b, o, e, hc⟩ := h.2 (by omega)
    exact ⟨b, o, e, fun j x hx => hc j x (by
      rw [List.getElem?_take] at hx
      split at hx
      · exact hx
      · cases hx)⟩⟩
theorem RL.drop_ {b o : Nat} (h : RL w k (some ⟨b, o, none⟩) n xs) {m : Nat} (hm : m ≤ n) : RL w k (some ⟨b, o + m, none⟩) (n - m) (xs.drop m) :=
  ⟨by rw [List.length_drop, h.1], fun hm0 => by
    obtain ⟨b', o', e, hc⟩ := h.2 (by omega)
    injection e with e; injection e with e1 e2; subst e1; subst e2
    exact ⟨b, o + m, rfl, fun j x hx => by
      rw [List.getElem?_drop] at hx
      rw [Nat.add_assoc]
      exact hc _ _ hx⟩⟩

theorem Own.lt (h : Own w g k t xs) : g < w.heap.size := by
  rcases Nat.lt_or_ge g w.heap.size with hlt | hge
  · exact hlt
  · unfold Own at h; rw [Array.getElem?_eq_none hge] at h; cases h
theorem Own.cell (h : Own w g k t xs) {j x : Nat} (hx : xs[j]? = some x) : w.cell? ⟨g, j, none⟩ = some (.int k (x : Int)) := by
  rw [cell_of_row w g j _ t (0, 0) h, List.getElem?_toArray, cells_getElem?, hx]; rfl
theorem Own.frozen (h : Own w g k t xs) (j : Nat) : w.frozen? ⟨g, j, none⟩ = false := frozen_of_row w g j _ t h
theorem Own.alloc (h : Own w g k t xs) (o : Obj) : Own (w.alloc o) g k t xs := (Below.heap_alloc w o g h.lt).trans h
theorem Own.new (w : World) (k : IntKind) (t : TypeId) (xs : List Nat) : Own (w.alloc (.cells (cells k xs).toArray t)) w.heap.size k t xs := heap_alloc_new w _
theorem Own.set_ (h : Own w g k t xs) (i x : Nat) : Own (w.setCell ⟨g, i, none⟩ (.int k (x : Int))) g k t (xs.set i x) := by
  unfold Own at h ⊢
  simp [World.setCell, Array.getElem?_modify, h, cells, List.map_set]
theorem Own.put (h : Own w g k t xs) (i : Nat) {v : Int} {x : Nat} (e : v = (x : Int)) : Own (w.setCell ⟨g, i, none⟩ (.int k v)) g k t (xs.set i x) := by
  subst e; exact h.set_ i x
theorem Own.far (h : Own w g k t xs) {p : Addr} (hp : g ≠ p.block) (u : Value) : Own (w.setCell p u) g k t xs := (Below.heap_setCell w p u g hp).trans h
theorem Own.below (h : Own w g k t xs) (hb : Below B w w') (hg : g < B) : Own w' g k t xs := (hb.block g hg).trans h
theorem Own.below' (h : Own w g k t xs) (hb : Below w.heap.size w w') : Own w' g k t xs := h.below hb h.lt
theorem Own.grown {g' : Nat} (h : Own w g k t xs) (hb : w.grownBy w' (some g')) (hg : g ≠ g') : Own w' g k t xs := (hb.block g h.lt (by simpa using hg)).trans h
theorem Own.rl (h : Own w g k t xs) (hn : xs.length = n) : RL w k (some ⟨g, 0, none⟩) n xs :=
  ⟨hn, fun _ => ⟨g, 0, rfl, fun j x hx => by rw [Nat.zero_add]; exact h.cell hx⟩⟩
theorem Own.cast (h : Own w g k t xs) {ys : List Nat} (e : xs = ys) : Own w g k t ys := by subst e; exact h

/-- a row of the call's own, its leading zeros left out -/
theorem Own.trim (h : Own w g k t xs) {ys : List Nat} (e : trimL xs = ys) (hn : xs.length = n) : RL w k (some ⟨g, 0, none⟩) ys.length ys ∧ ys.length ≤ n := by
  subst e
  have h2 : (trimL xs).length ≤ n := by rw [← hn]; exact trimL_length_le xs
  have h3 := (h.rl hn).take_ h2
  rw [← trimL_eq_take] at h3
  exact ⟨h3, h2⟩
/-- what a row of the call's own reads as -/
theorem rl_of_own {base : Nat} {c : Nat} (h : w.ownsRow base t 1 (.slice A n c) n (cells k xs)) : RL w k A n xs := by
  have hl : xs.length = n := by have := h.1; rw [cells_length] at this; omega
  refine ⟨hl, fun hn => ?_⟩
  rcases h.2 with ⟨_, h0⟩ | ⟨g, cap, cur, hv, rest⟩
  · omega
  · injection hv with e1 _ _
    subst e1
    refine ⟨g, 0, rfl, fun j x hx => ?_⟩
    have := h.cells (g := g) rfl j (.int k (x : Int)) (by rw [cells_getElem?, hx]; rfl)
    have e : (⟨g, 0, none⟩ : Addr).add j = ⟨g, 0 + j, none⟩ := by unfold Addr.add; split <;> simp_all
    rwa [e] at this
end

/-- only block g, and what is new, has turned -/
theorem only_drewN {a w : World} {row : Option Nat} (h : a.grownBy w row) (n : Nat) : a.grownBy (w.drewN n) row := ⟨h.os, h.tape, h.output, h.size, h.block⟩
theorem only_drew {a w : World} {row : Option Nat} (h : a.grownBy w row) : a.grownBy w.drew row := ⟨h.os, h.tape, h.output, h.size, h.block⟩
theorem only_setCell {a w : World} {g : Nat} (h : a.grownBy w (some g)) {p : Addr} (hp : p.block = g ∨ a.heap.size ≤ p.block) (u : Value) : a.grownBy (w.setCell p u) (some g) :=
  ⟨h.os, h.tape, h.output, by simpa [World.setCell] using h.size, fun i hi hne => (Below.heap_setCell w p u i (by
    rintro rfl
    rcases hp with hp | hp
    · exact hne (by rw [hp])
    · omega)).trans (h.block i hi hne)⟩
theorem only_of_below {a w : World} (h : Below a.heap.size a w) (row : Option Nat) : a.grownBy w row := ⟨h.os, h.tape, h.output, h.size, fun i hi _ => h.block i hi⟩
theorem only_trans {a b c : World} {row : Option Nat} (h : a.grownBy b row) (k : b.grownBy c row) : a.grownBy c row :=
  ⟨k.os.trans h.os, k.tape.trans h.tape, k.output.trans h.output, Nat.le_trans h.size k.size, fun i hi hne => (k.block i (Nat.lt_of_lt_of_le hi h.size) hne).trans (h.block i hi hne)⟩
theorem below_drewN {B : Nat} {a w : World} (h : Below B a w) (n : Nat) : Below B a (w.drewN n) := ⟨h.os, h.tape, h.output, h.size, h.block⟩
theorem below_only {B g : Nat} {a w w' : World} (h : Below B a w) (k : w.grownBy w' (some g)) (hB : B ≤ w.heap.size) (hg : B ≤ g) : Below B a w' :=
  h.grown k hB (fun j e => by injection e with e; omega)

/-- a slice in which a value reads -/
def Gives (u : Nat) (w : World) (e : Ending) (w' : World) : Prop :=
  ∃ A n c, e = .returned (.slice A n c) ∧ RL w' .u32 A n (dig B9 u) ∧ n ≤ c ∧ c ≤ maxLen ∧ Below w.heap.size w w'
theorem madeCells_zero (k : IntKind) (n : Nat) : madeCells #[.int k 0] n = (cells k (List.replicate n 0)).toArray := by
  apply Array.ext'
  rw [toList_madeCells_one]
  simp [cells]

/-- 'make([]T, n)', T an integer type: a new block of n zeros; the world behind it under a name of its own. -/
theorem wpList_make_zero {P : Program} (w : World) {ops : Array Oper} {rest : List Oper} {o : Oper} {a : Act} {Q : Exit → Act → World → Prop}
    (hg : o.guard = none) (l c : Operand) (t : TypeId) (hop : o.op = Op.makeSlice t l c)
    (e : TypeId) (k : IntKind) (bytes : Nat) (h1 : P.underlying t = some (.slice e)) (h2 : (P.info? e).map (fun i => (i.zero, i.size, i.bytes)) = some (some (.int k 0), 1, bytes))
    (kl kc : IntKind) (L C : Int) (n : Nat) (hl : a.eval l = .int kl L) (hc : a.eval c = .int kc C) (hL : L = (n : Int)) (hC : C = (n : Int)) (hby : bytes ≤ 8) (hn : n ≤ 1099511627776)
    (hK : ∀ (g : Nat) (w' : World), w.heap.size ≤ g → Own w' g k e (List.replicate n 0) → Below w.heap.size w w' → wpList P ops Q rest (a.put o.dst (.slice (some ⟨g, 0, none⟩) n n)) w') :
    wpList P ops Q (o :: rest) a w := by
  refine wpList_plain hg fun K hK' => ?_
  obtain ⟨i, hi, hz, hs, hb⟩ := info_parts h2
  have hbb : (i.bytes : Int) * (n : Int) ≤ 281474976710656 := by
    have h : i.bytes * n ≤ 8 * 1099511627776 := Nat.mul_le_mul (by omega) hn
    have h' : ((i.bytes * n : Nat) : Int) ≤ 281474976710656 := by omega
    rwa [Int.natCast_mul] at h'
  have hr := run_make (P := P) w t e i (.int k 0) h1 hi hz kl kc (n : Int) (n : Int) (by omega) (Int.le_refl _) hbb (by omega)
  simp only [Int.toNat_natCast, hs, Nat.mul_one] at hr
  have ec : (Value.int k 0).cells = #[Value.int k 0] := rfl
  rw [ec, madeCells_zero] at hr
  subst hL
  subst hC
  unfold Oper.wp
  simp [execOp, hop, hl, hc, hr, Result.andThen]
  exact hK' _ _ (hK _ _ (Nat.le_refl _) (Own.new w k e _) ((Below.refl _ _).alloc (Nat.le_refl _) _))

theorem bcell {W w1 : World} (hb : Below W.heap.size W w1) : (∀ b o, b < W.heap.size → w1.cell? ⟨b, o, none⟩ = W.cell? ⟨b, o, none⟩) ∧ (∀ b o, b < W.heap.size → w1.frozen? ⟨b, o, none⟩ = W.frozen? ⟨b, o, none⟩) :=
  ⟨fun b o h => hb.cell (p := ⟨b, o, none⟩) h, fun b o h => hb.frozen (p := ⟨b, o, none⟩) h⟩
/-- a natural of a value -/
def GivesN (u : Nat) (w : World) (e : Ending) (w' : World) : Prop :=
  ∃ A n c, e = .returned (.agg #[.slice A n c]) ∧ RL w' .u32 A n (dig B9 u) ∧ n ≤ c ∧ c ≤ maxLen ∧ Below w.heap.size w w'

/-- the boxes of two parameters, and a result's cell -/
theorem box3 (w : World) (v0 v1 v2 : Value) (t0 t1 t2 : TypeId) :
    Below w.heap.size w (((w.alloc (.cells #[v0] t0)).alloc (.cells #[v1] t1)).alloc (.cells #[v2] t2)) ∧
    (((w.alloc (.cells #[v0] t0)).alloc (.cells #[v1] t1)).alloc (.cells #[v2] t2)).cell? ⟨w.heap.size, 0, none⟩ = some v0 ∧
    (((w.alloc (.cells #[v0] t0)).alloc (.cells #[v1] t1)).alloc (.cells #[v2] t2)).cell? ⟨w.heap.size + 1, 0, none⟩ = some v1 ∧
    (((w.alloc (.cells #[v0] t0)).alloc (.cells #[v1] t1)).alloc (.cells #[v2] t2)).heap[w.heap.size + 2]? = some (.cells #[v2] t2 (0, 0)) ∧
    (((w.alloc (.cells #[v0] t0)).alloc (.cells #[v1] t1)).alloc (.cells #[v2] t2)).heap.size = w.heap.size + 3 := by
  have e0 : (((w.alloc (.cells #[v0] t0)).alloc (.cells #[v1] t1)).alloc (.cells #[v2] t2)).heap[w.heap.size]? = some (.cells #[v0] t0 (0, 0)) := by
    rw [heap_alloc_old _ _ (by simp; omega), heap_alloc_old _ _ (by simp)]
    exact heap_alloc_new w _
  have e1 : (((w.alloc (.cells #[v0] t0)).alloc (.cells #[v1] t1)).alloc (.cells #[v2] t2)).heap[w.heap.size + 1]? = some (.cells #[v1] t1 (0, 0)) := by
    rw [heap_alloc_old _ _ (by simp)]
    exact heap_alloc2_new w _ _
  have e2 : (((w.alloc (.cells #[v0] t0)).alloc (.cells #[v1] t1)).alloc (.cells #[v2] t2)).heap[w.heap.size + 2]? = some (.cells #[v2] t2 (0, 0)) := by
    have := heap_alloc_new ((w.alloc (.cells #[v0] t0)).alloc (.cells #[v1] t1)) (.cells #[v2] t2)
    simpa using this
  refine ⟨(((Below.refl _ _).alloc (Nat.le_refl _) _).alloc (by simp) _).alloc (by simp; omega) _, ?_, ?_, e2, by simp⟩
  · rw [cell_of_row _ _ _ _ _ _ e0]; rfl
  · rw [cell_of_row _ _ _ _ _ _ e1]; rfl
/-- the boxes of two parameters -/
theorem box2 (w : World) (v0 v1 : Value) (t0 t1 : TypeId) :
    Below w.heap.size w ((w.alloc (.cells #[v0] t0)).alloc (.cells #[v1] t1)) ∧
    ((w.alloc (.cells #[v0] t0)).alloc (.cells #[v1] t1)).cell? ⟨w.heap.size, 0, none⟩ = some v0 ∧
    ((w.alloc (.cells #[v0] t0)).alloc (.cells #[v1] t1)).cell? ⟨w.heap.size + 1, 0, none⟩ = some v1 ∧
    ((w.alloc (.cells #[v0] t0)).alloc (.cells #[v1] t1)).heap.size = w.heap.size + 2 := by
  have e0 : ((w.alloc (.cells #[v0] t0)).alloc (.cells #[v1] t1)).heap[w.heap.size]? = some (.cells #[v0] t0 (0, 0)) := by
    rw [heap_alloc_old _ _ (by simp)]
    exact heap_alloc_new w _
  have e1 : ((w.alloc (.cells #[v0] t0)).alloc (.cells #[v1] t1)).heap[w.heap.size + 1]? = some (.cells #[v1] t1 (0, 0)) := heap_alloc2_new w _ _
  refine ⟨((Below.refl _ _).alloc (Nat.le_refl _) _).alloc (by simp) _, ?_, ?_, by simp⟩
  · rw [cell_of_row _ _ _ _ _ _ e0]; rfl
  · rw [cell_of_row _ _ _ _ _ _ e1]; rfl
theorem box1 (w : World) (v0 : Value) (t0 : TypeId) :
    Below w.heap.size w (w.alloc (.cells #[v0] t0)) ∧ (w.alloc (.cells #[v0] t0)).cell? ⟨w.heap.size, 0, none⟩ = some v0 ∧ (w.alloc (.cells #[v0] t0)).heap.size = w.heap.size + 1 := by
  refine ⟨(Below.refl _ _).alloc (Nat.le_refl _) _, ?_, by simp⟩
  rw [cell_of_row _ _ _ _ _ _ (heap_alloc_new w _)]; rfl
/-- a cell of another block -/
theorem cell_far (w : World) (p q : Addr) (u : Value) (h : q.block ≠ p.block) : (w.setCell p u).cell? q = w.cell? q := World.cell?_of_block (Below.heap_setCell w p u q.block h)
/-- the boxes of two parameters, and two results' cells -/
theorem box4 (w : World) (v0 v1 v2 v3 : Value) (t0 t1 t2 t3 : TypeId) (W : World) (hW : ((((w.alloc (.cells #[v0] t0)).alloc (.cells #[v1] t1)).alloc (.cells #[v2] t2)).alloc (.cells #[v3] t3)) = W) :
    Below w.heap.size w W ∧ W.cell? ⟨w.heap.size, 0, none⟩ = some v0 ∧ W.cell? ⟨w.heap.size + 1, 0, none⟩ = some v1 ∧ W.heap[w.heap.size + 2]? = some (.cells #[v2] t2 (0, 0)) ∧ W.heap[w.heap.size + 3]? = some (.cells #[v3] t3 (0, 0)) ∧ W.heap.size = w.heap.size + 4 := by
  obtain ⟨a1, a2, a3, a4, a5⟩ := box3 w v0 v1 v2 t0 t1 t2
  generalize ((w.alloc (.cells #[v0] t0)).alloc (.cells #[v1] t1)).alloc (.cells #[v2] t2) = V at *
  subst hW
  have hb : Below V.heap.size V (V.alloc (.cells #[v3] t3)) := (Below.refl _ _).alloc (Nat.le_refl _) _
  refine ⟨a1.trans (hb.mono a1.size), (hb.cell (p := ⟨w.heap.size, 0, none⟩) (by simp; omega)).trans a2, (hb.cell (p := ⟨w.heap.size + 1, 0, none⟩) (by simp; omega)).trans a3, (hb.block _ (by omega)).trans a4, ?_, by simp; omega⟩
  rw [← a5]
  exact heap_alloc_new V _
/-- one number in a new block -/
theorem RL.one (w : World) (k : IntKind) (t : TypeId) {v : Int} {x : Nat} (e : v = (x : Int)) : RL (w.alloc (.cells #[.int k v] t)) k (some ⟨w.heap.size, 0, none⟩) 1 [x] := by
  subst e
  exact (Own.new w k t [x]).rl rfl
/-- a block of one slice is no block of numbers -/
theorem RL.sp_slice {w : World} {k : IntKind} {A : Option Addr} {n : Nat} {xs : List Nat} {g : Nat} {S : Option Addr} {m c : Nat} {t : TypeId} {fr : Nat × Nat} (h : RL w k A n xs) (hg : w.heap[g]? = some (.cells #[.slice S m c] t fr)) : Sp A n g := by
  intro hn b o e
  rintro rfl
  subst e
  obtain ⟨x, _, hc⟩ := h.cell hn
  rw [cell_of_row w b _ _ t fr hg] at hc
  have h0 : o + 0 = 0 := by
    rcases Nat.eq_zero_or_pos (o + 0) with h | h
    · exact h
    · rw [Array.getElem?_eq_none (by simp; omega)] at hc; cases hc
  rw [h0] at hc
  simp at hc
theorem RL.store {w : World} {k : IntKind} {A : Option Addr} {n : Nat} {xs : List Nat} {g i : Nat} {S : Option Addr} {m c : Nat} {t : TypeId} {fr : Nat × Nat} (h : RL w k A n xs) (hg : w.heap[g]? = some (.cells #[.slice S m c] t fr)) (u : Value) : RL (w.setCell ⟨g, i, none⟩ u) k A n xs := by
  have hs := h.sp_slice hg
  refine ⟨h.1, fun hn => ?_⟩
  obtain ⟨b, o, e, hc⟩ := h.2 hn
  have hne := hs hn b o e
  exact ⟨b, o, e, fun j x hx => (World.cell?_of_block (a := ⟨b, o + j, none⟩) (Below.heap_setCell w ⟨g, i, none⟩ u b hne)).trans (hc j x hx)⟩
/-- the end of a function whose result is one natural: it lies in block g -/
theorem fin_struct {w W w2 : World} {g : Nat} {S A : Option Addr} {m d n c u : Nat} {t : TypeId} (hW : Below w.heap.size w W) (hb : Below W.heap.size W w2) (hg : w.heap.size ≤ g) (hc : W.heap[g]? = some (.cells #[.slice S m d] t (0, 0)))
    (hr : RL w2 .u32 A n (dig B9 u)) (hn : n ≤ c) (hm : c ≤ maxLen) : GivesN u w (.returned (.agg #[.slice A n c])) (w2.setCell ⟨g, 0, none⟩ (.slice A n c)) := by
  have hlt : g < W.heap.size := by
    rcases Nat.lt_or_ge g W.heap.size with h | h
    · exact h
    · rw [Array.getElem?_eq_none h] at hc; cases hc
  exact ⟨A, n, c, rfl, hr.store ((hb.block g hlt).trans hc) _, hn, hm, (hW.trans (hb.mono hW.size)).setCell hg _⟩

/-- a natural of a value, and an error's number -/
def GivesNE (u : Nat) (er : Int) (w : World) (e : Ending) (w' : World) : Prop :=
  ∃ A n c, e = .returned (.tuple #[.agg #[.slice A n c], .int .i64 er]) ∧ RL w' .u32 A n (dig B9 u) ∧ n ≤ c ∧ c ≤ maxLen ∧ Below w.heap.size w w'
theorem fin_structE {w W w2 : World} {g : Nat} {S A : Option Addr} {m d n c u : Nat} {t : TypeId} {er : Int} (hW : Below w.heap.size w W) (hb : Below W.heap.size W w2) (hg : w.heap.size ≤ g) (hc : W.heap[g]? = some (.cells #[.slice S m d] t (0, 0)))
    (hr : RL w2 .u32 A n (dig B9 u)) (hn : n ≤ c) (hm : c ≤ maxLen) : GivesNE u er w (.returned (.tuple #[.agg #[.slice A n c], .int .i64 er])) (w2.setCell ⟨g, 0, none⟩ (.slice A n c)) := by
  obtain ⟨A', n', c', he, r1, r2, r3, r4⟩ := fin_struct (u := u) hW hb hg hc hr hn hm
  injection he with he; injection he with he; injection he with he; injection he with he _; injection he with e1 e2 e3
  subst e1; subst e2; subst e3
  exact ⟨_, _, _, rfl, r1, r2, r3, r4⟩

/-- the end of a function whose results are two naturals and an error -/
def GivesDM (u v : Nat) (er : Int) (w : World) (e : Ending) (w' : World) : Prop :=
  ∃ A n c A' n' c', e = .returned (.tuple #[.agg #[.slice A n c], .agg #[.slice A' n' c'], .int .i64 er]) ∧ RL w' .u32 A n (dig B9 u) ∧ n ≤ c ∧ c ≤ maxLen ∧ RL w' .u32 A' n' (dig B9 v) ∧ n' ≤ c' ∧ c' ≤ maxLen ∧ Below w.heap.size w w'
theorem fin_structDM {w W w2 : World} {g : Nat} {S S' A A' : Option Addr} {m d m' d' n c n' c' u v : Nat} {t t' : TypeId} {er : Int} (hW : Below w.heap.size w W) (hb : Below W.heap.size W w2) (hg : w.heap.size ≤ g) (hc : W.heap[g]? = some (.cells #[.slice S m d] t (0, 0))) (hc' : W.heap[g + 1]? = some (.cells #[.slice S' m' d'] t' (0, 0)))
    (hr : RL w2 .u32 A n (dig B9 u)) (hn : n ≤ c) (hm : c ≤ maxLen) (hr' : RL w2 .u32 A' n' (dig B9 v)) (hn' : n' ≤ c') (hm' : c' ≤ maxLen) :
    GivesDM u v er w (.returned (.tuple #[.agg #[.slice A n c], .agg #[.slice A' n' c'], .int .i64 er])) ((w2.setCell ⟨g, 0, none⟩ (.slice A n c)).setCell ⟨g + 1, 0, none⟩ (.slice A' n' c')) := by
  have lt : ∀ i o, W.heap[i]? = some o → i < W.heap.size := by
    intro i o h
    rcases Nat.lt_or_ge i W.heap.size with h1 | h1
    · exact h1
    · rw [Array.getElem?_eq_none h1] at h; cases h
  have e1 := (hb.block g (lt _ _ hc)).trans hc
  have e2 := (hb.block (g + 1) (lt _ _ hc')).trans hc'
  have e3 : (w2.setCell ⟨g, 0, none⟩ (.slice A n c)).heap[g + 1]? = some (.cells #[.slice S' m' d'] t' (0, 0)) := (Below.heap_setCell w2 ⟨g, 0, none⟩ (.slice A n c) (g + 1) (by simp)).trans e2
  exact ⟨A, n, c, A', n', c', rfl, (hr.store e1 _).store e3 _, hn, hm, (hr'.store e1 _).store e3 _, hn', hm', ((hW.trans (hb.mono hW.size)).setCell hg _).setCell (by simp; omega) _⟩

/-- A row of the call's own: the slice '.slice A n c' is nil, or the head of a block from base on. -/
def Row (w : World) (base : Nat) (k : IntKind) (t : TypeId) (A : Option Addr) (n c : Nat) (xs : List Nat) : Prop := w.ownsRow base t 1 (.slice A n c) n (cells k xs)
section
variable {w w' : World} {base n c g : Nat} {k : IntKind} {A : Option Addr} {xs : List Nat} {t : TypeId}
theorem Row.nil_ : Row w base k t none 0 0 [] := World.ownsRow_nil _ _ _ _
theorem Row.len (h : Row w base k t A n c xs) : xs.length = n := by have := h.1; rw [cells_length] at this; omega
theorem Row.rl (h : Row w base k t A n c xs) : RL w k A n xs := rl_of_own h
theorem Row.le (h : Row w base k t A n c xs) : n ≤ c ∧ c ≤ maxLen := by
  rcases h.2 with ⟨h1, h0⟩ | ⟨g, cap, cur, hv, _, _, h1, h2, _⟩
  · injection h1 with _ e1 e2; subst e1; subst e2; exact ⟨Nat.le_refl _, by simp [maxLen]⟩
  · injection hv with _ _ e; subst e; exact ⟨h1, h2⟩
theorem Row.alloc (h : Row w base k t A n c xs) (o : Obj) : Row (w.alloc o) base k t A n c xs := World.ownsRow.alloc h o
theorem Row.drewN (h : Row w base k t A n c xs) (m : Nat) : Row (w.drewN m) base k t A n c xs := h
theorem Row.below {B : Nat} (h : Row w base k t A n c xs) (hb : Below B w w') (hB : w.heap.size ≤ B) : Row w' base k t A n c xs :=
  World.ownsRow.kept (row := none) h ⟨hb.os, hb.tape, hb.output, hb.size, fun i hi _ => hb.block i (by omega)⟩ (by cases A <;> simp [Value.ownBlock])
theorem Row.new (w : World) (k : IntKind) (t : TypeId) (hb : base ≤ w.heap.size) : Row (w.alloc (.cells #[] t)) base k t (some ⟨w.heap.size, 0, none⟩) 0 0 [] :=
  World.ownsRow_made w #[] 0 hb (by simp [maxLen]) (by simp)
end

/-- 'append(s, xs...)': s the call's own, xs whatever reads. -/
theorem run_append_rl {P : Program} (w : World) (base : Nat) (t ty e : TypeId) (k : IntKind) (bytes : Nat) (ht : P.underlying t = some (.slice e)) (h2 : (P.info? e).map (fun i => (i.zero, i.size, i.bytes)) = some (some (.int k 0), 1, bytes))
    (S : Option Addr) (n cs : Nat) (xs : List Nat) (hown : Row w base k e S n cs xs) (A : Option Addr) (m c : Nat) (news : List Nat) (hr : RL w k A m news) (hby : bytes ≤ 8) (hN : n + m ≤ 1099511627776) (hbase : base ≤ w.heap.size) :
    ∃ A' c' w', (Builtin.append_ #[t, t] ty #[.slice S n cs, .slice A m c]).run P w = .ok (.slice A' (n + m) c') w' ∧ Row w' base k e A' (n + m) c' (xs ++ news) ∧ Below base w w' ∧ w.heap.size ≤ w'.heap.size := by
  obtain ⟨i, hi, hz, hs, hb⟩ := info_parts h2
  have hcl : ∀ g, (Value.slice S n cs).ownBlock = some g → base ≤ g := fun g hg => (World.ownsRow.lt hown g hg).1
  have hnm : (n + m) * bytes ≤ 140737488355328 := by have : (n + m) * bytes ≤ 1099511627776 * 8 := Nat.mul_le_mul hN hby; omega
  by_cases hm : m = 0
  · subst hm
    have hn : news = [] := List.eq_nil_of_length_eq_zero hr.len
    subst hn
    have hrow : Row w base k e S (n + 0) cs (xs ++ []) := by simpa using hown
    rcases hown.2 with ⟨h1, h0⟩ | ⟨g, cap, cur, h1, _, hg, hnc, _⟩
    · injection h1 with e1 e2 e3
      subst e1; subst e2; subst e3
      cases A with
      | none => exact ⟨none, 0, w, by simp [Builtin.append_, run_underlying ht, sizeOf, typeInfo, hi, Builtin.lenOf, Builtin.firstCells], hrow, Below.refl _ _, Nat.le_refl _⟩
      | some a =>
        obtain ⟨v', w', hrun, r1, r2, r3, _⟩ := run_append_own_at (P := P) w base t ty e i (.int k 0) 1 bytes ht hi hz hs hb rfl (by omega) _ _ _ hown a 0 c [] rfl (by simp) (by simp) (by simp only [maxLen]; omega) hnm hbase
        have hv : v' = .slice none 0 0 := r3.2 ⟨rfl, rfl⟩
        subst hv
        exact ⟨none, 0, w', hrun, by simpa [Row, cells] using r1, (Below.refl _ _).grown r2 hbase (fun j hj => by cases hj), r2.size⟩
    · injection h1 with e1 _ e3
      subst e1; subst e3
      cases A with
      | none => exact ⟨_, _, w, by simp [Builtin.append_, run_underlying ht, sizeOf, typeInfo, hi, Builtin.lenOf, Builtin.firstCells, hnc, storeCells], hrow, Below.refl _ _, Nat.le_refl _⟩
      | some a =>
        obtain ⟨v', w', hrun, r1, r2, r3, _⟩ := run_append_own_at (P := P) w base t ty e i (.int k 0) 1 bytes ht hi hz hs hb rfl (by omega) _ _ _ hown a 0 c [] rfl (by simp) (by simp) (by simp only [maxLen]; omega) hnm hbase
        have hv : ∃ A' c', v' = .slice A' (n + 0) c' := by
          rcases r1.2 with ⟨h, h0⟩ | ⟨g', cap', _, h, _⟩
          · exact ⟨none, 0, by rw [h, h0]⟩
          · exact ⟨_, _, h⟩
        obtain ⟨A', c', rfl⟩ := hv
        exact ⟨A', c', w', hrun, by simpa [Row, cells] using r1, (Below.refl _ _).grown r2 hbase hcl, r2.size⟩
  · obtain ⟨b, o, e', hc⟩ := hr.2 (by omega)
    subst e'
    have hnews : ∀ j u, (cells k news)[j]? = some u → w.cell? ((⟨b, o, none⟩ : Addr).add j) = some u := by
      intro j u hu
      rw [cells_getElem?] at hu
      obtain ⟨x, hx, rfl⟩ := Option.map_eq_some_iff.1 hu
      have ea : (⟨b, o, none⟩ : Addr).add j = ⟨b, o + j, none⟩ := by unfold Addr.add; split <;> simp_all
      rw [ea]
      exact hc j x hx
    obtain ⟨v', w', hrun, r1, r2, _, _⟩ := run_append_own_at (P := P) w base t ty e i (.int k 0) 1 bytes ht hi hz hs hb rfl (by omega) _ _ _ hown ⟨b, o, none⟩ m c (cells k news) (by rw [cells_length, hr.len]; omega) hnews (cells_one k news)
      (by simp only [maxLen]; omega) hnm hbase
    have hv : ∃ A' c', v' = .slice A' (n + m) c' := by
      rcases r1.2 with ⟨h, h0⟩ | ⟨g', cap', _, h, _⟩
      · exact ⟨none, 0, by rw [h, h0]⟩
      · exact ⟨_, _, h⟩
    obtain ⟨A', c', rfl⟩ := hv
    exact ⟨A', c', w', hrun, by unfold Row; rw [cells_append]; exact r1, (Below.refl _ _).grown r2 hbase hcl, r2.size⟩

theorem wpList_append_rl {P : Program} (w : World) {ops : Array Oper} {rest : List Oper} {o : Oper} {a : Act} {Q : Exit → Act → World → Prop} (hgd : o.guard = none) (s x : Operand) (t : TypeId)
    (ho : o.op = .call { callee := .builtin .append, args := #[s, x], argTypes := #[t, t] })
    (base : Nat) (e : TypeId) (k : IntKind) (bytes : Nat) (ht : P.underlying t = some (.slice e)) (h2 : (P.info? e).map (fun i => (i.zero, i.size, i.bytes)) = some (some (.int k 0), 1, bytes))
    (S : Option Addr) (n cs : Nat) (xs : List Nat) (hs : a.eval s = .slice S n cs) (hown : Row w base k e S n cs xs)
    (A : Option Addr) (m c : Nat) (news : List Nat) (hx : a.eval x = .slice A m c) (hr : RL w k A m news) (hby : bytes ≤ 8) (p : Nat) (hp : p = n + m) (hN : p ≤ 1099511627776) (hbase : base ≤ w.heap.size)
    (h : ∀ A' c' w', Row w' base k e A' p c' (xs ++ news) → Below base w w' → w.heap.size ≤ w'.heap.size → wpList P ops Q rest (a.put o.dst (.slice A' p c')) w') : wpList P ops Q (o :: rest) a w :=
  wpList_plain hgd fun K hK => by
    subst hp
    obtain ⟨A', c', w', hrun, h2, h3, h4⟩ := run_append_rl (P := P) w base t o.type e k bytes ht h2 S n cs xs hown A m c news hr hby hN hbase
    unfold Oper.wp execOp
    simp only [ho, resolve, invoke, builtin, Sem.run_bind, Sem.run_pure, Result.andThen_ok, List.map_toArray, List.map_cons, List.map_nil, hs, hx, hrun]
    exact hK _ _ (h A' c' w' h2 h3 h4)
end Go.Proofs.Ytgmdfaamheblmaa

/- Words for boxes: a block of known cells. -/
namespace Go.Proofs.Ytgmdfaamheblmaa
open Go Go.RowKit

/-- Block g is just these cells. -/
def Box (w : World) (g : Nat) (vs : Array Value) (t : TypeId) : Prop := w.heap[g]? = some (.cells vs t (0, 0))
section
variable {w w' : World} {g B : Nat} {vs : Array Value} {t : TypeId} {v : Value}
theorem Box.lt (h : Box w g vs t) : g < w.heap.size := by
  rcases Nat.lt_or_ge g w.heap.size with hlt | hge
  · exact hlt
  · unfold Box at h; rw [Array.getElem?_eq_none hge] at h; cases h
theorem Box.at_ (h : Box w g vs t) (j : Nat) : w.cell? ⟨g, j, none⟩ = vs[j]? := cell_of_row w g j _ t (0, 0) h
theorem Box.cell (h : Box w g #[v] t) : w.cell? ⟨g, 0, none⟩ = some v := by rw [h.at_ 0]; rfl
theorem Box.frozen (h : Box w g vs t) (j : Nat) : w.frozen? ⟨g, j, none⟩ = false := frozen_of_row w g j _ t h
theorem Box.below (h : Box w g vs t) (hb : Below B w w') (hg : g < B) : Box w' g vs t := (hb.block g hg).trans h
theorem Box.below' (h : Box w g vs t) (hb : Below w.heap.size w w') : Box w' g vs t := h.below hb h.lt
theorem Box.far (h : Box w g vs t) {p : Addr} (hp : g ≠ p.block) (u : Value) : Box (w.setCell p u) g vs t := (Below.heap_setCell w p u g hp).trans h
theorem Box.set_ (h : Box w g vs t) (i : Nat) (u : Value) : Box (w.setCell ⟨g, i, none⟩ u) g (vs.setIfInBounds i u) t := by
  unfold Box at h ⊢
  simp [World.setCell, Array.getElem?_modify, h]
theorem Box.put (h : Box w g #[v] t) (u : Value) : Box (w.setCell ⟨g, 0, none⟩ u) g #[u] t := by
  have := h.set_ 0 u
  simpa using this
theorem Box.drewN (h : Box w g vs t) (m : Nat) : Box (w.drewN m) g vs t := h
theorem Box.alloc (h : Box w g vs t) (o : Obj) : Box (w.alloc o) g vs t := (Below.heap_alloc w o g h.lt).trans h
theorem Box.new (w : World) (vs : Array Value) (t : TypeId) : Box (w.alloc (.cells vs t)) w.heap.size vs t := heap_alloc_new w _
end
/-- no cell of a block of other things reads as a number -/
theorem RL.box {w : World} {k : IntKind} {A : Option Addr} {n : Nat} {xs : List Nat} {g i : Nat} {vs : Array Value} {t : TypeId} (h : RL w k A n xs) (hg : Box w g vs t) (hv : ∀ (j : Nat) (x : Int), vs[j]? ≠ some (Value.int k x)) (u : Value) : RL (w.setCell ⟨g, i, none⟩ u) k A n xs := by
  refine ⟨h.1, fun hn => ?_⟩
  obtain ⟨b, o, e, hc⟩ := h.2 hn
  have hne : b ≠ g := by
    rintro rfl
    have hl : 0 < xs.length := by have := h.1; omega
    have := hc 0 xs[0] (List.getElem?_eq_getElem hl)
    rw [hg.at_] at this
    exact hv _ _ this
  exact ⟨b, o, e, fun j x hx => (World.cell?_of_block (a := ⟨b, o + j, none⟩) (Below.heap_setCell w ⟨g, i, none⟩ u b hne)).trans (hc j x hx)⟩
theorem no_int1 {S : Option Addr} {m c : Nat} {k : IntKind} : ∀ (j : Nat) (x : Int), (#[Value.slice S m c] : Array Value)[j]? ≠ some (.int k x) := by
  intro j x h
  rcases j with _ | j
  · simp at h
  · simp at h
theorem RL.put {w : World} {k : IntKind} {A : Option Addr} {n : Nat} {xs : List Nat} {g i : Nat} {S : Option Addr} {m c : Nat} {t : TypeId} (h : RL w k A n xs) (hg : Box w g #[.slice S m c] t) (u : Value) : RL (w.setCell ⟨g, i, none⟩ u) k A n xs := h.box hg no_int1 u

theorem boxes1 {w W : World} {v0 : Value} {t0 : TypeId} (hW : w.alloc (.cells #[v0] t0) = W) : Below w.heap.size w W ∧ Box W w.heap.size #[v0] t0 ∧ W.heap.size = w.heap.size + 1 := by
  subst hW
  exact ⟨(Below.refl _ _).alloc (Nat.le_refl _) _, Box.new _ _ _, by simp⟩
theorem boxes2 {w W : World} {v0 v1 : Value} {t0 t1 : TypeId} (hW : (w.alloc (.cells #[v0] t0)).alloc (.cells #[v1] t1) = W) :
    Below w.heap.size w W ∧ Box W w.heap.size #[v0] t0 ∧ Box W (w.heap.size + 1) #[v1] t1 ∧ W.heap.size = w.heap.size + 2 := by
  obtain ⟨a, b, c⟩ := boxes1 (rfl : w.alloc (.cells #[v0] t0) = _)
  generalize w.alloc (.cells #[v0] t0) = V at *
  subst hW
  refine ⟨a.alloc (by omega) _, b.alloc _, ?_, by simp; omega⟩
  rw [← c]; exact Box.new _ _ _
theorem boxes3 {w W : World} {v0 v1 v2 : Value} {t0 t1 t2 : TypeId} (hW : ((w.alloc (.cells #[v0] t0)).alloc (.cells #[v1] t1)).alloc (.cells #[v2] t2) = W) :
    Below w.heap.size w W ∧ Box W w.heap.size #[v0] t0 ∧ Box W (w.heap.size + 1) #[v1] t1 ∧ Box W (w.heap.size + 2) #[v2] t2 ∧ W.heap.size = w.heap.size + 3 := by
  obtain ⟨a, b, b', c⟩ := boxes2 (rfl : (w.alloc (.cells #[v0] t0)).alloc (.cells #[v1] t1) = _)
  generalize (w.alloc (.cells #[v0] t0)).alloc (.cells #[v1] t1) = V at *
  subst hW
  refine ⟨a.alloc (by omega) _, b.alloc _, b'.alloc _, ?_, by simp; omega⟩
  rw [← c]; exact Box.new _ _ _
theorem boxes4 {w W : World} {v0 v1 v2 v3 : Value} {t0 t1 t2 t3 : TypeId} (hW : (((w.alloc (.cells #[v0] t0)).alloc (.cells #[v1] t1)).alloc (.cells #[v2] t2)).alloc (.cells #[v3] t3) = W) :
    Below w.heap.size w W ∧ Box W w.heap.size #[v0] t0 ∧ Box W (w.heap.size + 1) #[v1] t1 ∧ Box W (w.heap.size + 2) #[v2] t2 ∧ Box W (w.heap.size + 3) #[v3] t3 ∧ W.heap.size = w.heap.size + 4 := by
  obtain ⟨a, b, b', b'', c⟩ := boxes3 (rfl : ((w.alloc (.cells #[v0] t0)).alloc (.cells #[v1] t1)).alloc (.cells #[v2] t2) = _)
  generalize ((w.alloc (.cells #[v0] t0)).alloc (.cells #[v1] t1)).alloc (.cells #[v2] t2) = V at *
  subst hW
  refine ⟨a.alloc (by omega) _, b.alloc _, b'.alloc _, b''.alloc _, ?_, by simp; omega⟩
  rw [← c]; exact Box.new _ _ _
end Go.Proofs.Ytgmdfaamheblmaa

/- Digraphs: closure, order, levels, cycles: the mathematics. -/
namespace Go.Proofs.Ytgmdfaamheblmaa.PM
/-- one step of the closure: paths over k -/
def st (k : Nat) (T : Nat → Nat → Bool) : Nat → Nat → Bool := fun i j => T i j || (T i k && T k j)
def war (T : Nat → Nat → Bool) : Nat → Nat → Nat → Bool
  | 0 => T
  | k + 1 => st k (war T k)
theorem st_iff {k T i j} : st k T i j = true ↔ T i j = true ∨ (T i k = true ∧ T k j = true) := by
  simp [st, Bool.or_eq_true, Bool.and_eq_true]
/-- a way of at least one arc -/
inductive Way (T : Nat → Nat → Bool) : Nat → Nat → Prop
  | arc {i j} : T i j = true → Way T i j
  | cons {i k j} : T i k = true → Way T k j → Way T i j
theorem Way.trans {T i k j} (h : Way T i k) (h2 : Way T k j) : Way T i j := by
  induction h with
  | arc h => exact .cons h h2
  | cons h _ ih => exact .cons h (ih h2)
theorem Way.mono {T U : Nat → Nat → Bool} (h : ∀ i j, T i j = true → Way U i j) {i j} (w : Way T i j) : Way U i j := by
  induction w with
  | arc h1 => exact h _ _ h1
  | cons h1 _ ih => exact (h _ _ h1).trans ih
theorem war_sound (T : Nat → Nat → Bool) : ∀ k i j, war T k i j = true → Way T i j
  | 0, _, _, h => .arc h
  | k + 1, i, j, h => by
    rcases st_iff.1 h with h | ⟨h1, h2⟩
    · exact war_sound T k i j h
    · exact (war_sound T k _ _ h1).trans (war_sound T k _ _ h2)
theorem war_le (T : Nat → Nat → Bool) : ∀ k i j, T i j = true → war T k i j = true
  | 0, _, _, h => h
  | k + 1, i, j, h => st_iff.2 (.inl (war_le T k i j h))
theorem war_trans (T : Nat → Nat → Bool) : ∀ k i m j, m < k → war T k i m = true → war T k m j = true → war T k i j = true
  | 0, _, _, _, h, _, _ => by omega
  | k + 1, i, m, j, h, h1, h2 => by
    have ih := war_trans T k
    rcases Nat.lt_or_ge m k with hm | hm
    · rcases st_iff.1 h1 with a | ⟨a, b⟩
      · rcases st_iff.1 h2 with c | ⟨c, d⟩
        · exact st_iff.2 (.inl (ih i m j hm a c))
        · exact st_iff.2 (.inr ⟨ih i m k hm a c, d⟩)
      · rcases st_iff.1 h2 with c | ⟨c, d⟩
        · exact st_iff.2 (.inr ⟨a, ih k m j hm b c⟩)
        · exact st_iff.2 (.inr ⟨a, d⟩)
    · obtain rfl : m = k := by omega
      have a : war T m i m = true := by
        rcases st_iff.1 h1 with a | ⟨a, _⟩ <;> exact a
      have b : war T m m j = true := by
        rcases st_iff.1 h2 with a | ⟨_, a⟩ <;> exact a
      exact st_iff.2 (.inr ⟨a, b⟩)
/-- all arcs lie among n vertices -/
def Fits (n : Nat) (T : Nat → Nat → Bool) : Prop := ∀ i j, T i j = true → i < n ∧ j < n
theorem Way.fits {n T} (h : Fits n T) {i j} (w : Way T i j) : i < n ∧ j < n := by
  induction w with
  | arc h1 => exact h _ _ h1
  | cons h1 _ ih => exact ⟨(h _ _ h1).1, ih.2⟩
theorem war_iff {n T} (h : Fits n T) {i j} : war T n i j = true ↔ Way T i j := by
  refine ⟨war_sound T n i j, fun w => ?_⟩
  induction w with
  | arc h1 => exact war_le T n _ _ h1
  | cons h1 _ ih => exact war_trans T n _ _ _ (h _ _ h1).2 (war_le T n _ _ h1) ih
theorem war_fits {n T} (h : Fits n T) : Fits n (war T n) := fun _ _ hw => (war_sound T n _ _ hw).fits h
theorem war_tr {n T} (h : Fits n T) {i m j} (h1 : war T n i m = true) (h2 : war T n m j = true) : war T n i j = true :=
  (war_iff h).2 (((war_iff h).1 h1).trans ((war_iff h).1 h2))
theorem war_ext {T U : Nat → Nat → Bool} (h : ∀ i j, T i j = U i j) : ∀ k i j, war T k i j = war U k i j
  | 0, i, j => h i j
  | k + 1, i, j => by
    have ih := war_ext h k
    show st k _ i j = st k _ i j
    unfold st
    rw [ih i j, ih i k, ih k j]
/-! counting -/
def cnt (p : Nat → Bool) : Nat → Nat
  | 0 => 0
  | n + 1 => cnt p n + if p n then 1 else 0
theorem cnt_le {p q : Nat → Bool} : ∀ n, (∀ i, i < n → p i = true → q i = true) → cnt p n ≤ cnt q n
  | 0, _ => Nat.le_refl _
  | n + 1, h => by
    have ih := cnt_le n fun i hi => h i (by omega)
    have h1 := h n (by omega)
    unfold cnt
    by_cases hp : p n = true
    · rw [if_pos hp, if_pos (h1 hp)]; omega
    · rw [if_neg hp]; omega
theorem cnt_lt {p q : Nat → Bool} : ∀ n, (∀ i, i < n → p i = true → q i = true) → (∃ i, i < n ∧ p i = false ∧ q i = true) → cnt p n < cnt q n
  | 0, _, ⟨i, hi, _⟩ => by omega
  | n + 1, h, ⟨i, hi, h1, h2⟩ => by
    unfold cnt
    by_cases e : i = n
    · subst e
      have := cnt_le i fun j hj => h j (by omega)
      rw [h1, h2]; simp; omega
    · have ih := cnt_lt n (fun j hj => h j (by omega)) ⟨i, by omega, h1, h2⟩
      have h3 := h n (by omega)
      by_cases hp : p n = true
      · rw [if_pos hp, if_pos (h3 hp)]; omega
      · rw [if_neg hp]; omega
/-- acyclic: no vertex reaches itself -/
def Acy (n : Nat) (T : Nat → Nat → Bool) : Prop := ∀ i, i < n → war T n i i = false
/-- among the vertices of a set that is closed to the left one is first -/
theorem acy_first {n T} (hT : Fits n T) (ha : Acy n T) (U : Nat → Bool) {u} (hu : u < n) (hU : U u = true) : ∃ i, i < n ∧ U i = true ∧ ∀ p, T p i = true → U p = false := by
  suffices H : ∀ c i, i < n → U i = true → cnt (fun p => U p && war T n p i) n ≤ c → ∃ i, i < n ∧ U i = true ∧ ∀ p, T p i = true → U p = false from H _ u hu hU (Nat.le_refl _)
  intro c
  induction c with
  | zero =>
    intro i hi hUi hc
    refine ⟨i, hi, hUi, fun p hp => ?_⟩
    rcases hpU : U p with _ | _
    · rfl
    · have hpn := (hT p i hp).1
      have := cnt_lt (p := fun _ => false) (q := fun p => U p && war T n p i) n (fun _ _ h => by cases h) ⟨p, hpn, rfl, by simp [hpU, war_le T n _ _ hp]⟩
      omega
  | succ c ih =>
    intro i hi hUi hc
    by_cases hx : ∃ p, T p i = true ∧ U p = true
    · obtain ⟨p, hp, hpU⟩ := hx
      have hpn := (hT p i hp).1
      refine ih p hpn hpU ?_
      have := cnt_lt (p := fun q => U q && war T n q p) (q := fun q => U q && war T n q i) n (fun q hq h => by
        simp only [Bool.and_eq_true] at h ⊢
        exact ⟨h.1, war_tr hT h.2 (war_le T n _ _ hp)⟩) ⟨p, hpn, by simp [ha p hpn], by simp [hpU, war_le T n _ _ hp]⟩
      omega
    · refine ⟨i, hi, hUi, fun p hp => ?_⟩
      rcases hpU : U p with _ | _
      · rfl
      · exact (hx ⟨p, hp, hpU⟩).elim
/-! the first order -/
/-- the vertex i may come next -/
def rdyB (n : Nat) (T : Nat → Nat → Bool) (done : List Nat) (i : Nat) : Bool := !done.contains i && (List.range n).all fun p => !T p i || done.contains p
/-- the least vertex from i on that may come next, n if there is none -/
def leastF (n : Nat) (p : Nat → Bool) : Nat → Nat → Nat
  | 0, _ => n
  | f + 1, i => if p i then i else leastF n p f (i + 1)
def least (n : Nat) (p : Nat → Bool) : Nat := leastF n p n 0
theorem leastF_spec (n : Nat) (p : Nat → Bool) : ∀ f i, i + f = n → (leastF n p f i = n ∧ ∀ j, i ≤ j → j < n → p j = false) ∨ (leastF n p f i < n ∧ i ≤ leastF n p f i ∧ p (leastF n p f i) = true ∧ ∀ j, i ≤ j → j < leastF n p f i → p j = false)
  | 0, i, h => .inl ⟨rfl, fun j h1 h2 => by omega⟩
  | f + 1, i, h => by
    unfold leastF
    split
    · rename_i hp
      exact .inr ⟨by omega, Nat.le_refl _, hp, fun j h1 h2 => by omega⟩
    · rename_i hp
      have hp' : p i = false := by simpa using hp
      rcases leastF_spec n p f (i + 1) (by omega) with ⟨h1, h2⟩ | ⟨h1, h2, h3, h4⟩
      · refine .inl ⟨h1, fun j a b => ?_⟩
        rcases Nat.lt_or_ge i j with c | c
        · exact h2 j (by omega) b
        · obtain rfl : j = i := by omega
          exact hp'
      · refine .inr ⟨h1, by omega, h3, fun j a b => ?_⟩
        rcases Nat.lt_or_ge i j with c | c
        · exact h4 j (by omega) b
        · obtain rfl : j = i := by omega
          exact hp'
theorem least_spec (n : Nat) (p : Nat → Bool) : (least n p = n ∧ ∀ j, j < n → p j = false) ∨ (least n p < n ∧ p (least n p) = true ∧ ∀ j, j < least n p → p j = false) := by
  rcases leastF_spec n p n 0 (by omega) with ⟨h1, h2⟩ | ⟨h1, _, h3, h4⟩
  · exact .inl ⟨h1, fun j h => h2 j (by omega) h⟩
  · exact .inr ⟨h1, h3, fun j h => h4 j (by omega) h⟩
theorem least_uniq {n : Nat} {p : Nat → Bool} {m : Nat} (h : m < n) (hp : p m = true) (hl : ∀ j, j < m → p j = false) : least n p = m := by
  rcases least_spec n p with ⟨_, h2⟩ | ⟨h1, h2, h3⟩
  · rw [h2 m h] at hp; cases hp
  · rcases Nat.lt_trichotomy (least n p) m with a | a | a
    · rw [hl _ a] at h2; cases h2
    · exact a
    · rw [h3 _ a] at hp; cases hp
theorem least_none {n : Nat} {p : Nat → Bool} (h : ∀ j, j < n → p j = false) : least n p = n := by
  rcases least_spec n p with ⟨h1, _⟩ | ⟨h1, h2, _⟩
  · exact h1
  · rw [h _ h1] at h2; cases h2
theorem least_le (n : Nat) (p : Nat → Bool) : least n p ≤ n := by
  rcases least_spec n p with ⟨h, _⟩ | ⟨h, _⟩ <;> omega
def nxt (n : Nat) (T : Nat → Nat → Bool) (done : List Nat) : Nat := least n (rdyB n T done)
/-- the order, made in f rounds at most, behind what is done -/
def ordF (n : Nat) (T : Nat → Nat → Bool) : Nat → List Nat → List Nat
  | 0, d => d
  | f + 1, d => if nxt n T d < n then ordF n T f (d ++ [nxt n T d]) else d
def ord (n : Nat) (T : Nat → Nat → Bool) : List Nat := ordF n T n []
theorem rdy_iff {n T d i} : rdyB n T d i = true ↔ i ∉ d ∧ ∀ p, p < n → T p i = true → p ∈ d := by
  unfold rdyB
  simp only [Bool.and_eq_true, Bool.not_eq_true', List.all_eq_true, List.mem_range, Bool.or_eq_true, List.contains_iff_mem]
  constructor
  · rintro ⟨h1, h2⟩
    refine ⟨fun hm => ?_, fun p hp ht => ?_⟩
    · rw [List.contains_iff_mem.2 hm] at h1; cases h1
    · rcases h2 p hp with h | h
      · rw [ht] at h; cases h
      · exact h
  · rintro ⟨h1, h2⟩
    refine ⟨?_, fun p hp => ?_⟩
    · rcases h : d.contains i with _ | _
      · rfl
      · exact (h1 (List.contains_iff_mem.1 h)).elim
    · rcases ht : T p i with _ | _
      · exact .inl rfl
      · exact .inr (h2 p hp ht)
/-- a good beginning of an order -/
structure Beg (n : Nat) (T : Nat → Nat → Bool) (d : List Nat) : Prop where
  nodup : d.Nodup
  lt : ∀ i ∈ d, i < n
  arcs : ∀ (k : Nat) i, d[k]? = some i → ∀ p, p < n → T p i = true → ∃ m, m < k ∧ d[m]? = some p
theorem Beg.nil {n T} : Beg n T [] := ⟨List.nodup_nil, (fun _ h => nomatch h), (fun _ _ h => nomatch h)⟩
theorem Beg.snoc {n T d i} (h : Beg n T d) (hi : i < n) (hr : rdyB n T d i = true) : Beg n T (d ++ [i]) := by
  obtain ⟨h1, h2⟩ := rdy_iff.1 hr
  refine ⟨?_, ?_, ?_⟩
  · rw [List.nodup_append]
    refine ⟨h.nodup, by simp, ?_⟩
    intro a ha b hb
    simp at hb; subst hb
    intro e; subst e; exact h1 ha
  · intro j hj
    rcases List.mem_append.1 hj with hj | hj
    · exact h.lt j hj
    · simp at hj; subst hj; exact hi
  · intro k j hk p hp ht
    rcases Nat.lt_or_ge k d.length with hkd | hkd
    · rw [List.getElem?_append_left hkd] at hk
      obtain ⟨m, hm, e⟩ := h.arcs k j hk p hp ht
      exact ⟨m, hm, by rw [List.getElem?_append_left (by omega)]; exact e⟩
    · rw [List.getElem?_append_right hkd] at hk
      have : k - d.length = 0 := by
        rcases Nat.eq_zero_or_pos (k - d.length) with h0 | h0
        · exact h0
        · rw [List.getElem?_eq_none (by simp; omega)] at hk; cases hk
      rw [this] at hk
      simp at hk; subst hk
      obtain ⟨m, e⟩ := List.mem_iff_getElem?.1 (h2 p hp ht)
      have hml := (List.getElem?_eq_some_iff.1 e).1
      exact ⟨m, by omega, by rw [List.getElem?_append_left hml]; exact e⟩
theorem nodup_len : ∀ (n : Nat) (d : List Nat), d.Nodup → (∀ i ∈ d, i < n) → d.length ≤ n
  | 0, d, _, h => by
    rcases d with _ | ⟨a, d⟩
    · exact Nat.le_refl _
    · exact absurd (h a List.mem_cons_self) (by omega)
  | n + 1, d, hd, h => by
    have h1 := nodup_len n (d.filter (· ≠ n)) (hd.filter _) (fun i hi => by
      rw [List.mem_filter] at hi
      have := h i hi.1
      have h2 : i ≠ n := by simpa using hi.2
      omega)
    have h3 : d.length ≤ (d.filter (· ≠ n)).length + 1 := by
      clear h1 h
      induction d with
      | nil => simp
      | cons a d ih =>
        rw [List.nodup_cons] at hd
        by_cases e : a = n
        · subst e
          have : d.filter (· ≠ a) = d := by
            rw [List.filter_eq_self]
            intro b hb
            simp
            intro e; subst e; exact hd.1 hb
          rw [List.filter_cons_of_neg (by simp), this]
          simp
        · rw [List.filter_cons_of_pos (by simpa using e)]
          have := ih hd.2
          simp only [List.length_cons]; omega
    omega
theorem Beg.len {n T d} (h : Beg n T d) : d.length ≤ n := nodup_len n d h.nodup h.lt
theorem nxt_spec (n T d) : (nxt n T d = n ∧ ∀ j, j < n → rdyB n T d j = false) ∨ (nxt n T d < n ∧ rdyB n T d (nxt n T d) = true) := by
  rcases least_spec n (rdyB n T d) with h | ⟨h1, h2, _⟩
  · exact .inl h
  · exact .inr ⟨h1, h2⟩
theorem ordF_beg {n T} : ∀ f d, Beg n T d → Beg n T (ordF n T f d)
  | 0, d, h => h
  | f + 1, d, h => by
    unfold ordF
    split
    · rename_i hn
      rcases nxt_spec n T d with ⟨e, _⟩ | ⟨_, hr⟩
      · omega
      · exact ordF_beg f _ (h.snoc hn hr)
    · exact h
/-- with enough rounds, the order ends where nothing may come next -/
theorem ordF_end {n T} : ∀ f d, Beg n T d → n ≤ d.length + f → nxt n T (ordF n T f d) = n
  | 0, d, h, hf => by
    have hl := h.len
    rcases nxt_spec n T d with ⟨e, _⟩ | ⟨h1, h2⟩
    · exact e
    · have := (h.snoc h1 h2).len
      simp at this
      omega
  | f + 1, d, h, hf => by
    unfold ordF
    split
    · rename_i hn
      rcases nxt_spec n T d with ⟨e, _⟩ | ⟨_, hr⟩
      · omega
      · exact ordF_end f _ (h.snoc hn hr) (by simp; omega)
    · rename_i hn
      have := least_le n (rdyB n T d)
      unfold nxt at hn ⊢
      omega
theorem ord_beg (n T) : Beg n T (ord n T) := ordF_beg n [] .nil
/-- a full order: all vertices, and no cycle -/
theorem full_acy {n T d} (hT : Fits n T) (h : Beg n T d) (hl : d.length = n) : Acy n T := by
  have hall : ∀ i, i < n → i ∈ d := by
    intro i hi
    rcases Classical.em (i ∈ d) with h1 | h1
    · exact h1
    · have h2 := nodup_len n (i :: d) (List.nodup_cons.2 ⟨h1, h.nodup⟩) (fun j hj => by
        rcases List.mem_cons.1 hj with rfl | hj
        · exact hi
        · exact h.lt j hj)
      simp at h2
      omega
  have hpos : ∀ {i j}, Way T i j → ∀ k : Nat, d[k]? = some j → ∃ m, m < k ∧ d[m]? = some i := by
    intro i j w
    induction w with
    | arc h1 => exact fun k hk => h.arcs k _ hk _ (hT _ _ h1).1 h1
    | cons h1 _ ih =>
      intro k hk
      obtain ⟨m, hm, e⟩ := ih k hk
      obtain ⟨m2, hm2, e2⟩ := h.arcs m _ e _ (hT _ _ h1).1 h1
      exact ⟨m2, by omega, e2⟩
  intro i hi
  rcases hw : war T n i i with _ | _
  · rfl
  · have w := war_sound T n i i hw
    suffices H : ∀ k : Nat, d[k]? = some i → False by
      obtain ⟨k, e⟩ := List.mem_iff_getElem?.1 (hall i hi)
      exact (H k e).elim
    intro k
    induction k using Nat.strongRecOn with
    | ind k ih =>
      intro hk
      obtain ⟨m, hm, e⟩ := hpos w k hk
      exact ih m hm e
theorem len_all : ∀ (n : Nat) (d : List Nat), (∀ u, u < n → u ∈ d) → n ≤ d.length
  | 0, _, _ => Nat.zero_le _
  | n + 1, d, h => by
    have h1 := len_all n (d.erase n) fun u hu => (List.mem_erase_of_ne (by omega)).2 (h u (by omega))
    have hm := h n (by omega)
    have h2 := List.length_erase_of_mem hm
    have h3 : 0 < d.length := List.length_pos_of_mem hm
    omega
theorem ord_full {n T} (hT : Fits n T) (ha : Acy n T) : (ord n T).length = n := by
  have hb := ord_beg n T
  have he : nxt n T (ord n T) = n := ordF_end n [] .nil (by simp)
  have hl := hb.len
  rcases Nat.lt_or_ge (ord n T).length n with h | h
  · exfalso
    have hx : ∃ u, u < n ∧ u ∉ ord n T := by
      rcases Classical.em (∃ u, u < n ∧ u ∉ ord n T) with h1 | h1
      · exact h1
      · exfalso
        have hall : ∀ u, u < n → u ∈ ord n T := fun u hu => by
          rcases Classical.em (u ∈ ord n T) with h2 | h2
          · exact h2
          · exact (h1 ⟨u, hu, h2⟩).elim
        have := len_all n _ hall
        omega
    obtain ⟨u, hu, hum⟩ := hx
    obtain ⟨i, hi, hUi, hp⟩ := acy_first hT ha (fun i => !(ord n T).contains i) hu (by simpa using hum)
    rcases nxt_spec n T (ord n T) with ⟨_, h2⟩ | ⟨h2, _⟩
    · have := h2 i hi
      have h3 : rdyB n T (ord n T) i = true := rdy_iff.2 ⟨by simpa using hUi, fun p _ ht => by have := hp p ht; simpa using this⟩
      rw [h3] at this; cases this
    · omega
  · omega
theorem ord_acy {n T} (hT : Fits n T) : (ord n T).length = n ↔ Acy n T := ⟨full_acy hT (ord_beg n T), ord_full hT⟩
/-! levels -/
def upd (L : Nat → Nat) (i v : Nat) : Nat → Nat := fun j => if j = i then v else L j
theorem upd_same (L i v) : upd L i v i = v := if_pos rfl
theorem upd_ne {L i v j} (h : j ≠ i) : upd L i v j = L j := if_neg h
/-- a vertex hands its level on -/
def push (n : Nat) (T : Nat → Nat → Bool) (L : Nat → Nat) (i : Nat) : Nat → Nat := fun j => if j < n ∧ T i j = true then max (L j) (L i + 1) else L j
def lvS (n : Nat) (T : Nat → Nat → Bool) (d : List Nat) : Nat → Nat := d.foldl (push n T) fun _ => 0
structure Lev (n : Nat) (T : Nat → Nat → Bool) (L : Nat → Nat) : Prop where
  up : ∀ i j, T i j = true → L i + 1 ≤ L j
  from_ : ∀ j, j < n → L j = 0 ∨ ∃ i, T i j = true ∧ L j = L i + 1
structure LevP (n : Nat) (T : Nat → Nat → Bool) (d : List Nat) (L : Nat → Nat) : Prop where
  up : ∀ i j, i ∈ d → T i j = true → L i + 1 ≤ L j
  from_ : ∀ j, L j = 0 ∨ ∃ i, i ∈ d ∧ T i j = true ∧ L j = L i + 1
theorem Beg.left {n T d e} (h : Beg n T (d ++ e)) : Beg n T d := by
  refine ⟨(List.nodup_append.1 h.nodup).1, fun i hi => h.lt i (List.mem_append_left _ hi), fun k i hk p hp ht => ?_⟩
  have hkl := (List.getElem?_eq_some_iff.1 hk).1
  obtain ⟨m, hm, e1⟩ := h.arcs k i (by rw [List.getElem?_append_left hkl]; exact hk) p hp ht
  exact ⟨m, hm, by rw [List.getElem?_append_left (by omega)] at e1; exact e1⟩
theorem lvP_step {n T d i L} (hT : Fits n T) (h : Beg n T (d ++ [i])) (hL : LevP n T d L) : LevP n T (d ++ [i]) (push n T L i) := by
  have hi : i ∉ d := fun hm => by
    have := (List.nodup_append.1 h.nodup).2.2 i hm i (by simp)
    exact this rfl
  -- no arc leads from i into what is done, nor to i
  have hno : ∀ j, T i j = true → j ∉ d ++ [i] := by
    intro j hj hm
    obtain ⟨k, e⟩ := List.mem_iff_getElem?.1 hm
    obtain ⟨m, hmk, e2⟩ := h.arcs k j e i (hT _ _ hj).1 hj
    have hkl := (List.getElem?_eq_some_iff.1 e).1
    simp at hkl
    have e3 : (d ++ [i])[d.length]? = some i := by simp
    have hml := (List.getElem?_eq_some_iff.1 e2).1
    have := List.pairwise_iff_getElem.1 h.nodup m d.length hml (by simp) (by omega)
    rw [List.getElem?_eq_some_iff] at e2 e3
    exact this (by rw [e2.2, e3.2])
  have hsame : ∀ j, j ∈ d ++ [i] → push n T L i j = L j := by
    intro j hj
    unfold push
    rw [if_neg]
    rintro ⟨_, ht⟩
    exact hno j ht hj
  refine ⟨fun a j ha ht => ?_, fun j => ?_⟩
  · rw [hsame a ha]
    rcases List.mem_append.1 ha with ha | ha
    · have := hL.up a j ha ht
      unfold push
      split <;> omega
    · simp at ha; subst ha
      unfold push
      rw [if_pos ⟨(hT _ _ ht).2, ht⟩]
      omega
  · by_cases hc : j < n ∧ T i j = true
    · by_cases hm : L j < L i + 1
      · refine .inr ⟨i, by simp, hc.2, ?_⟩
        rw [hsame i (by simp)]
        unfold push
        rw [if_pos hc]; omega
      · have e : push n T L i j = L j := by unfold push; rw [if_pos hc]; omega
        rcases hL.from_ j with h0 | ⟨a, ha, ht, e2⟩
        · exact .inl (by rw [e]; exact h0)
        · exact .inr ⟨a, List.mem_append_left _ ha, ht, by rw [e, hsame a (List.mem_append_left _ ha)]; exact e2⟩
    · have e : push n T L i j = L j := by unfold push; rw [if_neg hc]
      rcases hL.from_ j with h0 | ⟨a, ha, ht, e2⟩
      · exact .inl (by rw [e]; exact h0)
      · exact .inr ⟨a, List.mem_append_left _ ha, ht, by rw [e, hsame a (List.mem_append_left _ ha)]; exact e2⟩
theorem snocRec {α : Type} {P : List α → Prop} (h0 : P []) (h1 : ∀ l a, P l → P (l ++ [a])) (l : List α) : P l := by
  rw [← List.reverse_reverse l]
  induction l.reverse with
  | nil => exact h0
  | cons a r ih => rw [List.reverse_cons]; exact h1 _ _ ih
theorem lvS_snoc (n T d i) : lvS n T (d ++ [i]) = push n T (lvS n T d) i := by unfold lvS; rw [List.foldl_append]; rfl
theorem lvP {n T} (hT : Fits n T) (d : List Nat) : Beg n T d → LevP n T d (lvS n T d) := by
  induction d using snocRec with
  | h0 => exact fun _ => ⟨fun _ _ h => (nomatch h), fun _ => .inl rfl⟩
  | h1 l a ih =>
    intro h
    rw [lvS_snoc]
    exact lvP_step hT h (ih h.left)
theorem full_mem {n T d} (h : Beg n T d) (hl : d.length = n) : ∀ i, i < n → i ∈ d := by
  intro i hi
  rcases Classical.em (i ∈ d) with h1 | h1
  · exact h1
  · have h2 := nodup_len n (i :: d) (List.nodup_cons.2 ⟨h1, h.nodup⟩) (fun j hj => by
      rcases List.mem_cons.1 hj with rfl | hj
      · exact hi
      · exact h.lt j hj)
    simp at h2
    omega
theorem lvS_lev {n T d} (hT : Fits n T) (h : Beg n T d) (hl : d.length = n) : Lev n T (lvS n T d) := by
  have hp := lvP hT d h
  exact ⟨fun i j ht => hp.up i j (full_mem h hl i (hT _ _ ht).1) ht, fun j _ => by
    rcases hp.from_ j with h0 | ⟨i, _, h1⟩
    · exact .inl h0
    · exact .inr ⟨i, h1⟩⟩
/-- a level is less than the place in the order -/
theorem lev_lt {n T d L} (hT : Fits n T) (h : Beg n T d) (hL : Lev n T L) : ∀ (k i : Nat), d[k]? = some i → L i ≤ k := by
  intro k
  induction k using Nat.strongRecOn with
  | ind k ih =>
    intro i hk
    rcases hL.from_ i (h.lt i (List.mem_of_getElem? hk)) with h0 | ⟨p, hp, e⟩
    · omega
    · obtain ⟨m, hm, e2⟩ := h.arcs k i hk p (hT _ _ hp).1 hp
      have := ih m hm p e2
      omega
theorem lev_n {n T d L} (hT : Fits n T) (h : Beg n T d) (hl : d.length = n) (hL : Lev n T L) {i} (hi : i < n) : L i < n := by
  obtain ⟨k, e⟩ := List.mem_iff_getElem?.1 (full_mem h hl i hi)
  have := lev_lt hT h hL k i e
  have := (List.getElem?_eq_some_iff.1 e).1
  omega
/-! levels by rounds -/
def relax (L : Nat → Nat) (p : Nat × Nat) : Nat → Nat := upd L p.2 (max (L p.2) (L p.1 + 1))
def round (as : List (Nat × Nat)) (L : Nat → Nat) : Nat → Nat := as.foldl relax L
def rounds (as : List (Nat × Nat)) : Nat → Nat → Nat
  | 0 => fun _ => 0
  | k + 1 => round as (rounds as k)
theorem relax_le (L p j) : L j ≤ relax L p j := by
  unfold relax upd
  split
  · rename_i h; subst h; omega
  · exact Nat.le_refl _
theorem round_le : ∀ (as : List (Nat × Nat)) L j, L j ≤ round as L j
  | [], _, _ => Nat.le_refl _
  | p :: as, L, j => Nat.le_trans (relax_le L p j) (round_le as _ j)
theorem round_up : ∀ (as : List (Nat × Nat)) L p, p ∈ as → L p.1 + 1 ≤ round as L p.2
  | [], _, _, h => nomatch h
  | q :: as, L, p, h => by
    rcases List.mem_cons.1 h with rfl | h
    · refine Nat.le_trans ?_ (round_le as _ _)
      unfold relax
      rw [upd_same]; omega
    · have h1 := round_up as (relax L q) p h
      have h2 := relax_le L q p.1
      exact Nat.le_trans (by omega) h1
theorem relax_b {T n L M} {p : Nat × Nat} (hL : Lev n T M) (hp : T p.1 p.2 = true) (h : ∀ j, L j ≤ M j) : ∀ j, relax L p j ≤ M j := by
  intro j
  unfold relax upd
  split
  · rename_i e; subst e
    have := hL.up _ _ hp
    have := h p.1
    have := h p.2
    omega
  · exact h j
theorem round_b {T n M} (hL : Lev n T M) : ∀ (as : List (Nat × Nat)) L, (∀ p ∈ as, T p.1 p.2 = true) → (∀ j, L j ≤ M j) → ∀ j, round as L j ≤ M j
  | [], _, _, h => h
  | p :: as, _, ha, h => round_b hL as _ (fun q hq => ha q (List.mem_cons_of_mem _ hq)) (relax_b hL (ha p List.mem_cons_self) h)
theorem rounds_b {T n M} (hL : Lev n T M) {as : List (Nat × Nat)} (ha : ∀ p ∈ as, T p.1 p.2 = true) : ∀ k j, rounds as k j ≤ M j
  | 0, _ => Nat.zero_le _
  | k + 1, j => round_b hL as _ ha (rounds_b hL ha k) j
theorem rounds_min {T n M} (hT : Fits n T) (hL : Lev n T M) {as : List (Nat × Nat)} (ha : ∀ i j, T i j = true → (i, j) ∈ as) : ∀ k j, j < n → min (M j) k ≤ rounds as k j
  | 0, _, _ => by omega
  | k + 1, j, hj => by
    rcases hL.from_ j hj with h0 | ⟨i, hi, e⟩
    · omega
    · have h1 := round_up as (rounds as k) (i, j) (ha i j hi)
      have h2 : min (M i) k ≤ rounds as k i := rounds_min hT hL ha k i (hT _ _ hi).1
      show min (M j) (k + 1) ≤ round as (rounds as k) j
      simp only at h1
      omega
/-! lists of arcs of a relation -/
def rowTo (R : Nat → Nat → Bool) (i : Nat) : Nat → List (Nat × Nat)
  | 0 => []
  | j + 1 => rowTo R i j ++ if R i j then [(i, j)] else []
def arcsTo (n : Nat) (R : Nat → Nat → Bool) : Nat → List (Nat × Nat)
  | 0 => []
  | i + 1 => arcsTo n R i ++ rowTo R i n
def listR (n : Nat) (R : Nat → Nat → Bool) : List (Nat × Nat) := arcsTo n R n
theorem mem_rowTo {R i p} : ∀ {j}, p ∈ rowTo R i j ↔ p.1 = i ∧ p.2 < j ∧ R p.1 p.2 = true
  | 0 => by simp [rowTo]
  | j + 1 => by
    unfold rowTo
    rw [List.mem_append, mem_rowTo]
    obtain ⟨a, b⟩ := p
    constructor
    · rintro (⟨h1, h2, h3⟩ | h)
      · exact ⟨h1, by omega, h3⟩
      · split at h
        · simp at h; obtain ⟨rfl, rfl⟩ := h
          rename_i hr
          exact ⟨rfl, by simp, hr⟩
        · cases h
    · rintro ⟨h1, h2, h3⟩
      simp only at h1 h2 h3
      subst h1
      by_cases e : b = j
      · subst e; right; rw [if_pos h3]; simp
      · left; exact ⟨rfl, by simp; omega, h3⟩
theorem mem_arcsTo {n R p} : ∀ {i}, p ∈ arcsTo n R i ↔ p.1 < i ∧ p.2 < n ∧ R p.1 p.2 = true
  | 0 => by simp [arcsTo]
  | i + 1 => by
    unfold arcsTo
    rw [List.mem_append, mem_arcsTo, mem_rowTo]
    constructor
    · rintro (⟨h1, h2, h3⟩ | ⟨h1, h2, h3⟩)
      · exact ⟨by omega, h2, h3⟩
      · exact ⟨by omega, h2, h3⟩
    · rintro ⟨h1, h2, h3⟩
      rcases Nat.lt_or_ge p.1 i with h | h
      · exact .inl ⟨h, h2, h3⟩
      · exact .inr ⟨by omega, h2, h3⟩
theorem mem_listR {n R p} : p ∈ listR n R ↔ p.1 < n ∧ p.2 < n ∧ R p.1 p.2 = true := mem_arcsTo
def ltN (p q : Nat × Nat) : Prop := p.1 < q.1 ∨ (p.1 = q.1 ∧ p.2 < q.2)
theorem rowTo_asc (R i) : ∀ j, (rowTo R i j).Pairwise ltN
  | 0 => List.Pairwise.nil
  | j + 1 => by
    unfold rowTo
    rw [List.pairwise_append]
    refine ⟨rowTo_asc R i j, ?_, fun a ha b hb => ?_⟩
    · split
      · exact List.pairwise_singleton _ _
      · exact List.Pairwise.nil
    · obtain ⟨h1, h2, _⟩ := mem_rowTo.1 ha
      split at hb
      · simp at hb; subst hb
        exact .inr ⟨h1, h2⟩
      · cases hb
theorem arcsTo_asc (n R) : ∀ i, (arcsTo n R i).Pairwise ltN
  | 0 => List.Pairwise.nil
  | i + 1 => by
    unfold arcsTo
    rw [List.pairwise_append]
    refine ⟨arcsTo_asc n R i, rowTo_asc R i n, fun a ha b hb => ?_⟩
    obtain ⟨h1, _⟩ := mem_arcsTo.1 ha
    obtain ⟨h2, _⟩ := mem_rowTo.1 hb
    exact .inl (by omega)
theorem rowTo_ext {R S i} : ∀ {j}, (∀ k, k < j → R i k = S i k) → rowTo R i j = rowTo S i j
  | 0, _ => rfl
  | j + 1, h => by
    unfold rowTo
    rw [rowTo_ext fun k hk => h k (by omega), h j (by omega)]
theorem arcsTo_ext {n R S} : ∀ {i}, (∀ a b, a < i → b < n → R a b = S a b) → arcsTo n R i = arcsTo n S i
  | 0, _ => rfl
  | i + 1, h => by
    unfold arcsTo
    rw [arcsTo_ext fun a b ha hb => h a b (by omega) hb, rowTo_ext fun k hk => h i k (by omega) hk]
theorem listR_ext {n R S} (h : ∀ a b, a < n → b < n → R a b = S a b) : listR n R = listR n S := arcsTo_ext h
theorem listR_inj {n R S} (h : listR n R = listR n S) {a b} (ha : a < n) (hb : b < n) : R a b = S a b := by
  have h1 : (a, b) ∈ listR n R ↔ (a, b) ∈ listR n S := by rw [h]
  rw [mem_listR, mem_listR] at h1
  simp only [ha, hb, true_and] at h1
  exact Bool.eq_iff_iff.2 h1
theorem rowTo_len (R i) : ∀ j, (rowTo R i j).length ≤ j
  | 0 => Nat.le_refl _
  | j + 1 => by
    unfold rowTo
    rw [List.length_append]
    have := rowTo_len R i j
    split <;> simp <;> omega
theorem arcsTo_len (n R) : ∀ i, (arcsTo n R i).length ≤ i * n
  | 0 => by simp [arcsTo]
  | i + 1 => by
    unfold arcsTo
    rw [List.length_append, Nat.succ_mul]
    have := arcsTo_len n R i
    have := rowTo_len R i n
    omega
/-! the closure of a closure, and of a reduction -/
def off (R : Nat → Nat → Bool) : Nat → Nat → Bool := fun i j => !(i == j) && R i j
theorem off_iff {R i j} : off R i j = true ↔ i ≠ j ∧ R i j = true := by simp [off]
theorem clos_again {n T U} (hT : Fits n T) (hU : ∀ i j, U i j = true ↔ off (war T n) i j = true) : ∀ i j, off (war U n) i j = off (war T n) i j := by
  have fU : Fits n U := fun i j h => war_fits hT i j (off_iff.1 ((hU i j).1 h)).2
  intro i j
  rw [Bool.eq_iff_iff, off_iff, off_iff]
  refine ⟨fun ⟨h1, h2⟩ => ⟨h1, ?_⟩, fun ⟨h1, h2⟩ => ⟨h1, war_le U n i j ((hU i j).2 (off_iff.2 ⟨h1, h2⟩))⟩⟩
  refine (war_iff hT).2 (Way.mono (fun a b h => ?_) (war_sound U n i j h2)) |>.trans rfl
  exact (war_iff hT).1 (off_iff.1 ((hU a b).1 h)).2
def red (n : Nat) (W : Nat → Nat → Bool) : Nat → Nat → Bool := fun i j => W i j && !(List.range n).any fun k => W i k && W k j
theorem red_iff {n W i j} : red n W i j = true ↔ W i j = true ∧ ∀ k, k < n → W i k = true → W k j = true → False := by
  unfold red
  rw [Bool.and_eq_true, Bool.not_eq_true', ← Bool.not_eq_true, List.any_eq_true]
  refine and_congr_right fun _ => ⟨fun h k hk a b => h ⟨k, List.mem_range.2 hk, by simp [a, b]⟩, fun h ⟨k, hk, hb⟩ => ?_⟩
  rw [Bool.and_eq_true] at hb
  exact h k (List.mem_range.1 hk) hb.1 hb.2
theorem red_clos {n T U} (hT : Fits n T) (ha : Acy n T) (hU : ∀ i j, U i j = true ↔ red n (war T n) i j = true) : ∀ i j, war U n i j = war T n i j := by
  have fW := war_fits hT
  have fU : Fits n U := fun i j h => fW i j (red_iff.1 ((hU i j).1 h)).1
  have key : ∀ c i j, cnt (fun k => war T n i k && war T n k j) n ≤ c → war T n i j = true → Way U i j := by
    intro c
    induction c with
    | zero =>
      intro i j hc hw
      refine .arc ((hU i j).2 (red_iff.2 ⟨hw, fun k hk a b => ?_⟩))
      have := cnt_lt (p := fun _ => false) (q := fun k => war T n i k && war T n k j) n (fun _ _ h => by cases h) ⟨k, hk, rfl, by simp [a, b]⟩
      omega
    | succ c ih =>
      intro i j hc hw
      by_cases hx : ∃ k, k < n ∧ war T n i k = true ∧ war T n k j = true
      · obtain ⟨k, hk, a, b⟩ := hx
        have h1 := cnt_lt (p := fun m => war T n i m && war T n m k) (q := fun m => war T n i m && war T n m j) n (fun m _ h => by
          simp only [Bool.and_eq_true] at h ⊢
          exact ⟨h.1, war_tr hT h.2 b⟩) ⟨k, hk, by simp [ha k hk], by simp [a, b]⟩
        have h2 := cnt_lt (p := fun m => war T n k m && war T n m j) (q := fun m => war T n i m && war T n m j) n (fun m _ h => by
          simp only [Bool.and_eq_true] at h ⊢
          exact ⟨war_tr hT a h.1, h.2⟩) ⟨k, hk, by simp [ha k hk], by simp [a, b]⟩
        exact (ih i k (by omega) a).trans (ih k j (by omega) b)
      · exact .arc ((hU i j).2 (red_iff.2 ⟨hw, fun k hk a b => hx ⟨k, hk, a, b⟩⟩))
  intro i j
  rw [Bool.eq_iff_iff]
  refine ⟨fun h => (war_iff hT).2 (Way.mono (fun a b h => (war_iff hT).1 (red_iff.1 ((hU a b).1 h)).1) (war_sound U n i j h)), fun h => (war_iff fU).2 (key _ i j (Nat.le_refl _) h)⟩
/-- no arc of a reduction can be left out -/
theorem red_min {n T U x y} (hT : Fits n T) (hU : ∀ i j, U i j = true → red n (war T n) i j = true ∧ (i, j) ≠ (x, y)) (hr : red n (war T n) x y = true) : war U n x y = false := by
  have fU : Fits n U := fun i j h => war_fits hT i j (red_iff.1 (hU i j h).1).1
  have hm : ∀ {i j}, Way U i j → war T n i j = true := fun w => (war_iff hT).2 (Way.mono (fun a b h => (war_iff hT).1 (red_iff.1 (hU a b h).1).1) w)
  rcases hw : war U n x y with _ | _
  · rfl
  · exfalso
    have w := war_sound U n x y hw
    cases w with
    | arc h => exact (hU _ _ h).2 rfl
    | cons h1 h2 =>
      have a := (red_iff.1 (hU _ _ h1).1).1
      exact (red_iff.1 hr).2 _ (war_fits hT _ _ a).2 a (hm h2)
/-! walks of a number of arcs -/
def Wn (T : Nat → Nat → Bool) : Nat → Nat → Nat → Prop
  | 0 => fun i j => i = j
  | k + 1 => fun i j => ∃ m, T i m = true ∧ Wn T k m j
theorem Wn.add {T} : ∀ {a b i m j}, Wn T a i m → Wn T b m j → Wn T (a + b) i j
  | 0, b, i, m, j, h, h2 => by
    obtain rfl : i = m := h
    rwa [Nat.zero_add]
  | a + 1, b, i, m, j, ⟨x, h, h1⟩, h2 => by
    rw [show a + 1 + b = (a + b) + 1 by omega]
    exact ⟨x, h, Wn.add h1 h2⟩
theorem Wn.split {T} : ∀ {a b i j}, Wn T (a + b) i j → ∃ m, Wn T a i m ∧ Wn T b m j
  | 0, b, i, j, h => ⟨i, rfl, by rwa [Nat.zero_add] at h⟩
  | a + 1, b, i, j, h => by
    rw [show a + 1 + b = (a + b) + 1 by omega] at h
    obtain ⟨x, h1, h2⟩ := h
    obtain ⟨m, h3, h4⟩ := Wn.split h2
    exact ⟨m, ⟨x, h1, h3⟩, h4⟩
theorem Wn.one {T i j} (h : T i j = true) : Wn T 1 i j := ⟨j, h, rfl⟩
theorem Wn.snoc {T k i m j} (h : Wn T k i m) (h2 : T m j = true) : Wn T (k + 1) i j := h.add (.one h2)
theorem Wn.way {T} : ∀ {k i j}, Wn T (k + 1) i j → Way T i j
  | 0, i, j, ⟨m, h, e⟩ => by obtain rfl : m = j := e; exact .arc h
  | k + 1, i, j, ⟨m, h, h2⟩ => .cons h h2.way
theorem Way.wn {T i j} (w : Way T i j) : ∃ k, Wn T (k + 1) i j := by
  induction w with
  | arc h => exact ⟨0, .one h⟩
  | cons h _ ih => obtain ⟨k, hk⟩ := ih; exact ⟨k + 1, _, h, hk⟩
theorem Wn.fits {T n} (hT : Fits n T) {k i j} (h : Wn T (k + 1) i j) : i < n ∧ j < n := h.way.fits hT
/-- walks of k + 1 arcs, as a table -/
def we (n : Nat) (T : Nat → Nat → Bool) : Nat → Nat → Nat → Bool
  | 0 => T
  | k + 1 => fun i j => (List.range n).any fun m => we n T k i m && T m j
theorem we_iff {n T} (hT : Fits n T) : ∀ {k i j}, we n T k i j = true ↔ Wn T (k + 1) i j
  | 0, i, j => ⟨fun h => .one h, fun ⟨m, h, e⟩ => by obtain rfl : m = j := e; exact h⟩
  | k + 1, i, j => by
    show (List.range n).any _ = true ↔ _
    rw [List.any_eq_true]
    constructor
    · rintro ⟨m, hm, h⟩
      rw [Bool.and_eq_true, we_iff hT] at h
      exact h.1.snoc h.2
    · intro h
      obtain ⟨m, h1, h2⟩ := Wn.split (a := k + 1) (b := 1) h
      obtain ⟨x, h3, e⟩ := h2
      obtain rfl : x = j := e
      exact ⟨m, List.mem_range.2 (hT _ _ h3).1, by rw [Bool.and_eq_true, we_iff hT]; exact ⟨h1, h3⟩⟩
/-- among n + 1 numbers below n two are the same -/
theorem pigeon (n : Nat) (f : Nat → Nat) (h : ∀ k, k ≤ n → f k < n) : ∃ a b, a < b ∧ b ≤ n ∧ f a = f b := by
  rcases Classical.em (∃ a b, a < b ∧ b ≤ n ∧ f a = f b) with h1 | h1
  · exact h1
  · exfalso
    have := nodup_len n ((List.range (n + 1)).map f) (by
      unfold List.Nodup
      rw [List.pairwise_map]
      refine List.Pairwise.imp_of_mem ?_ List.pairwise_lt_range
      intro a b ha hb hab e
      exact h1 ⟨a, b, hab, by have := List.mem_range.1 hb; omega, e⟩) (by
      intro i hi
      obtain ⟨k, hk, rfl⟩ := List.mem_map.1 hi
      exact h k (by have := List.mem_range.1 hk; omega))
    simp at this
    omega
/-- a digraph that is not acyclic has a closed walk of at most n arcs -/
theorem short_cycle {n T} (hT : Fits n T) (h : ¬Acy n T) : ∃ k i, k < n ∧ Wn T (k + 1) i i := by
  have hx : ∃ i, Way T i i := by
    rcases Classical.em (∃ i, Way T i i) with h1 | h1
    · exact h1
    · exfalso
      refine h fun i hi => ?_
      rcases hw : war T n i i with _ | _
      · rfl
      · exact (h1 ⟨i, war_sound T n i i hw⟩).elim
  have nx : ∀ x : { x // Way T x x }, ∃ y : { x // Way T x x }, T x.1 y.1 = true := by
    rintro ⟨x, w⟩
    have hw := w
    cases w with
    | arc h => exact ⟨⟨x, hw⟩, h⟩
    | cons h1 h2 => exact ⟨⟨_, h2.trans (.arc h1)⟩, h1⟩
  obtain ⟨i, hi⟩ := hx
  obtain ⟨g, hf⟩ : ∃ g : { x // Way T x x } → { x // Way T x x }, ∀ x, T x.1 (g x).1 = true := ⟨fun x => Classical.choose (nx x), fun x => Classical.choose_spec (nx x)⟩
  let f : Nat → { x // Way T x x } := fun k => Nat.rec ⟨i, hi⟩ (fun _ x => g x) k
  have hs : ∀ k, T (f k).1 (f (k + 1)).1 = true := fun k => hf (f k)
  have hwk : ∀ m k, Wn T m (f k).1 (f (k + m)).1 := by
    intro m
    induction m with
    | zero => exact fun k => rfl
    | succ m ih => exact fun k => (ih k).snoc (hs (k + m))
  obtain ⟨a, b, hab, hb, e⟩ := pigeon n (fun k => (f k).1) (fun k _ => ((f k).2.fits hT).1)
  refine ⟨b - a - 1, (f a).1, by omega, ?_⟩
  have := hwk (b - a) a
  rw [show a + (b - a) = b by omega] at this
  rw [show b - a - 1 + 1 = b - a by omega]
  rw [show (f a).1 = (f b).1 from e] at this ⊢
  exact this
/-- K + 1 arcs are the fewest of a closed walk, and s is the least vertex of such a one -/
structure Fewest (T : Nat → Nat → Bool) (K s : Nat) : Prop where
  few : ∀ l, l < K → ∀ i, ¬Wn T (l + 1) i i
  at_ : Wn T (K + 1) s s
  least : ∀ i, i < s → ¬Wn T (K + 1) i i
theorem Fewest.rot {T K s a b x} (h : Fewest T K s) (h1 : Wn T a s x) (h2 : Wn T b x s) (e : a + b = K + 1) : s ≤ x ∧ (0 < a → 0 < b → s < x) := by
  have hr : Wn T (K + 1) x x := by rw [← e, Nat.add_comm]; exact h2.add h1
  have hs : s ≤ x := by
    rcases Nat.lt_or_ge x s with hx | hx
    · exact (h.least x hx hr).elim
    · exact hx
  refine ⟨hs, fun ha hb => ?_⟩
  rcases Nat.lt_or_ge s x with hx | hx
  · exact hx
  · obtain rfl : x = s := by omega
    obtain ⟨a, rfl⟩ : ∃ c, a = c + 1 := ⟨a - 1, by omega⟩
    exact (h.few a (by omega) x h1).elim
/-- walks to s over vertices from s on -/
def Rn (T : Nat → Nat → Bool) (s : Nat) : Nat → Nat → Prop
  | 0 => fun i => i = s
  | k + 1 => fun i => s ≤ i ∧ ∃ x, s ≤ x ∧ T i x = true ∧ Rn T s k x
theorem Rn.wn {T s} : ∀ {k i}, Rn T s k i → Wn T k i s
  | 0, _, h => h
  | _ + 1, _, ⟨_, x, _, h, h2⟩ => ⟨x, h, h2.wn⟩
theorem Rn.le {T s} : ∀ {k i}, Rn T s k i → s ≤ i
  | 0, _, h => Nat.le_of_eq (Eq.symm h)
  | _ + 1, _, ⟨h, _⟩ => h
theorem Fewest.rn {T K s} (h : Fewest T K s) : ∀ {b a x}, Wn T a s x → Wn T b x s → a + b = K + 1 → Rn T s b x
  | 0, _, _, _, h2, _ => h2
  | b + 1, a, x, h1, h2, e => by
    have hx := (h.rot h1 h2 e).1
    obtain ⟨y, hy, hy2⟩ := h2
    have hr := h.rn (h1.snoc hy) hy2 (by omega)
    exact ⟨hx, y, hr.le, hy, hr⟩
/-- the distance to s, over vertices from s on -/
def Dist (T : Nat → Nat → Bool) (s l i : Nat) : Prop := Rn T s l i ∧ ∀ m, m < l → ¬Rn T s m i
theorem Fewest.dist {T K s a b x} (h : Fewest T K s) (h1 : Wn T a s x) (h2 : Wn T b x s) (e : a + b = K + 1) (ha : 0 < a) : Dist T s b x := by
  refine ⟨h.rn h1 h2 e, fun m hm hr => ?_⟩
  have := h1.add hr.wn
  obtain ⟨c, hc⟩ : ∃ c, a + m = c + 1 := ⟨a + m - 1, by omega⟩
  rw [hc] at this
  exact h.few c (by omega) s this
/-! the program's cycle -/
def pathP (n : Nat) (T : Nat → Nat → Bool) (s : Nat) : Nat → Nat → List Nat
  | 0, _ => []
  | k + 1, last => least n (fun i => T last i && we n T k i s) :: pathP n T s k (least n fun i => T last i && we n T k i s)
def startP (n : Nat) (T : Nat → Nat → Bool) (k : Nat) : Nat := least n fun i => we n T k i i
def lenP (n : Nat) (T : Nat → Nat → Bool) : Nat := least n fun k => decide (startP n T k < n)
def cycP (n : Nat) (T : Nat → Nat → Bool) : List Nat := if lenP n T < n then startP n T (lenP n T) :: pathP n T (startP n T (lenP n T)) (lenP n T) (startP n T (lenP n T)) else []
theorem lenP_fewest {n T} (hT : Fits n T) (h : lenP n T < n) : startP n T (lenP n T) < n ∧ Fewest T (lenP n T) (startP n T (lenP n T)) := by
  rcases least_spec n (fun k => decide (startP n T k < n)) with ⟨e, _⟩ | ⟨_, h2, h3⟩
  · unfold lenP at h; omega
  · change decide (startP n T (lenP n T) < n) = true at h2
    change ∀ j, j < lenP n T → _ at h3
    have h2 := of_decide_eq_true h2
    refine ⟨h2, fun l hl i hw => ?_, ?_, fun i hi hw => ?_⟩
    · have := of_decide_eq_false (h3 l hl)
      rcases least_spec n (fun i => we n T l i i) with ⟨_, h4⟩ | ⟨h4, _⟩
      · have := h4 i (hw.fits hT).1
        rw [(we_iff hT).2 hw] at this; cases this
      · exact this h4
    · rcases least_spec n (fun i => we n T (lenP n T) i i) with ⟨h4, _⟩ | ⟨_, h5, _⟩
      · unfold startP at h2; omega
      · exact (we_iff hT).1 h5
    · rcases least_spec n (fun i => we n T (lenP n T) i i) with ⟨h4, _⟩ | ⟨_, _, h5⟩
      · unfold startP at h2; omega
      · have := h5 i hi
        rw [(we_iff hT).2 hw] at this; cases this
theorem lenP_acy {n T} (hT : Fits n T) : lenP n T < n ↔ ¬Acy n T := by
  constructor
  · intro h ha
    obtain ⟨h1, h2⟩ := lenP_fewest hT h
    have := (war_iff hT).2 h2.at_.way
    rw [ha _ h1] at this; cases this
  · intro h
    obtain ⟨k, i, hk, hw⟩ := short_cycle hT h
    rcases least_spec n (fun k => decide (startP n T k < n)) with ⟨_, h2⟩ | ⟨h1, _⟩
    · exfalso
      have := of_decide_eq_false (h2 k hk)
      rcases least_spec n (fun i => we n T k i i) with ⟨_, h4⟩ | ⟨h4, _⟩
      · have := h4 i (hw.fits hT).1
        rw [(we_iff hT).2 hw] at this; cases this
      · exact this h4
    · exact h1
theorem pathP_len (n T s) : ∀ k last, (pathP n T s k last).length = k
  | 0, _ => rfl
  | k + 1, last => by show (_ :: pathP n T s k _).length = _; rw [List.length_cons, pathP_len]
/-- the next vertex of the way back -/
theorem path_next {n T s k at_} (hT : Fits n T) (h : Wn T (k + 2) at_ s) : ∃ x, least n (fun i => T at_ i && we n T k i s) = x ∧ x < n ∧ T at_ x = true ∧ Wn T (k + 1) x s := by
  obtain ⟨x, h1, h2⟩ := h
  rcases least_spec n (fun i => T at_ i && we n T k i s) with ⟨_, h4⟩ | ⟨h4, h5, _⟩
  · have := h4 x (hT _ _ h1).2
    rw [h1, (we_iff hT).2 h2] at this; cases this
  · rw [Bool.and_eq_true, we_iff hT] at h5
    exact ⟨_, rfl, h4, h5.1, h5.2⟩
/-- the way back: its vertices follow one another, and lie above the start -/
theorem pathP_ok {n T K s} (hT : Fits n T) (h : Fewest T K s) : ∀ k at_ a, Wn T a s at_ → Wn T (k + 1) at_ s → a + k = K →
    (∀ (j x y : Nat), (at_ :: pathP n T s k at_)[j]? = some x → (at_ :: pathP n T s k at_)[j + 1]? = some y → T x y = true) ∧
    (∀ x, x ∈ pathP n T s k at_ → s < x ∧ x < n) ∧ (∃ z, (at_ :: pathP n T s k at_)[k]? = some z ∧ T z s = true)
  | 0, at_, a, h1, ⟨m, h2, e⟩, _ => by
    obtain rfl : m = s := e
    exact ⟨fun j x y hx hy => by simp [pathP] at hy, (fun x hx => nomatch hx), at_, rfl, h2⟩
  | k + 1, at_, a, h1, h2, e => by
    obtain ⟨x, hx, hxn, ht, hw⟩ := path_next hT h2
    have h3 := h1.snoc ht
    obtain ⟨r1, r2, z, r3, r4⟩ := pathP_ok hT h k x (a + 1) h3 hw (by omega)
    have hp : pathP n T s (k + 1) at_ = x :: pathP n T s k x := by show _ :: pathP n T s k _ = _; rw [hx]
    rw [hp]
    refine ⟨fun j u v hu hv => ?_, fun u hu => ?_, z, by rw [List.getElem?_cons_succ]; exact r3, r4⟩
    · rcases j with _ | j
      · simp at hu hv; subst hu; subst hv; exact ht
      · rw [List.getElem?_cons_succ] at hu hv
        exact r1 j u v hu hv
    · rcases List.mem_cons.1 hu with rfl | hu
      · exact ⟨(h.rot h3 hw (by omega)).2 (by omega) (by omega), hxn⟩
      · exact r2 u hu
/-! the distances by rounds -/
def updI (o : Nat → Int) (i : Nat) (v : Int) : Nat → Int := fun j => if j = i then v else o j
def frelax (s k : Nat) (o : Nat → Int) (p : Nat × Nat) : Nat → Int := if s ≤ p.1 ∧ s ≤ p.2 ∧ o p.1 < 0 ∧ o p.2 = (k : Int) then updI o p.1 ((k : Int) + 1) else o
def fround (as : List (Nat × Nat)) (s k : Nat) (o : Nat → Int) : Nat → Int := as.foldl (frelax s k) o
def far (as : List (Nat × Nat)) (s : Nat) : Nat → Nat → Int
  | 0 => fun i => if i = s then 0 else -1
  | k + 1 => fround as s k (far as s k)
def FInv (T : Nat → Nat → Bool) (s k : Nat) (o : Nat → Int) : Prop := ∀ i, (∃ l : Nat, l ≤ k ∧ o i = (l : Int) ∧ Dist T s l i) ∨ (o i = -1 ∧ ∀ l, l ≤ k → ¬Rn T s l i)
def FInvP (T : Nat → Nat → Bool) (s k : Nat) (as : List (Nat × Nat)) (o : Nat → Int) : Prop := ∀ i, (∃ l : Nat, l ≤ k + 1 ∧ o i = (l : Int) ∧ Dist T s l i) ∨ (o i = -1 ∧ (∀ l, l ≤ k → ¬Rn T s l i) ∧ ∀ p ∈ as, p.1 = i → s ≤ p.1 → s ≤ p.2 → ¬Dist T s k p.2)
theorem Dist.uniq {T s l m i} (h : Dist T s l i) (h2 : Dist T s m i) : l = m := by
  rcases Nat.lt_trichotomy l m with a | a | a
  · exact (h2.2 l a h.1).elim
  · exact a
  · exact (h.2 m a h2.1).elim
theorem frelax_inv {T s k as o p} (hp : T p.1 p.2 = true) (h : FInvP T s k as o) : FInvP T s k (as ++ [p]) (frelax s k o p) := by
  unfold frelax
  by_cases hc : s ≤ p.1 ∧ s ≤ p.2 ∧ o p.1 < 0 ∧ o p.2 = (k : Int)
  · rw [if_pos hc]
    obtain ⟨c1, c2, c3, c4⟩ := hc
    intro i
    by_cases e : i = p.1
    · subst e
      left
      refine ⟨k + 1, Nat.le_refl _, by unfold updI; rw [if_pos rfl]; rfl, ?_⟩
      rcases h p.1 with ⟨l, _, e, _⟩ | ⟨_, h1, _⟩
      · omega
      · rcases h p.2 with ⟨l, _, e, hd⟩ | ⟨e, _⟩
        · obtain rfl : l = k := by omega
          exact ⟨⟨c1, p.2, c2, hp, hd.1⟩, fun m hm => h1 m (by omega)⟩
        · omega
    · have eo : updI o p.1 ((k : Int) + 1) i = o i := if_neg e
      rw [eo]
      rcases h i with h1 | ⟨h1, h2, h3⟩
      · exact .inl h1
      · refine .inr ⟨h1, h2, fun q hq he => ?_⟩
        rcases List.mem_append.1 hq with hq | hq
        · exact h3 q hq he
        · simp at hq; subst hq; exact absurd he.symm e
  · rw [if_neg hc]
    intro i
    rcases h i with h1 | ⟨h1, h2, h3⟩
    · exact .inl h1
    · refine .inr ⟨h1, h2, fun q hq he a b hd => ?_⟩
      rcases List.mem_append.1 hq with hq | hq
      · exact h3 q hq he a b hd
      · simp at hq; subst hq
        refine hc ⟨a, b, by rw [he, h1]; decide, ?_⟩
        rcases h q.2 with ⟨l, _, e, hd2⟩ | ⟨_, h4, _⟩
        · obtain rfl := hd.uniq hd2
          exact e
        · exact (h4 k (Nat.le_refl _) hd.1).elim
theorem fround_inv {T s k o} (as : List (Nat × Nat)) (ha : ∀ p ∈ as, T p.1 p.2 = true) (h : FInv T s k o) : FInvP T s k as (fround as s k o) := by
  induction as using snocRec with
  | h0 =>
    intro i
    rcases h i with ⟨l, hl, e, hd⟩ | ⟨h1, h2⟩
    · exact .inl ⟨l, by omega, e, hd⟩
    · exact .inr ⟨h1, h2, fun _ h => nomatch h⟩
  | h1 l a ih =>
    unfold fround
    rw [List.foldl_append]
    exact frelax_inv (ha a (by simp)) (ih fun p hp => ha p (List.mem_append_left _ hp))
theorem far_inv {T s} {as : List (Nat × Nat)} (ha : ∀ p, p ∈ as ↔ T p.1 p.2 = true) : ∀ k, FInv T s k (far as s k)
  | 0 => fun i => by
    show (∃ l : Nat, l ≤ 0 ∧ (if i = s then (0 : Int) else -1) = (l : Int) ∧ _) ∨ ((if i = s then (0 : Int) else -1) = -1 ∧ _)
    by_cases e : i = s
    · rw [if_pos e]
      exact .inl ⟨0, Nat.le_refl _, rfl, e, fun m hm => by omega⟩
    · rw [if_neg e]
      refine .inr ⟨rfl, fun l hl hr => ?_⟩
      obtain rfl : l = 0 := by omega
      exact e hr
  | k + 1 => fun i => by
    rcases fround_inv as (fun p hp => (ha p).1 hp) (far_inv ha k) i with ⟨l, hl, e, hd⟩ | ⟨h1, h2, h3⟩
    · exact .inl ⟨l, hl, e, hd⟩
    · refine .inr ⟨h1, fun l hl hr => ?_⟩
      rcases Nat.lt_or_ge l (k + 1) with hlt | hge
      · exact h2 l (by omega) hr
      · obtain rfl : l = k + 1 := by omega
        have hle := hr.le
        obtain ⟨_, x, hx, ht, hrx⟩ := hr
        refine h3 (i, x) ((ha _).2 ht) rfl hle hx ⟨hrx, fun m hm hr2 => ?_⟩
        exact h2 (m + 1) (by omega) ⟨hle, x, hx, ht, hr2⟩
theorem far_iff {T s} {as : List (Nat × Nat)} (ha : ∀ p, p ∈ as ↔ T p.1 p.2 = true) {k l i : Nat} (hl : l ≤ k) : far as s k i = (l : Int) ↔ Dist T s l i := by
  rcases far_inv ha k (s := s) i with ⟨m, hm, e, hd⟩ | ⟨e, h2⟩
  · rw [e]
    refine ⟨fun h => ?_, fun h => ?_⟩
    · obtain rfl : m = l := by omega
      exact hd
    · rw [h.uniq hd]
  · rw [e]
    refine ⟨fun h => by omega, fun h => (h2 l hl h.1).elim⟩
theorem far_cases {T s} {as : List (Nat × Nat)} (ha : ∀ p, p ∈ as ↔ T p.1 p.2 = true) (k i : Nat) : far as s k i = -1 ∨ ∃ l : Nat, l ≤ k ∧ far as s k i = (l : Int) ∧ Dist T s l i := by
  rcases far_inv ha k (s := s) i with h | ⟨e, _⟩
  · exact .inr h
  · exact .inl e
/-! the reference's cycle -/
def lstep (v : Nat) (d : Nat → Int) (m : Int) (p : Nat × Nat) : Int := if p.1 = v ∧ v < p.2 ∧ 0 < d p.2 ∧ (m < 0 ∨ d p.2 + 1 < m) then d p.2 + 1 else m
def leastR (as : List (Nat × Nat)) (v : Nat) (d : Nat → Int) : Int := as.foldl (lstep v d) (-1)
def stepR (as : List (Nat × Nat)) (v : Nat) (d : Nat → Int) (left : Nat) (at_ : Nat) : Nat :=
  match as.find? (fun p => p.1 == at_ && decide (v < p.2) && (d p.2 == (left : Int))) with
  | some p => p.2
  | none => at_
def pathR (as : List (Nat × Nat)) (v : Nat) (d : Nat → Int) : Nat → Nat → List Nat
  | 0, _ => []
  | left + 1, at_ => stepR as v d (left + 1) at_ :: pathR as v d left (stepR as v d (left + 1) at_)
def bstep (as : List (Nat × Nat)) (n : Nat) (best : List Nat) (v : Nat) : List Nat :=
  let m := leastR as v (far as v n)
  if m < 0 ∨ (0 < best.length ∧ (best.length : Int) ≤ m) then best else v :: pathR as v (far as v n) (m.toNat - 1) v
def bestTo (as : List (Nat × Nat)) (n : Nat) : Nat → List Nat
  | 0 => []
  | v + 1 => bstep as n (bestTo as n v) v
theorem pathR_len (as v d) : ∀ k at_, (pathR as v d k at_).length = k
  | 0, _ => rfl
  | k + 1, at_ => by show (_ :: pathR as v d k _).length = _; rw [List.length_cons, pathR_len]
theorem leastR_ok (as : List (Nat × Nat)) (v : Nat) (d : Nat → Int) : (leastR as v d = -1 ∧ ∀ p ∈ as, p.1 = v → v < p.2 → ¬0 < d p.2) ∨
    ((∃ p, p ∈ as ∧ p.1 = v ∧ v < p.2 ∧ 0 < d p.2 ∧ leastR as v d = d p.2 + 1) ∧ ∀ p ∈ as, p.1 = v → v < p.2 → 0 < d p.2 → leastR as v d ≤ d p.2 + 1) := by
  induction as using snocRec with
  | h0 => exact .inl ⟨rfl, fun _ h => nomatch h⟩
  | h1 l a ih =>
    have e : leastR (l ++ [a]) v d = lstep v d (leastR l v d) a := by unfold leastR; rw [List.foldl_append]; rfl
    rw [e]
    unfold lstep
    by_cases hc : a.1 = v ∧ v < a.2 ∧ 0 < d a.2 ∧ (leastR l v d < 0 ∨ d a.2 + 1 < leastR l v d)
    · rw [if_pos hc]
      obtain ⟨c1, c2, c3, c4⟩ := hc
      right
      refine ⟨⟨a, by simp, c1, c2, c3, rfl⟩, fun p hp h1 h2 h3 => ?_⟩
      rcases List.mem_append.1 hp with hp | hp
      · rcases ih with ⟨_, ih⟩ | ⟨_, ih⟩
        · exact (ih p hp h1 h2 h3).elim
        · have := ih p hp h1 h2 h3
          omega
      · simp at hp; subst hp; omega
    · rw [if_neg hc]
      rcases ih with ⟨i1, i2⟩ | ⟨⟨q, i1, i2, i3, i4, i5⟩, i6⟩
      · refine .inl ⟨i1, fun p hp h1 h2 h3 => ?_⟩
        rcases List.mem_append.1 hp with hp | hp
        · exact i2 p hp h1 h2 h3
        · simp at hp; subst hp
          exact hc ⟨h1, h2, h3, .inl (by omega)⟩
      · refine .inr ⟨⟨q, List.mem_append_left _ i1, i2, i3, i4, i5⟩, fun p hp h1 h2 h3 => ?_⟩
        rcases List.mem_append.1 hp with hp | hp
        · exact i6 p hp h1 h2 h3
        · simp at hp; subst hp
          rcases Int.lt_or_le (d p.2 + 1) (leastR l v d) with h4 | h4
          · exact (hc ⟨h1, h2, h3, .inr h4⟩).elim
          · exact h4
/-- what the reference finds at v is a closed walk there -/
theorem leastR_walk {n T v} {as : List (Nat × Nat)} (ha : ∀ p, p ∈ as ↔ T p.1 p.2 = true) : leastR as v (far as v n) = -1 ∨ ∃ l : Nat, leastR as v (far as v n) = (l : Int) + 2 ∧ Wn T (l + 2) v v := by
  rcases leastR_ok as v (far as v n) with ⟨h, _⟩ | ⟨⟨p, h1, h2, h3, h4, h5⟩, _⟩
  · exact .inl h
  · right
    rcases far_cases ha (s := v) n p.2 with e | ⟨l, hl, e, hd⟩
    · rw [e] at h4; exact absurd h4 (by decide)
    · obtain ⟨l, rfl⟩ : ∃ c, l = c + 1 := ⟨l - 1, by omega⟩
      refine ⟨l, by rw [h5, e]; omega, ?_⟩
      have ht := (ha p).1 h1
      rw [h2] at ht
      exact ⟨p.2, ht, hd.1.wn⟩
theorem leastR_fewest {n T K s} {as : List (Nat × Nat)} (ha : ∀ p, p ∈ as ↔ T p.1 p.2 = true) (hK : K ≤ n) (h : Fewest T K s) (hno : ∀ i, T i i = false) : leastR as s (far as s n) = (K : Int) + 1 := by
  have hw := h.at_
  obtain ⟨x, ht, hx⟩ := hw
  have hK0 : 0 < K := by
    rcases Nat.eq_zero_or_pos K with h0 | h0
    · subst h0
      obtain rfl : x = s := hx
      rw [hno] at ht; cases ht
    · exact h0
  have h1 : Wn T 1 s x := .one ht
  have hxs := (h.rot h1 hx (by omega)).2 (by omega) hK0
  have hd := h.dist h1 hx (by omega) (by omega)
  have hf := (far_iff ha (k := n) hK).2 hd
  rcases leastR_ok as s (far as s n) with ⟨_, h2⟩ | ⟨_, h2⟩
  · exact (h2 (s, x) ((ha _).2 ht) rfl hxs (by show 0 < far as s n x; omega)).elim
  · have h3 := h2 (s, x) ((ha _).2 ht) rfl hxs (by show 0 < far as s n x; omega)
    simp only [hf] at h3
    rcases leastR_walk (n := n) (v := s) ha with h4 | ⟨l, h4, h5⟩
    · rcases leastR_ok as s (far as s n) with ⟨_, h6⟩ | ⟨⟨p, _, _, _, h6, h7⟩, _⟩
      · exact (h6 (s, x) ((ha _).2 ht) rfl hxs (by show 0 < far as s n x; omega)).elim
      · omega
    · rcases Nat.lt_or_ge (l + 1) K with h6 | h6
      · exact (h.few (l + 1) h6 s h5).elim
      · omega
theorem find_least {n : Nat} {T : Nat → Nat → Bool} {at_ : Nat} {q : Nat → Bool} : ∀ (as : List (Nat × Nat)), as.Pairwise ltN → ∀ m, (at_, m) ∈ as → q m = true → (∀ p ∈ as, p.1 = at_ → q p.2 = true → m ≤ p.2) → as.find? (fun p => p.1 == at_ && q p.2) = some (at_, m)
  | [], _, _, h, _, _ => nomatch h
  | p :: as, hs, m, h, hq, hl => by
    rw [List.pairwise_cons] at hs
    by_cases hp : p.1 = at_ ∧ q p.2 = true
    · rw [List.find?_cons_of_pos (by simp [hp])]
      have h1 := hl p List.mem_cons_self hp.1 hp.2
      rcases List.mem_cons.1 h with h2 | h2
      · rw [h2]
      · have h3 := hs.1 _ h2
        unfold ltN at h3
        simp only at h3
        omega
    · rw [List.find?_cons_of_neg (by simpa using hp)]
      refine find_least (n := n) (T := T) as hs.2 m ?_ hq fun p' hp' => hl p' (List.mem_cons_of_mem _ hp')
      rcases List.mem_cons.1 h with h2 | h2
      · exact (hp (by rw [← h2]; exact ⟨rfl, hq⟩)).elim
      · exact h2
theorem path_eq {n T K s} {as : List (Nat × Nat)} (hT : Fits n T) (ha : ∀ p, p ∈ as ↔ T p.1 p.2 = true) (hs : as.Pairwise ltN) (hK : K ≤ n) (h : Fewest T K s) : ∀ k at_ a, Wn T a s at_ → Wn T (k + 1) at_ s → a + k = K → pathR as s (far as s n) k at_ = pathP n T s k at_
  | 0, _, _, _, _, _ => rfl
  | k + 1, at_, a, h1, h2, e => by
    obtain ⟨x, hx, hxn, ht, hw⟩ := path_next hT h2
    have key : ∀ i, T at_ i = true → ((decide (s < i) && (far as s n i == ((k + 1 : Nat) : Int))) = true ↔ Wn T (k + 1) i s) := by
      intro i hi
      rw [Bool.and_eq_true, decide_eq_true_iff, beq_iff_eq, far_iff ha (by omega)]
      constructor
      · exact fun ⟨_, hd⟩ => hd.1.wn
      · intro hwi
        have h3 := h1.snoc hi
        exact ⟨(h.rot h3 hwi (by omega)).2 (by omega) (by omega), h.dist h3 hwi (by omega) (by omega)⟩
    have hst : stepR as s (far as s n) (k + 1) at_ = x := by
      unfold stepR
      have := find_least (n := n) (T := T) (at_ := at_) (q := fun i => decide (s < i) && (far as s n i == ((k + 1 : Nat) : Int))) as hs x ((ha _).2 ht) ((key x ht).2 hw) (fun p hp e1 hq => by
        have htp := (ha p).1 hp
        rw [e1] at htp
        have hwp := (key p.2 htp).1 hq
        rcases least_spec n (fun i => T at_ i && we n T k i s) with ⟨e2, _⟩ | ⟨_, _, h5⟩
        · omega
        · rw [hx] at h5
          rcases Nat.lt_or_ge p.2 x with h6 | h6
          · have := h5 p.2 h6
            rw [htp, (we_iff hT).2 hwp] at this; cases this
          · exact h6)
      simp only [Bool.and_assoc]
      rw [this]
    show stepR as s (far as s n) (k + 1) at_ :: pathR as s (far as s n) k (stepR as s (far as s n) (k + 1) at_) = _ :: pathP n T s k _
    rw [hst, hx, path_eq hT ha hs hK h k x (a + 1) (h1.snoc ht) hw (by omega)]
theorem bestTo_none {n T} {as : List (Nat × Nat)} (hT : Fits n T) (ha : ∀ p, p ∈ as ↔ T p.1 p.2 = true) (hc : Acy n T) : ∀ v, bestTo as n v = []
  | 0 => rfl
  | v + 1 => by
    show bstep as n (bestTo as n v) v = []
    rw [bestTo_none hT ha hc v]
    unfold bstep
    rcases leastR_walk (n := n) (v := v) ha with h | ⟨l, _, hw⟩
    · simp only [h]; rfl
    · have := (war_iff hT).2 hw.way
      rw [hc v (hw.way.fits hT).1] at this; cases this
theorem bestTo_some {n T K s} {as : List (Nat × Nat)} (hT : Fits n T) (ha : ∀ p, p ∈ as ↔ T p.1 p.2 = true) (hs : as.Pairwise ltN) (hno : ∀ i, T i i = false) (hK : K ≤ n) (h : Fewest T K s) : ∀ v, (v ≤ s ∧ (bestTo as n v = [] ∨ K + 1 < (bestTo as n v).length)) ∨ (s < v ∧ bestTo as n v = s :: pathP n T s K s)
  | 0 => .inl ⟨Nat.zero_le _, .inl rfl⟩
  | v + 1 => by
    show (_ ∧ (bstep as n (bestTo as n v) v = [] ∨ K + 1 < (bstep as n (bestTo as n v) v).length)) ∨ (_ ∧ bstep as n (bestTo as n v) v = _)
    have hwk := leastR_walk (n := n) (v := v) ha
    rcases bestTo_some hT ha hs hno hK h v with ⟨h1, h2⟩ | ⟨h1, h2⟩
    · rcases Nat.lt_or_ge v s with hv | hv
      · left
        refine ⟨hv, ?_⟩
        unfold bstep
        rcases hwk with e | ⟨l, e, hw⟩
        · simp only [e]
          rw [if_pos (.inl (by decide))]
          exact h2
        · simp only [e]
          split
          · exact h2
          · right
            rw [List.length_cons, pathR_len]
            have h3 : ¬ l + 1 < K := fun h4 => h.few (l + 1) h4 v hw
            have h4 : l + 1 ≠ K := fun h4 => by subst h4; exact h.least v hv hw
            omega
      · obtain rfl : v = s := by omega
        right
        refine ⟨by omega, ?_⟩
        have hl := leastR_fewest ha hK h hno
        unfold bstep
        simp only [hl]
        rw [if_neg]
        · rw [show ((K : Int) + 1).toNat - 1 = K by omega, path_eq hT ha hs hK h K v 0 rfl h.at_ (by omega)]
        · rintro (h3 | ⟨h3, h4⟩)
          · omega
          · rcases h2 with h2 | h2
            · rw [h2] at h3; simp at h3
            · omega
    · right
      refine ⟨by omega, ?_⟩
      unfold bstep
      rcases hwk with e | ⟨l, e, hw⟩
      · simp only [e]
        rw [if_pos (.inl (by decide))]
        exact h2
      · simp only [e]
        rw [if_pos, h2]
        right
        rw [h2, List.length_cons, pathP_len]
        have h3 : ¬ l + 1 < K := fun h4 => h.few (l + 1) h4 v hw
        omega
/-- the program's cycle is the reference's -/
theorem cyc_eq {n T} {as : List (Nat × Nat)} (hT : Fits n T) (ha : ∀ p, p ∈ as ↔ T p.1 p.2 = true) (hs : as.Pairwise ltN) (hno : ∀ i, T i i = false) : bestTo as n n = cycP n T := by
  unfold cycP
  split
  · rename_i hl
    obtain ⟨h1, h2⟩ := lenP_fewest hT hl
    rcases bestTo_some hT ha hs hno (by omega) h2 n with ⟨h3, _⟩ | ⟨_, h3⟩
    · omega
    · exact h3
  · rename_i hl
    have hc : Acy n T := by
      rcases Classical.em (Acy n T) with h | h
      · exact h
      · exact (hl ((lenP_acy hT).2 h)).elim
    exact bestTo_none hT ha hc n
/-! sets of vertices as numbers -/
def mskTo (f : Nat → Bool) : Nat → Nat
  | 0 => 0
  | j + 1 => mskTo f j + if f j then 2 ^ j else 0
def msk (f : Nat → Bool) : Nat := mskTo f 24
theorem mskTo_lt (f : Nat → Bool) : ∀ j, mskTo f j < 2 ^ j
  | 0 => by unfold mskTo; decide
  | j + 1 => by
    have := mskTo_lt f j
    unfold mskTo
    rw [Nat.pow_succ]
    split <;> omega
theorem mskTo_bit (f : Nat → Bool) : ∀ n j, (mskTo f n).testBit j = (decide (j < n) && f j)
  | 0, j => by simp [mskTo]
  | n + 1, j => by
    have hl := mskTo_lt f n
    have ih := mskTo_bit f n j
    have e : mskTo f (n + 1) = 2 ^ n * (if f n then 1 else 0) + mskTo f n := by
      show mskTo f n + _ = _
      split <;> omega
    rw [e, Nat.testBit_two_pow_mul_add _ hl]
    split
    · rename_i h; rw [ih]; simp [h]; omega
    · rename_i h
      by_cases e : j = n
      · subst e; cases f j <;> simp
      · have e1 : j - n ≠ 0 := by omega
        have e2 : ¬ j < n + 1 := by omega
        cases f n
        · simp [e2]
        · have e3 : Nat.testBit 1 (j - n) = false := by
            rcases hb : Nat.testBit 1 (j - n) with _ | _
            · rfl
            · exact (e1 (Nat.testBit_one_eq_true_iff_self_eq_zero.1 hb)).elim
          simp [e2, e3]
theorem msk_bit (f : Nat → Bool) (j : Nat) : (msk f).testBit j = (decide (j < 24) && f j) := mskTo_bit f 24 j
theorem msk_lt (f : Nat → Bool) : msk f < 2 ^ 24 := mskTo_lt f 24
theorem msk_ext {f g : Nat → Bool} (h : ∀ j, j < 24 → f j = g j) : msk f = msk g := by
  apply Nat.eq_of_testBit_eq
  intro j
  rw [msk_bit, msk_bit]
  by_cases hj : j < 24
  · rw [h j hj]
  · simp [hj]
theorem msk_of {x : Nat} {f : Nat → Bool} (h : ∀ j, x.testBit j = (decide (j < 24) && f j)) : x = msk f := by
  apply Nat.eq_of_testBit_eq
  intro j
  rw [msk_bit, h]
theorem msk_or (f g : Nat → Bool) : msk f ||| msk g = msk fun j => f j || g j := by
  apply msk_of
  intro j
  rw [Nat.testBit_or, msk_bit, msk_bit]
  cases decide (j < 24) <;> simp
theorem msk_with (f : Nat → Bool) (i : Nat) (hi : i < 24) : msk f ||| 2 ^ i = msk fun j => f j || (j == i) := by
  apply msk_of
  intro j
  rw [Nat.testBit_or, msk_bit, Nat.testBit_two_pow]
  by_cases e : j = i
  · subst e; simp [hi]
  · have e' : ¬ i = j := fun h => e h.symm
    have e2 : (j == i) = false := beq_eq_false_iff_ne.2 e
    rw [e2]
    simp [e']
theorem msk_none : msk (fun _ => false) = 0 := by
  symm; apply msk_of; intro j; simp
theorem msk_zero {f : Nat → Bool} : msk f = 0 ↔ ∀ j, j < 24 → f j = false := by
  constructor
  · intro h j hj
    have := msk_bit f j
    rw [h] at this
    simpa [hj] using this.symm
  · intro h
    rw [← msk_none]
    exact msk_ext h
theorem msk_has (f : Nat → Bool) (i : Nat) (hi : i < 24) : (msk f >>> i) % 2 = if f i then 1 else 0 := by
  have h := msk_bit f i
  rw [Nat.testBit_eq_decide_div_mod_eq] at h
  rw [Nat.shiftRight_eq_div_pow]
  cases hf : f i
  · rw [hf] at h
    simp [hi] at h
    simp; omega
  · rw [hf] at h
    simp [hi] at h
    simp; omega
theorem msk_not {f g : Nat → Bool} {y : Nat} (h : ∀ j, j < 24 → y.testBit j = !g j) : msk f &&& y = msk fun j => f j && !g j := by
  apply msk_of
  intro j
  rw [Nat.testBit_and, msk_bit]
  by_cases hj : j < 24
  · rw [h j hj]; simp [hj]
  · simp [hj]
/-- the numbers of a relation's rows -/
def rowsR (R : Nat → Nat → Bool) : List Nat := (List.range 24).map fun i => msk (R i)
theorem rowsR_len (R) : (rowsR R).length = 24 := by simp [rowsR]
theorem rowsR_at (R : Nat → Nat → Bool) {i : Nat} (hi : i < 24) : (rowsR R)[i]? = some (msk (R i)) := by simp [rowsR, hi]
theorem rowsR_ext {R S : Nat → Nat → Bool} (h : ∀ i j, i < 24 → j < 24 → R i j = S i j) : rowsR R = rowsR S := by
  unfold rowsR
  apply List.map_congr_left
  intro i hi
  exact msk_ext fun j hj => h i j (List.mem_range.1 hi) hj
theorem rowsR_set {R S : Nat → Nat → Bool} {i : Nat} (hi : i < 24) (h : ∀ a b, a ≠ i → R a b = S a b) : (rowsR R).set i (msk (S i)) = rowsR S := by
  apply List.ext_getElem?
  intro k
  rw [List.getElem?_set]
  by_cases hk : k < 24
  · rw [rowsR_at S hk, rowsR_at R hk]
    by_cases e : i = k
    · subst e; simp [rowsR_len, hi]
    · rw [if_neg e]
      congr 1
      exact msk_ext fun j _ => h k j (fun e2 => e e2.symm)
  · rw [List.getElem?_eq_none (by rw [rowsR_len]; omega)]
    by_cases e : i = k
    · omega
    · rw [if_neg e, List.getElem?_eq_none (by rw [rowsR_len]; omega)]
end Go.Proofs.Ytgmdfaamheblmaa.PM
