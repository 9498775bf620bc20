import Derived.WalkKit
import Derived.Below
import Derived.Laws.OwnMore
import Derived.Deep.Draws
import Derived.Laws.Rows
import Derived.Maps.AppendAt
import Derived.OwnWalk
import Derived.Test.YtaapcfflnklpjaaGreatDoorChecked
import Derived.Lib.Strings
import Derived.Lib.Slices
import Derived.Lib.Small
import Derived.Lib.Walk
import Derived.Lib.ItoaNum
import Derived.LoopTactic
import Derived.WalkSpells
import Derived.RegionTactic
import Derived.BigRegion
import Derived.IntWalk
import Derived.Laws.BytesArg
import Derived.Deep.QuietTactic
import Derived.BigQuiet
import Derived.Deep.LoopGhost
/- Plain lemmas on numbers as lists of digits in a base b (the limbs of a natural: b = 10^9; its decimal digits: b = 10), the least digit first. -/
namespace Go.Proofs.YtaapcfflnklpjaaGreatDoor

/-- 10^9 -/
abbrev B9 : Nat := 1000000000
/-- the value of digits -/
def val (b : Nat) : List Nat → Nat
  | [] => 0
  | x :: xs => x + b * val b xs
/-- leaves out the leading zeros (which stand at the end) -/
def trimL : List Nat → List Nat
  | [] => []
  | x :: xs => match trimL xs with
    | [] => if x = 0 then [] else [x]
    | y :: ys => x :: y :: ys
def digF (b : Nat) : Nat → Nat → List Nat
  | 0, _ => []
  | f + 1, v => if v = 0 then [] else v % b :: digF b f (v / b)
/-- the digits of a value, without leading zeros -/
def dig (b v : Nat) : List Nat := digF b v v

theorem digF_enough (b : Nat) (hb : 2 ≤ b) : ∀ f g v : Nat, v ≤ f → v ≤ g → digF b f v = digF b g v := by
  intro f
  induction f with
  | zero =>
    intro g v h1 _
    obtain rfl : v = 0 := by omega
    cases g <;> simp [digF]
  | succ f ih =>
    intro g v h1 h2
    cases g with
    | zero =>
      obtain rfl : v = 0 := by omega
      simp [digF]
    | succ g =>
      by_cases h0 : v = 0
      · simp [digF, h0]
      · have hlt : v / b < v := Nat.div_lt_self (by omega) hb
        simp only [digF, if_neg h0]
        rw [ih g (v / b) (by omega) (by omega)]
theorem dig_zero (b : Nat) : dig b 0 = [] := rfl
theorem dig_pos (b : Nat) (hb : 2 ≤ b) (v : Nat) (h : v ≠ 0) : dig b v = v % b :: dig b (v / b) := by
  obtain ⟨n, rfl⟩ : ∃ n, v = n + 1 := ⟨v - 1, by omega⟩
  have hlt : (n + 1) / b < n + 1 := Nat.div_lt_self (by omega) hb
  show digF b (n + 1) (n + 1) = _
  simp only [digF, if_neg h]
  rw [digF_enough b hb n ((n + 1) / b) _ (by omega) (Nat.le_refl _)]
  rfl
theorem dig_cons (b : Nat) (hb : 2 ≤ b) (x v : Nat) (hx : x < b) (h : ¬(x = 0 ∧ v = 0)) : dig b (x + b * v) = x :: dig b v := by
  have hne : x + b * v ≠ 0 := by
    intro e
    have h1 : x = 0 := by omega
    have h2 : b * v = 0 := by omega
    rcases Nat.mul_eq_zero.1 h2 with h3 | h3
    · omega
    · exact h ⟨h1, h3⟩
  rw [dig_pos b hb _ hne, Nat.add_mul_mod_self_left, Nat.mod_eq_of_lt hx, Nat.add_mul_div_left _ _ (by omega), Nat.div_eq_of_lt hx, Nat.zero_add]
theorem dig_small (b : Nat) (hb : 2 ≤ b) (x : Nat) (hx : x < b) (h : x ≠ 0) : dig b x = [x] := by
  have := dig_cons b hb x 0 hx (by omega)
  simpa [dig_zero] using this
theorem val_dig (b : Nat) (hb : 2 ≤ b) (v : Nat) : val b (dig b v) = v := by
  induction v using Nat.strongRecOn with
  | _ v ih =>
    by_cases h : v = 0
    · subst h; rfl
    · rw [dig_pos b hb v h]
      simp only [val]
      rw [ih _ (Nat.div_lt_self (by omega) hb)]
      exact Nat.mod_add_div v b
theorem dig_inj (b : Nat) (hb : 2 ≤ b) {u v : Nat} (h : dig b u = dig b v) : u = v := by rw [← val_dig b hb u, h, val_dig b hb v]
theorem dig_lt (b : Nat) (hb : 2 ≤ b) (v : Nat) : ∀ x ∈ dig b v, x < b := by
  induction v using Nat.strongRecOn with
  | _ v ih =>
    by_cases h : v = 0
    · subst h; intro x hx; cases hx
    · rw [dig_pos b hb v h]
      intro x hx
      rcases List.mem_cons.1 hx with rfl | hx
      · exact Nat.mod_lt _ (by omega)
      · exact ih _ (Nat.div_lt_self (by omega) hb) x hx
theorem dig_eq_nil (b : Nat) (hb : 2 ≤ b) {v : Nat} : dig b v = [] ↔ v = 0 := by
  constructor
  · intro h
    by_cases h0 : v = 0
    · exact h0
    · rw [dig_pos b hb v h0] at h; cases h
  · rintro rfl; rfl
theorem trimL_dig (b : Nat) (hb : 2 ≤ b) (xs : List Nat) (h : ∀ x ∈ xs, x < b) : trimL xs = dig b (val b xs) := by
  induction xs with
  | nil => rfl
  | cons x xs ih =>
    have ih' := ih (fun y hy => h y (List.mem_cons_of_mem _ hy))
    have hx := h x List.mem_cons_self
    simp only [trimL, val]
    by_cases h0 : val b xs = 0
    · rw [h0, dig_zero] at ih'
      rw [ih', h0, Nat.mul_zero, Nat.add_zero]
      by_cases hx0 : x = 0
      · subst hx0; rfl
      · rw [if_neg hx0, dig_small b hb x hx hx0]
    · rw [dig_cons b hb x _ hx (by omega), ih']
      rw [dig_pos b hb _ h0]
theorem val_lt (b : Nat) (_hb : 2 ≤ b) (xs : List Nat) (h : ∀ x ∈ xs, x < b) : val b xs < b ^ xs.length := by
  induction xs with
  | nil => simp [val]
  | cons x xs ih =>
    have ih' := ih (fun y hy => h y (List.mem_cons_of_mem _ hy))
    have hx := h x List.mem_cons_self
    simp only [val, List.length_cons, Nat.pow_succ]
    have h1 : b * (val b xs + 1) ≤ b * b ^ xs.length := Nat.mul_le_mul_left b ih'
    rw [Nat.mul_add, Nat.mul_one, Nat.mul_comm b (b ^ xs.length)] at h1
    omega
theorem dig_length_le (b : Nat) (hb : 2 ≤ b) (n : Nat) : ∀ v : Nat, (dig b v).length ≤ n ↔ v < b ^ n := by
  induction n with
  | zero =>
    intro v
    rw [Nat.pow_zero]
    constructor
    · intro h
      have := (dig_eq_nil b hb).1 (List.eq_nil_of_length_eq_zero (by omega) : dig b v = [])
      omega
    · intro h
      obtain rfl : v = 0 := by omega
      rw [dig_zero]; simp
  | succ n ih =>
    intro v
    by_cases h0 : v = 0
    · subst h0
      rw [dig_zero]
      have : 0 < b ^ (n + 1) := Nat.pow_pos (by omega)
      simp; exact this
    · rw [dig_pos b hb v h0, List.length_cons, Nat.add_le_add_iff_right, ih, Nat.pow_succ, Nat.div_lt_iff_lt_mul (by omega)]
theorem val_append (b : Nat) (xs ys : List Nat) : val b (xs ++ ys) = val b xs + b ^ xs.length * val b ys := by
  induction xs with
  | nil => simp [val]
  | cons x xs ih =>
    simp only [List.cons_append, val, ih, List.length_cons, Nat.pow_succ]
    rw [Nat.mul_add, Nat.mul_comm (b ^ xs.length) b, Nat.mul_assoc, Nat.add_assoc]
theorem val_snoc (b : Nat) (xs : List Nat) (x : Nat) : val b (xs ++ [x]) = val b xs + b ^ xs.length * x := by
  rw [val_append]; simp [val]
theorem dig_mono (b : Nat) (hb : 2 ≤ b) {u v : Nat} (h : u ≤ v) : (dig b u).length ≤ (dig b v).length :=
  (dig_length_le b hb _ u).2 (Nat.lt_of_le_of_lt h ((dig_length_le b hb _ v).1 (Nat.le_refl _)))
theorem lt_of_dig_length (b : Nat) (hb : 2 ≤ b) {u v : Nat} (h : (dig b u).length < (dig b v).length) : u < v := by
  rcases Nat.lt_or_ge u v with h1 | h1
  · exact h1
  · have := dig_mono b hb h1
    omega

theorem take_snoc {α : Type} (xs : List α) (j : Nat) (x : α) (h : xs[j]? = some x) : xs.take (j + 1) = xs.take j ++ [x] := by
  rw [List.take_add_one, h]; rfl
theorem lt_of_getElem? {α : Type} {xs : List α} {j : Nat} {x : α} (h : xs[j]? = some x) : j < xs.length := by
  rcases Nat.lt_or_ge j xs.length with hlt | hge
  · exact hlt
  · rw [List.getElem?_eq_none hge] at h; cases h
theorem split_at {α : Type} {xs : List α} {j : Nat} {x : α} (h : xs[j]? = some x) : xs = xs.take j ++ x :: xs.drop (j + 1) := by
  have hl := lt_of_getElem? h
  have e : xs[j] = x := by rw [List.getElem?_eq_getElem hl] at h; exact Option.some.inj h
  rw [← e, ← List.drop_eq_getElem_cons hl, List.take_append_drop]
theorem val_split (b : Nat) {xs : List Nat} {j x : Nat} (h : xs[j]? = some x) : val b xs = val b (xs.take j) + b ^ j * (x + b * val b (xs.drop (j + 1))) := by
  have hl := lt_of_getElem? h
  have e := split_at h
  have hv := congrArg (val b) e
  rw [val_append, List.length_take, Nat.min_eq_left (by omega)] at hv
  exact hv
theorem val_take_lt (b : Nat) (hb : 2 ≤ b) {xs : List Nat} (h : ∀ x ∈ xs, x < b) (j : Nat) : val b (xs.take j) < b ^ j := by
  have h1 := val_lt b hb (xs.take j) (fun x hx => h x (List.mem_of_mem_take hx))
  have h2 : b ^ (xs.take j).length ≤ b ^ j := Nat.pow_le_pow_right (by omega) (List.length_take_le _ _)
  omega
/-- two lists that are the same above place j are ordered as their digits at place j -/
theorem val_lt_of_digit (b : Nat) (hb : 2 ≤ b) {xs ys : List Nat} (hx : ∀ x ∈ xs, x < b) {j x y : Nat} (h1 : xs[j]? = some x) (h2 : ys[j]? = some y)
    (h : xs.drop (j + 1) = ys.drop (j + 1)) (hlt : x < y) : val b xs < val b ys := by
  rw [val_split b h1, val_split b h2, h]
  have h3 := val_take_lt b hb hx j
  have h4 : b ^ j * (x + b * val b (ys.drop (j + 1)) + 1) ≤ b ^ j * (y + b * val b (ys.drop (j + 1))) := Nat.mul_le_mul_left _ (by omega)
  rw [Nat.mul_add, Nat.mul_one] at h4
  omega

theorem trimL_append_zero (xs : List Nat) : trimL (xs ++ [0]) = trimL xs := by
  induction xs with
  | nil => rfl
  | cons x xs ih => simp only [List.cons_append, trimL, ih]
theorem trimL_append_pos (xs : List Nat) (x : Nat) (h : x ≠ 0) : trimL (xs ++ [x]) = xs ++ [x] := by
  induction xs with
  | nil => simp [trimL, h]
  | cons y ys ih =>
    simp only [List.cons_append, trimL, ih]
    cases ys <;> simp
theorem trimL_take (xs : List Nat) : ∃ m, m ≤ xs.length ∧ trimL xs = xs.take m := by
  induction xs with
  | nil => exact ⟨0, by simp, rfl⟩
  | cons x xs ih =>
    obtain ⟨m, hm, e⟩ := ih
    simp only [trimL]
    cases h : trimL xs with
    | nil =>
      by_cases hx : x = 0
      · exact ⟨0, by simp, by simp [hx]⟩
      · exact ⟨1, by simp, by simp [hx]⟩
    | cons y ys =>
      refine ⟨m + 1, by simp; omega, ?_⟩
      simp only [List.take_succ_cons]
      rw [← e, h]
theorem trimL_length_le (xs : List Nat) : (trimL xs).length ≤ xs.length := by
  obtain ⟨m, hm, e⟩ := trimL_take xs
  rw [e, List.length_take]; omega
theorem trimL_eq_take (xs : List Nat) : trimL xs = xs.take (trimL xs).length := by
  obtain ⟨m, hm, e⟩ := trimL_take xs
  have : (trimL xs).length = m := by rw [e, List.length_take]; omega
  rw [this]; exact e
theorem val_trimL (b : Nat) (xs : List Nat) : val b (trimL xs) = val b xs := by
  induction xs with
  | nil => rfl
  | cons x xs ih =>
    simp only [trimL]
    cases h : trimL xs with
    | nil =>
      rw [h] at ih
      simp only [val] at ih ⊢
      rw [← ih]
      by_cases hx : x = 0
      · subst hx; rfl
      · simp [hx, val]
    | cons y ys =>
      rw [h] at ih
      simp only [val] at ih ⊢
      rw [ih]
theorem trim_zero {xs : List Nat} {k : Nat} (hk : ¬k = 0) (h : trimL (xs.take k) = trimL xs) (hx : xs[k - 1]? = some 0) : trimL (xs.take (k - 1)) = trimL xs := by
  have e := take_snoc xs (k - 1) 0 hx
  rw [show k - 1 + 1 = k from by omega] at e
  rw [e, trimL_append_zero] at h
  exact h
theorem trim_pos {xs : List Nat} {k x : Nat} (hk : ¬k = 0) (h : trimL (xs.take k) = trimL xs) (hx : xs[k - 1]? = some x) (h0 : x ≠ 0) : (trimL xs).length = k := by
  have e := take_snoc xs (k - 1) x hx
  have hl := lt_of_getElem? hx
  rw [show k - 1 + 1 = k from by omega] at e
  rw [e, trimL_append_pos _ _ h0, ← e] at h
  rw [← h, List.length_take]; omega
/-- the result of a comparison -/
def cmpI (u v : Nat) : Int := if u < v then -1 else if u = v then 0 else 1
theorem cmpI_lt {u v : Nat} (h : u < v) : cmpI u v = -1 := by simp [cmpI, h]
theorem cmpI_gt {u v : Nat} (h : v < u) : cmpI u v = 1 := by
  rw [cmpI, if_neg (by omega), if_neg (by omega)]
theorem cmpI_eq {u v : Nat} (h : u = v) : cmpI u v = 0 := by simp [cmpI, h]
theorem cmp_short {b u v : Nat} (hb : 2 ≤ b) (h : (dig b u).length < (dig b v).length) : cmpI u v = -1 := cmpI_lt (lt_of_dig_length b hb h)
theorem cmp_long {b u v : Nat} (hb : 2 ≤ b) (h : (dig b v).length < (dig b u).length) : cmpI u v = 1 := cmpI_gt (lt_of_dig_length b hb h)
theorem cmp_digit_lt {b u v k x y : Nat} (hb : 2 ≤ b) (h1 : (dig b u)[k]? = some x) (h2 : (dig b v)[k]? = some y) (h : (dig b u).drop (k + 1) = (dig b v).drop (k + 1)) (hlt : x < y) : cmpI u v = -1 := by
  apply cmpI_lt
  have := val_lt_of_digit b hb (dig_lt b hb u) h1 h2 h hlt
  rwa [val_dig b hb, val_dig b hb] at this
theorem cmp_digit_gt {b u v k x y : Nat} (hb : 2 ≤ b) (h1 : (dig b u)[k]? = some x) (h2 : (dig b v)[k]? = some y) (h : (dig b u).drop (k + 1) = (dig b v).drop (k + 1)) (hlt : y < x) : cmpI u v = 1 := by
  apply cmpI_gt
  have := val_lt_of_digit b hb (dig_lt b hb v) h2 h1 h.symm hlt
  rwa [val_dig b hb, val_dig b hb] at this
theorem cmp_same {b u v : Nat} (hb : 2 ≤ b) (h : (dig b u).drop 0 = (dig b v).drop 0) : cmpI u v = 0 := cmpI_eq (dig_inj b hb h)
theorem drop_step {xs ys : List Nat} {k x : Nat} (h1 : xs[k]? = some x) (h2 : ys[k]? = some x) (h : xs.drop (k + 1) = ys.drop (k + 1)) : xs.drop k = ys.drop k := by
  have l1 := lt_of_getElem? h1
  have l2 := lt_of_getElem? h2
  rw [List.drop_eq_getElem_cons l1, List.drop_eq_getElem_cons l2, h]
  rw [List.getElem?_eq_getElem l1] at h1
  rw [List.getElem?_eq_getElem l2] at h2
  rw [Option.some.inj h1, Option.some.inj h2]
theorem take_set {α : Type} (zs : List α) (k : Nat) (v : α) (hk : k < zs.length) : (zs.set k v).take (k + 1) = zs.take k ++ [v] := by
  rw [take_snoc _ k v (by rw [List.getElem?_set_self hk])]
  rw [List.take_set_of_le (Nat.le_refl k)]
theorem put_step (b : Nat) (zs : List Nat) (k S : Nat) (hk : k < zs.length) : val b ((zs.set k (S % b)).take (k + 1)) + b ^ (k + 1) * (S / b) = val b (zs.take k) + b ^ k * S := by
  rw [take_set zs k _ hk, val_snoc, List.length_take, Nat.min_eq_left (by omega), Nat.pow_succ, Nat.mul_assoc, Nat.add_assoc, ← Nat.mul_add, Nat.mod_add_div]
theorem val_take_succ (b : Nat) {xs : List Nat} {k x : Nat} (h : xs[k]? = some x) : val b (xs.take (k + 1)) = val b (xs.take k) + b ^ k * x := by
  have hl := lt_of_getElem? h
  rw [take_snoc xs k x h, val_snoc, List.length_take, Nat.min_eq_left (by omega)]
/-- one round of a loop that carries -/
theorem carry_step {b : Nat} {zs ys : List Nat} {k C x : Nat} (hk : k < zs.length) (hx : ys[k]? = some x) (h : val b (zs.take k) + b ^ k * C = val b (ys.take k)) :
    val b ((zs.set k ((C + x) % b)).take (k + 1)) + b ^ (k + 1) * ((C + x) / b) = val b (ys.take (k + 1)) := by
  rw [put_step b zs k (C + x) hk, val_take_succ b hx, Nat.mul_add, ← Nat.add_assoc, h]
theorem all_take_set {b : Nat} {zs : List Nat} {k v : Nat} (hk : k < zs.length) (h : ∀ x ∈ zs.take k, x < b) (hv : v < b) : ∀ x ∈ (zs.set k v).take (k + 1), x < b := by
  rw [take_set zs k v hk]
  intro x hx
  rcases List.mem_append.1 hx with h1 | h1
  · exact h x h1
  · simp at h1; subst h1; exact hv
theorem mem_trimL {xs : List Nat} {x : Nat} (h : x ∈ trimL xs) : x ∈ xs := by
  rw [trimL_eq_take] at h
  exact List.mem_of_mem_take h
theorem trimL_idem (xs : List Nat) : trimL (trimL xs) = trimL xs := by
  induction xs with
  | nil => rfl
  | cons x xs ih =>
    simp only [trimL]
    cases h : trimL xs with
    | nil =>
      by_cases hx : x = 0
      · simp [hx, trimL]
      · simp [hx, trimL]
    | cons y ys =>
      rw [h] at ih
      show (match trimL (y :: ys) with | [] => if x = 0 then [] else [x] | y :: ys => x :: y :: ys) = _
      rw [ih]
theorem val_le_of_all (b M : Nat) (xs : List Nat) (h : ∀ x ∈ xs, x ≤ M) (hb : 1 ≤ b) : (b - 1) * val b xs ≤ M * (b ^ xs.length - 1) := by
  induction xs with
  | nil => simp [val]
  | cons x xs ih =>
    have ih' := ih (fun y hy => h y (List.mem_cons_of_mem _ hy))
    have hx := h x List.mem_cons_self
    simp only [val, List.length_cons, Nat.pow_succ]
    have hp : 1 ≤ b ^ xs.length := Nat.pow_pos (by omega)
    generalize hq : b ^ xs.length = q at *
    have e1 : (b - 1) * (x + b * val b xs) = (b - 1) * x + b * ((b - 1) * val b xs) := by
      rw [Nat.mul_add, ← Nat.mul_assoc, ← Nat.mul_assoc, Nat.mul_comm b (b - 1)]
    have e2 : M * (q * b - 1) = (b - 1) * M + b * (M * (q - 1)) := by
      obtain ⟨q, rfl⟩ : ∃ r, q = r + 1 := ⟨q - 1, by omega⟩
      obtain ⟨b, rfl⟩ : ∃ r, b = r + 1 := ⟨b - 1, by omega⟩
      have : (q + 1) * (b + 1) - 1 = b + (b + 1) * q := by rw [Nat.mul_comm, Nat.mul_add]; omega
      rw [this, Nat.mul_add, Nat.add_sub_cancel, Nat.add_sub_cancel, Nat.mul_comm M b, Nat.mul_left_comm]
    rw [e1, e2]
    exact Nat.add_le_add (Nat.mul_le_mul_left _ hx) (Nat.mul_le_mul_left _ ih')
theorem val_lt_u32 (xs : List Nat) (h : ∀ x ∈ xs, x < 4294967296) : val B9 xs < B9 ^ (xs.length + 1) := by
  have h1 := val_le_of_all B9 4294967295 xs (fun x hx => by have := h x hx; omega) (by decide)
  have hp : 1 ≤ B9 ^ xs.length := Nat.pow_pos (by decide)
  rw [Nat.pow_succ]
  generalize B9 ^ xs.length = q at *
  show val B9 xs < q * 1000000000
  have h2 : 999999999 * val B9 xs ≤ 4294967295 * (q - 1) := h1
  omega
theorem val_take_all (b : Nat) {xs : List Nat} {k j : Nat} (h : xs.length ≤ k) (h2 : xs.length ≤ j) : val b (xs.take j) = val b (xs.take k) := by
  rw [List.take_of_length_le h, List.take_of_length_le h2]
theorem add_step {b : Nat} {zs xs ys : List Nat} {k C x y : Nat} (hk : k < zs.length) (hx : xs[k]? = some x) (hy : ys[k]? = some y) (h : val b (zs.take k) + b ^ k * C = val b (xs.take k) + val b (ys.take k)) :
    val b ((zs.set k ((C + x + y) % b)).take (k + 1)) + b ^ (k + 1) * ((C + x + y) / b) = val b (xs.take (k + 1)) + val b (ys.take (k + 1)) := by
  rw [put_step b zs k (C + x + y) hk, val_take_succ b hx, val_take_succ b hy, Nat.mul_add, Nat.mul_add]
  omega
theorem add_step_none {b : Nat} {zs xs ys : List Nat} {k C x : Nat} (hk : k < zs.length) (hx : xs[k]? = some x) (hy : ys.length ≤ k) (h : val b (zs.take k) + b ^ k * C = val b (xs.take k) + val b (ys.take k)) :
    val b ((zs.set k ((C + x) % b)).take (k + 1)) + b ^ (k + 1) * ((C + x) / b) = val b (xs.take (k + 1)) + val b (ys.take (k + 1)) := by
  rw [put_step b zs k (C + x) hk, val_take_succ b hx, val_take_all b hy (by omega : ys.length ≤ k + 1), Nat.mul_add]
  omega
/-- the last limb, and the leading zeros left out -/
theorem last_limb {b : Nat} (hb : 2 ≤ b) {zs : List Nat} {k C V : Nat} (hk : zs.length = k + 1) (h : val b (zs.take k) + b ^ k * C = V) (hz : ∀ x ∈ zs.take k, x < b) (hC : C < b) :
    trimL (zs.set k C) = dig b V := by
  have e1 := put_step b zs k C (by omega)
  rw [Nat.mod_eq_of_lt hC, Nat.div_eq_of_lt hC, Nat.mul_zero, Nat.add_zero, h, List.take_of_length_le (by rw [List.length_set]; omega)] at e1
  rw [← e1]
  apply trimL_dig b hb
  have e2 := all_take_set (by omega : k < zs.length) hz hC
  rwa [List.take_of_length_le (by rw [List.length_set]; omega)] at e2
theorem val_take_dig (b : Nat) (hb : 2 ≤ b) (v k : Nat) (h : (dig b v).length ≤ k) : val b ((dig b v).take k) = v := by
  rw [List.take_of_length_le h, val_dig b hb]
theorem mul_step {b : Nat} {zk zs xs : List Nat} {o k C z x F : Nat} (hk : o + k < zk.length) (hz : zs[o + k]? = some z) (hx : xs[k]? = some x)
    (h : val b (zk.take (o + k)) + b ^ (o + k) * C = val b (zs.take (o + k)) + b ^ o * (F * val b (xs.take k))) :
    val b ((zk.set (o + k) ((C + (z + F * x)) % b)).take (o + k + 1)) + b ^ (o + k + 1) * ((C + (z + F * x)) / b) = val b (zs.take (o + k + 1)) + b ^ o * (F * val b (xs.take (k + 1))) := by
  rw [put_step b zk (o + k) _ hk, val_take_succ b hz, val_take_succ b hx]
  have e : b ^ o * (F * (val b (xs.take k) + b ^ k * x)) = b ^ o * (F * val b (xs.take k)) + b ^ (o + k) * (F * x) := by
    rw [Nat.mul_add F, Nat.mul_add (b ^ o), Nat.pow_add, Nat.mul_assoc (b ^ o), Nat.mul_left_comm F]
  rw [e, Nat.mul_add, Nat.mul_add]
  omega
theorem drop_set_lt {α : Type} (xs : List α) (i j : Nat) (v : α) (h : i < j) : (xs.set i v).drop j = xs.drop j := by
  apply List.ext_getElem?
  intro k
  rw [List.getElem?_drop, List.getElem?_drop, List.getElem?_set_ne (by omega)]
theorem getElem?_of_drop {α : Type} {xs ys : List α} {j k : Nat} (h : xs.drop j = ys.drop j) (hk : j ≤ k) : xs[k]? = ys[k]? := by
  have := congrArg (fun l => l[k - j]?) h
  simp only [List.getElem?_drop] at this
  rwa [show j + (k - j) = k from by omega] at this
theorem drop_of_drop {α : Type} {xs ys : List α} {j k : Nat} (h : xs.drop j = ys.drop j) (hk : j ≤ k) : xs.drop k = ys.drop k := by
  have := congrArg (List.drop (k - j)) h
  rwa [List.drop_drop, List.drop_drop, show j + (k - j) = k from by omega] at this
theorem all_set {b : Nat} {zs : List Nat} {k v : Nat} (h : ∀ x ∈ zs, x < b) (hv : v < b) : ∀ x ∈ zs.set k v, x < b := by
  intro x hx
  rcases List.mem_or_eq_of_mem_set hx with h1 | h1
  · exact h x h1
  · subst h1; exact hv
theorem val_set {b : Nat} {zs : List Nat} {k z v : Nat} (h : zs[k]? = some z) : val b (zs.set k v) + b ^ k * z = val b zs + b ^ k * v := by
  have hl := lt_of_getElem? h
  have h1 := val_split b h
  have h2 : (zs.set k v)[k]? = some v := List.getElem?_set_self hl
  have h3 := val_split b h2
  rw [List.take_set_of_le (Nat.le_refl k), drop_set_lt zs k (k + 1) v (by omega)] at h3
  rw [h1, h3, Nat.mul_add, Nat.mul_add]
  omega
theorem mul_end {b : Nat} {zk zs xs : List Nat} {o n C F : Nat} (hz : zs[o + n]? = some 0) (hd : zk.drop (o + n) = zs.drop (o + n)) (hx : xs.length ≤ n)
    (h : val b (zk.take (o + n)) + b ^ (o + n) * C = val b (zs.take (o + n)) + b ^ o * (F * val b (xs.take n))) :
    val b (zk.set (o + n) C) = val b zs + b ^ o * (F * val b xs) := by
  have hz' : zk[o + n]? = some 0 := by rw [getElem?_of_drop hd (Nat.le_refl _)]; exact hz
  have h1 := val_set (b := b) (v := C) hz'
  have h2 := val_split b hz
  have h3 := val_split b hz'
  rw [drop_of_drop hd (by omega : o + n ≤ o + n + 1)] at h3
  rw [List.take_of_length_le hx] at h
  omega
theorem val_replicate_zero (b n : Nat) : val b (List.replicate n 0) = 0 := by
  induction n with
  | zero => rfl
  | succ n ih => rw [List.replicate_succ]; simp [val, ih]
theorem drop_replicate_eq {n j : Nat} : (List.replicate n 0).drop j = List.replicate (n - j) 0 := by simp
theorem dig_len_u32 {xs : List Nat} {n m : Nat} (h1 : (dig B9 (val B9 xs)).length = n) (h2 : xs.length = m) (h : ∀ x ∈ xs, x < 4294967296) : n ≤ m + 1 := by
  rw [← h1, ← h2, dig_length_le B9 (by decide)]
  exact val_lt_u32 xs h
theorem sub_step {b : Nat} {zs xs ys : List Nat} {k C C' x y z : Nat} (hk : k < zs.length) (hx : xs[k]? = some x) (hy : ys[k]? = some y) (hz : z + (C + y) = x + b * C')
    (h : val b (zs.take k) + val b (ys.take k) = val b (xs.take k) + b ^ k * C) :
    val b ((zs.set k z).take (k + 1)) + val b (ys.take (k + 1)) = val b (xs.take (k + 1)) + b ^ (k + 1) * C' := by
  rw [take_set zs k z hk, val_snoc, List.length_take, Nat.min_eq_left (by omega), val_take_succ b hx, val_take_succ b hy, Nat.pow_succ, Nat.mul_assoc]
  have e := congrArg (fun t => b ^ k * t) hz
  simp only [Nat.mul_add] at e
  omega
theorem sub_step_none {b : Nat} {zs xs ys : List Nat} {k C C' x z : Nat} (hk : k < zs.length) (hx : xs[k]? = some x) (hy : ys.length ≤ k) (hz : z + C = x + b * C')
    (h : val b (zs.take k) + val b (ys.take k) = val b (xs.take k) + b ^ k * C) :
    val b ((zs.set k z).take (k + 1)) + val b (ys.take (k + 1)) = val b (xs.take (k + 1)) + b ^ (k + 1) * C' := by
  rw [take_set zs k z hk, val_snoc, List.length_take, Nat.min_eq_left (by omega), val_take_succ b hx, val_take_all b hy (by omega : ys.length ≤ k + 1), Nat.pow_succ, Nat.mul_assoc]
  have e := congrArg (fun t => b ^ k * t) hz
  simp only [Nat.mul_add] at e
  omega
theorem sub_end {b : Nat} (hb : 2 ≤ b) {zs : List Nat} {n C u v : Nat} (hl : zs.length = n) (hz : ∀ x ∈ zs, x < b) (h : val b zs + v = u + b ^ n * C) (huv : v ≤ u) : trimL zs = dig b (u - v) := by
  have h1 := val_lt b hb zs hz
  rw [hl] at h1
  have hC : C = 0 := by
    rcases Nat.eq_zero_or_pos C with h0 | h0
    · exact h0
    · have : b ^ n * 1 ≤ b ^ n * C := Nat.mul_le_mul_left _ h0
      omega
  subst hC
  rw [trimL_dig b hb zs hz]
  congr 1
  omega
/-- the number of decimal digits of a value -/
def nd (v : Nat) : Nat := if v = 0 then 1 else (dig 10 v).length
theorem len_split {m low t : Nat} (hl : low < 10 ^ m) (ht : t ≠ 0) : (dig 10 (low + 10 ^ m * t)).length = m + (dig 10 t).length := by
  have h10 : 2 ≤ 10 := by decide
  have hp : 0 < 10 ^ m := Nat.pow_pos (by decide)
  obtain ⟨L, hL⟩ : ∃ L, (dig 10 t).length = L + 1 := ⟨(dig 10 t).length - 1, by rw [dig_pos 10 h10 t ht]; simp⟩
  have ht1 : t < 10 ^ (L + 1) := (dig_length_le 10 h10 _ t).1 (by omega)
  have ht2 : 10 ^ L ≤ t := by
    rcases Nat.lt_or_ge t (10 ^ L) with h | h
    · have := (dig_length_le 10 h10 L t).2 h; omega
    · exact h
  apply Nat.le_antisymm
  · rw [dig_length_le 10 h10, hL, Nat.pow_add]
    have h1 : 10 ^ m * (t + 1) ≤ 10 ^ m * 10 ^ (L + 1) := Nat.mul_le_mul_left _ ht1
    rw [Nat.mul_add, Nat.mul_one] at h1
    omega
  · rcases Nat.lt_or_ge (dig 10 (low + 10 ^ m * t)).length (m + (dig 10 t).length) with h | h
    · have h1 := (dig_length_le 10 h10 (m + L) (low + 10 ^ m * t)).1 (by omega)
      rw [Nat.pow_add] at h1
      have h2 : 10 ^ m * 10 ^ L ≤ 10 ^ m * t := Nat.mul_le_mul_left _ ht2
      omega
    · exact h
theorem pow_B9 (k : Nat) : B9 ^ k = 10 ^ (9 * k) := by
  rw [Nat.pow_mul]
theorem nd_top {v n t : Nat} (hl : (dig B9 v).length = n) (hn : n ≠ 0) (ht : (dig B9 v)[n - 1]? = some t) : nd v = 9 * (n - 1) + (dig 10 t).length ∧ t ≠ 0 := by
  have hb : 2 ≤ B9 := by decide
  have hv0 : v ≠ 0 := by
    rintro rfl
    rw [dig_zero] at hl
    simp at hl; omega
  have hsp := val_split B9 ht
  have hdr : (dig B9 v).drop (n - 1 + 1) = [] := List.drop_eq_nil_of_le (by omega)
  rw [val_dig B9 hb, hdr] at hsp
  simp only [val, Nat.mul_zero, Nat.add_zero] at hsp
  have hlt := val_take_lt B9 hb (dig_lt B9 hb v) (n - 1)
  have ht0 : t ≠ 0 := by
    rintro rfl
    rw [Nat.mul_zero, Nat.add_zero] at hsp
    have := (dig_length_le B9 hb (n - 1) v).2 (by omega)
    omega
  refine ⟨?_, ht0⟩
  rw [nd, if_neg hv0]
  have e : v = val B9 ((dig B9 v).take (n - 1)) + 10 ^ (9 * (n - 1)) * t := by rw [← pow_B9]; exact hsp
  rw [pow_B9] at hlt
  rw [e]
  exact len_split hlt ht0
theorem dig_len_step {t : Nat} (h : t ≠ 0) : (dig 10 t).length = (dig 10 (t / 10)).length + 1 := by
  rw [dig_pos 10 (by decide) t h]; rfl
theorem gcd_step (a b : Nat) : Nat.gcd b (a % b) = Nat.gcd a b := by
  rw [Nat.gcd_comm b (a % b), Nat.gcd_comm a b, Nat.gcd_rec b a]
theorem val_drop_step (b : Nat) {xs : List Nat} {k x : Nat} (h : xs[k]? = some x) : val b (xs.drop k) = x + b * val b (xs.drop (k + 1)) := by
  have hl := lt_of_getElem? h
  rw [List.drop_eq_getElem_cons hl]
  rw [List.getElem?_eq_getElem hl] at h
  rw [Option.some.inj h]
  rfl
theorem val_drop_lt (b : Nat) (hb : 2 ≤ b) {xs : List Nat} (h : ∀ x ∈ xs, x < b) (k : Nat) : val b (xs.drop k) < b ^ (xs.length - k) := by
  have h1 := val_lt b hb (xs.drop k) (fun x hx => h x (List.mem_of_mem_drop hx))
  rwa [List.length_drop] at h1
theorem div_step {D V x b : Nat} (hD : 0 < D) : (x + b * V) / D = (V % D * b + x) / D + b * (V / D) ∧ (x + b * V) % D = (V % D * b + x) % D := by
  have e : x + b * V = (V % D * b + x) + D * (b * (V / D)) := by
    have h := Nat.mod_add_div V D
    have h2 : b * V = b * (V % D) + b * (D * (V / D)) := by rw [← Nat.mul_add, h]
    rw [h2, Nat.mul_left_comm b D, Nat.mul_comm b (V % D)]
    omega
  constructor
  · rw [e, Nat.add_mul_div_left _ _ hD]
  · rw [e, Nat.add_mul_mod_self_left]
theorem div_bound {D R x b : Nat} (hR : R < D) (hx : x < b) : (R * b + x) / D < b := by
  rw [Nat.div_lt_iff_lt_mul (by omega)]
  have h1 : (R + 1) * b ≤ D * b := Nat.mul_le_mul_right _ hR
  rw [Nat.add_mul, Nat.one_mul] at h1
  rw [Nat.mul_comm b D]
  omega
theorem drop_set_eq {α : Type} (zs : List α) (k : Nat) (v : α) (hk : k < zs.length) : (zs.set k v).drop k = v :: zs.drop (k + 1) := by
  rw [List.drop_eq_getElem_cons (by rw [List.length_set]; exact hk), List.getElem_set_self, drop_set_lt _ _ _ _ (by omega)]
theorem val_drop_set (b : Nat) (zs : List Nat) (k v : Nat) (hk : k < zs.length) : val b ((zs.set k v).drop k) = v + b * val b (zs.drop (k + 1)) := by
  rw [drop_set_eq zs k v hk]; rfl
/-- the loop of the guess -/
theorem guess_go {G R d1 d0 t t0 b : Nat} (h : G * d1 + R = t) (hlt : R * b + t0 < G * d0) : t * b + t0 < G * (d1 * b + d0) := by
  have e : G * (d1 * b + d0) = G * d1 * b + G * d0 := by rw [Nat.mul_add, Nat.mul_assoc]
  rw [e, ← h, Nat.add_mul]
  omega
theorem guess_end {G R d1 d0 t t0 b : Nat} (h : G * d1 + R = t) (hle : G * d0 ≤ R * b + t0) : G * (d1 * b + d0) ≤ t * b + t0 := by
  have e : G * (d1 * b + d0) = G * d1 * b + G * d0 := by rw [Nat.mul_add, Nat.mul_assoc]
  rw [e, ← h, Nat.add_mul]
  omega
theorem guess_first {d1 d0 t t0 b : Nat} (hd : 0 < d1) (hb : 0 < b) (ht0 : t0 < b) : (t * b + t0) / (d1 * b + d0) ≤ t / d1 := by
  have hp : 0 < d1 * b + d0 := by have := Nat.mul_pos hd hb; omega
  rw [Nat.le_div_iff_mul_le hd]
  have h1 : (t * b + t0) / (d1 * b + d0) * (d1 * b + d0) ≤ t * b + t0 := Nat.div_mul_le_self _ _
  generalize (t * b + t0) / (d1 * b + d0) = q at *
  rw [Nat.mul_add, ← Nat.mul_assoc] at h1
  have h2 : q * d1 * b < (t + 1) * b := by rw [Nat.add_mul, Nat.one_mul]; omega
  have := Nat.lt_of_mul_lt_mul_right h2
  omega
theorem smul_step {b : Nat} {dk ds ys : List Nat} {k F B B' y z v : Nat} (hk : k < dk.length) (hz : ds[k]? = some z) (hy : ys[k]? = some y) (e : v + (B + F * y) = z + b * B')
    (h : val b (dk.take k) + F * val b (ys.take k) = val b (ds.take k) + b ^ k * B) :
    val b ((dk.set k v).take (k + 1)) + F * val b (ys.take (k + 1)) = val b (ds.take (k + 1)) + b ^ (k + 1) * B' := by
  rw [take_set dk k v hk, val_snoc, List.length_take, Nat.min_eq_left (by omega), val_take_succ b hz, val_take_succ b hy, Nat.pow_succ, Nat.mul_assoc]
  have e2 := congrArg (fun t => b ^ k * t) e
  simp only [Nat.mul_add] at e2
  rw [Nat.mul_add, Nat.mul_left_comm F]
  omega
theorem drop_set_add {α : Type} (zs : List α) (o k : Nat) (v : α) : (zs.set (o + k) v).drop o = (zs.drop o).set k v := by
  apply List.ext_getElem?
  intro j
  rw [List.getElem?_drop, List.getElem?_set, List.getElem?_set, List.getElem?_drop]
  by_cases h : k = j
  · subst h
    by_cases h2 : o + k < zs.length
    · simp [h2]; omega
    · simp; rw [if_neg (by omega), if_neg (by omega)]
  · rw [if_neg (by omega), if_neg h]
theorem take_set_lt {α : Type} (zs : List α) (o k : Nat) (v : α) (h : k ≤ o) : (zs.set o v).take k = zs.take k := List.take_set_of_le h
/-- Knuth: the quotient of the first three limbs by two is at most one too great -/
theorem guess_bounds {b m pv dv lo lo' top d : Nat} (hpv : pv = lo + b ^ m * top) (hlo : lo < b ^ m) (hdv : dv = lo' + b ^ m * d) (hlo' : lo' < b ^ m) (hd : 0 < d) (hq : top / d ≤ d) :
    pv / dv ≤ top / d ∧ top / d ≤ pv / dv + 1 := by
  have hp : 0 < b ^ m := by omega
  have hdv0 : 0 < dv := by rw [hdv]; have := Nat.mul_pos hp hd; omega
  constructor
  · rw [Nat.le_div_iff_mul_le hd]
    have h1 : pv / dv * dv ≤ pv := Nat.div_mul_le_self _ _
    generalize pv / dv = q at *
    have h2 : q * d * b ^ m < (top + 1) * b ^ m := by
      have e1 : q * dv = q * lo' + q * d * b ^ m := by rw [hdv, Nat.mul_add, ← Nat.mul_assoc, Nat.mul_right_comm]
      have e2 : (top + 1) * b ^ m = b ^ m * top + b ^ m := by rw [Nat.add_mul, Nat.one_mul, Nat.mul_comm]
      omega
    have := Nat.lt_of_mul_lt_mul_right h2
    omega
  · have h1 : top / d * d ≤ top := Nat.div_mul_le_self _ _
    generalize top / d = q at *
    rcases Nat.eq_zero_or_pos q with h0 | h0
    · rw [h0]; exact Nat.zero_le _
    · have h2 : (q - 1) ≤ pv / dv := by
        rw [Nat.le_div_iff_mul_le hdv0]
        obtain ⟨p, rfl⟩ : ∃ p, q = p + 1 := ⟨q - 1, by omega⟩
        rw [Nat.add_sub_cancel]
        have e1 : p * dv = p * lo' + b ^ m * (p * d) := by rw [hdv, Nat.mul_add, Nat.mul_left_comm]
        have e2 : p * lo' ≤ p * b ^ m := Nat.mul_le_mul_left _ (by omega)
        have e3 : b ^ m * ((p + 1) * d) ≤ b ^ m * top := Nat.mul_le_mul_left _ h1
        have e4 : b ^ m * ((p + 1) * d) = b ^ m * (p * d) + b ^ m * d := by rw [← Nat.mul_add, Nat.add_mul, Nat.one_mul]
        have e5 : p * b ^ m ≤ b ^ m * d := by rw [Nat.mul_comm]; exact Nat.mul_le_mul_left _ (by omega)
        omega
      generalize pv / dv = z at *
      omega
end Go.Proofs.YtaapcfflnklpjaaGreatDoor

/- Words for memory: a slice of integers that reads as a list of numbers; a block of the call's own. -/
namespace Go.Proofs.YtaapcfflnklpjaaGreatDoor
open Go Go.RowKit

theorem alloc_heap (w : World) (o : Obj) : (w.alloc o).heap = w.heap.push o := rfl
theorem hide {p : Prop} (h : p) : Hid p := h
theorem ret_slice {a b : Nat} {A : Option Addr} {c : Nat} (h : a = b) : Ending.returned (.slice A a c) = .returned (.slice A b c) := by rw [h]
theorem ret_int {k : IntKind} {a b : Int} (h : a = b) : Ending.returned (.int k a) = .returned (.int k b) := by rw [h]

/-- The cells of a list of numbers. -/
def cells (k : IntKind) (xs : List Nat) : List Value := xs.map (fun x : Nat => Value.int k (x : Int))
theorem cells_getElem? (k : IntKind) (xs : List Nat) (j : Nat) : (cells k xs)[j]? = (xs[j]?).map (fun x : Nat => Value.int k (x : Int)) := by simp [cells]
theorem cells_length (k : IntKind) (xs : List Nat) : (cells k xs).length = xs.length := by simp [cells]
theorem cells_append (k : IntKind) (xs ys : List Nat) : cells k (xs ++ ys) = cells k xs ++ cells k ys := by simp [cells]
theorem cells_one (k : IntKind) (xs : List Nat) : ∀ u ∈ cells k xs, u.oneCell' = true := by
  intro u hu
  obtain ⟨x, _, rfl⟩ := List.mem_map.1 hu
  rfl

/-- The slice value '.slice A n c' reads as the numbers xs. -/
def RL (w : World) (k : IntKind) (A : Option Addr) (n : Nat) (xs : List Nat) : Prop :=
  xs.length = n ∧ (0 < n → ∃ b o, A = some ⟨b, o, none⟩ ∧ ∀ j x : Nat, xs[j]? = some x → w.cell? ⟨b, o + j, none⟩ = some (.int k (x : Int)))
/-- The slice does not lie in block g. -/
def Sp (A : Option Addr) (n g : Nat) : Prop := 0 < n → ∀ b o, A = some ⟨b, o, none⟩ → b ≠ g
/-- Block g is just these numbers. -/
def Own (w : World) (g : Nat) (k : IntKind) (t : TypeId) (xs : List Nat) : Prop := w.heap[g]? = some (.cells (cells k xs).toArray t (0, 0))

section
variable {w w' : World} {B n g : Nat} {k : IntKind} {A : Option Addr} {xs : List Nat} {t : TypeId}
theorem RL.len (h : RL w k A n xs) : xs.length = n := h.1
theorem RL.nil_ : RL w k A 0 [] := ⟨rfl, fun h => absurd h (by omega)⟩
theorem RL.zero (h : xs = []) (hn : n = 0) : RL w k A n xs := by subst h; subst hn; exact RL.nil_
theorem RL.at_ {j : Nat} (h : RL w k A n xs) (hj : j < n) : ∃ b o x, A = some ⟨b, o, none⟩ ∧ xs[j]? = some x ∧ w.cell? ⟨b, o + j, none⟩ = some (.int k (x : Int)) := by
  obtain ⟨b, o, e, hc⟩ := h.2 (by omega)
  have hl : j < xs.length := by have := h.1; omega
  exact ⟨b, o, xs[j], e, List.getElem?_eq_getElem hl, hc j _ (List.getElem?_eq_getElem hl)⟩
/-- the same, the address known already -/
theorem RL.cell {b o j : Nat} (h : RL w k (some ⟨b, o, none⟩) n xs) (hj : j < n) : ∃ x, xs[j]? = some x ∧ w.cell? ⟨b, o + j, none⟩ = some (.int k (x : Int)) := by
  obtain ⟨b', o', x, e, hx, hc⟩ := h.at_ hj
  injection e with e; injection e with e1 e2; subst e1; subst e2
  exact ⟨x, hx, hc⟩
theorem RL.lt (h : RL w k A n xs) (hn : 0 < n) : ∀ b o, A = some ⟨b, o, none⟩ → b < w.heap.size := by
  intro b o e
  subst e
  obtain ⟨x, _, hc⟩ := h.cell hn
  exact World.block_lt_of_cell? w ⟨b, o + 0, none⟩ hc
theorem RL.keep (h : RL w k A n xs) (hk : ∀ p : Addr, p.block < w.heap.size → w'.cell? p = w.cell? p) : RL w' k A n xs :=
  ⟨h.1, fun hn => by
    obtain ⟨b, o, e, hc⟩ := h.2 hn
    have hb := h.lt hn b o e
    exact ⟨b, o, e, fun j u hu => (hk _ hb).trans (hc j u hu)⟩⟩
theorem RL.below (h : RL w k A n xs) (hb : Below w.heap.size w w') : RL w' k A n xs := h.keep fun _ hp => hb.cell hp
theorem RL.drewN (h : RL w k A n xs) (m : Nat) : RL (w.drewN m) k A n xs := h
theorem RL.sp (h : RL w k A n xs) (hg : w.heap.size ≤ g) : Sp A n g := fun hn b o e => by have := h.lt hn b o e; omega
theorem RL.grown (h : RL w k A n xs) (hg : w.grownBy w' (some g)) (hs : Sp A n g) : RL w' k A n xs :=
  ⟨h.1, fun hn => by
    obtain ⟨b, o, e, hc⟩ := h.2 hn
    have hb := h.lt hn b o e
    have hne := hs hn b o e
    exact ⟨b, o, e, fun j u hu => (World.cell?_of_block (a := ⟨b, o + j, none⟩) (hg.block b hb (by simpa using hne))).trans (hc j u hu)⟩⟩
theorem RL.take_ (h : RL w k A n xs) {m : Nat} (hm : m ≤ n) : RL w k A m (xs.take m) :=
  ⟨by rw [List.length_take, h.1]; omega, fun hm0 => by
    obtain ⟨b, o, e, hc⟩ := h.2 (by omega)
    exact ⟨b, o, e, fun j x hx => hc j x (by
      rw [List.getElem?_take] at hx
      split at hx
      · exact hx
      · cases hx)⟩⟩
theorem RL.drop_ {b o : Nat} (h : RL w k (some ⟨b, o, none⟩) n xs) {m : Nat} (hm : m ≤ n) : RL w k (some ⟨b, o + m, none⟩) (n - m) (xs.drop m) :=
  ⟨by rw [List.length_drop, h.1], fun hm0 => by
    obtain ⟨b', o', e, hc⟩ := h.2 (by omega)
    injection e with e; injection e with e1 e2; subst e1; subst e2
    exact ⟨b, o + m, rfl, fun j x hx => by
      rw [List.getElem?_drop] at hx
      rw [Nat.add_assoc]
      exact hc _ _ hx⟩⟩

theorem Own.lt (h : Own w g k t xs) : g < w.heap.size := by
  rcases Nat.lt_or_ge g w.heap.size with hlt | hge
  · exact hlt
  · unfold Own at h; rw [Array.getElem?_eq_none hge] at h; cases h
theorem Own.cell (h : Own w g k t xs) {j x : Nat} (hx : xs[j]? = some x) : w.cell? ⟨g, j, none⟩ = some (.int k (x : Int)) := by
  rw [cell_of_row w g j _ t (0, 0) h, List.getElem?_toArray, cells_getElem?, hx]; rfl
theorem Own.frozen (h : Own w g k t xs) (j : Nat) : w.frozen? ⟨g, j, none⟩ = false := frozen_of_row w g j _ t h
theorem Own.alloc (h : Own w g k t xs) (o : Obj) : Own (w.alloc o) g k t xs := (Below.heap_alloc w o g h.lt).trans h
theorem Own.new (w : World) (k : IntKind) (t : TypeId) (xs : List Nat) : Own (w.alloc (.cells (cells k xs).toArray t)) w.heap.size k t xs := heap_alloc_new w _
theorem Own.set_ (h : Own w g k t xs) (i x : Nat) : Own (w.setCell ⟨g, i, none⟩ (.int k (x : Int))) g k t (xs.set i x) := by
  unfold Own at h ⊢
  simp [World.setCell, Array.getElem?_modify, h, cells, List.map_set]
theorem Own.put (h : Own w g k t xs) (i : Nat) {v : Int} {x : Nat} (e : v = (x : Int)) : Own (w.setCell ⟨g, i, none⟩ (.int k v)) g k t (xs.set i x) := by
  subst e; exact h.set_ i x
theorem Own.far (h : Own w g k t xs) {p : Addr} (hp : g ≠ p.block) (u : Value) : Own (w.setCell p u) g k t xs := (Below.heap_setCell w p u g hp).trans h
theorem Own.below (h : Own w g k t xs) (hb : Below B w w') (hg : g < B) : Own w' g k t xs := (hb.block g hg).trans h
theorem Own.below' (h : Own w g k t xs) (hb : Below w.heap.size w w') : Own w' g k t xs := h.below hb h.lt
theorem Own.grown {g' : Nat} (h : Own w g k t xs) (hb : w.grownBy w' (some g')) (hg : g ≠ g') : Own w' g k t xs := (hb.block g h.lt (by simpa using hg)).trans h
theorem Own.rl (h : Own w g k t xs) (hn : xs.length = n) : RL w k (some ⟨g, 0, none⟩) n xs :=
  ⟨hn, fun _ => ⟨g, 0, rfl, fun j x hx => by rw [Nat.zero_add]; exact h.cell hx⟩⟩
theorem Own.cast (h : Own w g k t xs) {ys : List Nat} (e : xs = ys) : Own w g k t ys := by subst e; exact h

/-- a row of the call's own, its leading zeros left out -/
theorem Own.trim (h : Own w g k t xs) {ys : List Nat} (e : trimL xs = ys) (hn : xs.length = n) : RL w k (some ⟨g, 0, none⟩) ys.length ys ∧ ys.length ≤ n := by
  subst e
  have h2 : (trimL xs).length ≤ n := by rw [← hn]; exact trimL_length_le xs
  have h3 := (h.rl hn).take_ h2
  rw [← trimL_eq_take] at h3
  exact ⟨h3, h2⟩
/-- what a row of the call's own reads as -/
theorem rl_of_own {base : Nat} {c : Nat} (h : w.ownsRow base t 1 (.slice A n c) n (cells k xs)) : RL w k A n xs := by
  have hl : xs.length = n := by have := h.1; rw [cells_length] at this; omega
  refine ⟨hl, fun hn => ?_⟩
  rcases h.2 with ⟨_, h0⟩ | ⟨g, cap, cur, hv, rest⟩
  · omega
  · injection hv with e1 _ _
    subst e1
    refine ⟨g, 0, rfl, fun j x hx => ?_⟩
    have := h.cells (g := g) rfl j (.int k (x : Int)) (by rw [cells_getElem?, hx]; rfl)
    have e : (⟨g, 0, none⟩ : Addr).add j = ⟨g, 0 + j, none⟩ := by unfold Addr.add; split <;> simp_all
    rwa [e] at this
end

/-- only block g, and what is new, has turned -/
theorem only_drewN {a w : World} {row : Option Nat} (h : a.grownBy w row) (n : Nat) : a.grownBy (w.drewN n) row := ⟨h.os, h.tape, h.output, h.size, h.block⟩
theorem only_drew {a w : World} {row : Option Nat} (h : a.grownBy w row) : a.grownBy w.drew row := ⟨h.os, h.tape, h.output, h.size, h.block⟩
theorem only_setCell {a w : World} {g : Nat} (h : a.grownBy w (some g)) {p : Addr} (hp : p.block = g ∨ a.heap.size ≤ p.block) (u : Value) : a.grownBy (w.setCell p u) (some g) :=
  ⟨h.os, h.tape, h.output, by simpa [World.setCell] using h.size, fun i hi hne => (Below.heap_setCell w p u i (by
    rintro rfl
    rcases hp with hp | hp
    · exact hne (by rw [hp])
    · omega)).trans (h.block i hi hne)⟩
theorem only_of_below {a w : World} (h : Below a.heap.size a w) (row : Option Nat) : a.grownBy w row := ⟨h.os, h.tape, h.output, h.size, fun i hi _ => h.block i hi⟩
theorem only_trans {a b c : World} {row : Option Nat} (h : a.grownBy b row) (k : b.grownBy c row) : a.grownBy c row :=
  ⟨k.os.trans h.os, k.tape.trans h.tape, k.output.trans h.output, Nat.le_trans h.size k.size, fun i hi hne => (k.block i (Nat.lt_of_lt_of_le hi h.size) hne).trans (h.block i hi hne)⟩
theorem below_drewN {B : Nat} {a w : World} (h : Below B a w) (n : Nat) : Below B a (w.drewN n) := ⟨h.os, h.tape, h.output, h.size, h.block⟩
theorem below_only {B g : Nat} {a w w' : World} (h : Below B a w) (k : w.grownBy w' (some g)) (hB : B ≤ w.heap.size) (hg : B ≤ g) : Below B a w' :=
  h.grown k hB (fun j e => by injection e with e; omega)

/-- a slice in which a value reads -/
def Gives (u : Nat) (w : World) (e : Ending) (w' : World) : Prop :=
  ∃ A n c, e = .returned (.slice A n c) ∧ RL w' .u32 A n (dig B9 u) ∧ n ≤ c ∧ c ≤ maxLen ∧ Below w.heap.size w w'
theorem madeCells_zero (k : IntKind) (n : Nat) : madeCells #[.int k 0] n = (cells k (List.replicate n 0)).toArray := by
  apply Array.ext'
  rw [toList_madeCells_one]
  simp [cells]

/-- 'make([]T, n)', T an integer type: a new block of n zeros; the world behind it under a name of its own. -/
theorem wpList_make_zero {P : Program} (w : World) {ops : Array Oper} {rest : List Oper} {o : Oper} {a : Act} {Q : Exit → Act → World → Prop}
    (hg : o.guard = none) (l c : Operand) (t : TypeId) (hop : o.op = Op.makeSlice t l c)
    (e : TypeId) (k : IntKind) (bytes : Nat) (h1 : P.underlying t = some (.slice e)) (h2 : (P.info? e).map (fun i => (i.zero, i.size, i.bytes)) = some (some (.int k 0), 1, bytes))
    (kl kc : IntKind) (L C : Int) (n : Nat) (hl : a.eval l = .int kl L) (hc : a.eval c = .int kc C) (hL : L = (n : Int)) (hC : C = (n : Int)) (hby : bytes ≤ 8) (hn : n ≤ 1099511627776)
    (hK : ∀ (g : Nat) (w' : World), w.heap.size ≤ g → Own w' g k e (List.replicate n 0) → Below w.heap.size w w' → wpList P ops Q rest (a.put o.dst (.slice (some ⟨g, 0, none⟩) n n)) w') :
    wpList P ops Q (o :: rest) a w := by
  refine wpList_plain hg fun K hK' => ?_
  obtain ⟨i, hi, hz, hs, hb⟩ := info_parts h2
  have hbb : (i.bytes : Int) * (n : Int) ≤ 281474976710656 := by
    have h : i.bytes * n ≤ 8 * 1099511627776 := Nat.mul_le_mul (by omega) hn
    have h' : ((i.bytes * n : Nat) : Int) ≤ 281474976710656 := by omega
    rwa [Int.natCast_mul] at h'
  have hr := run_make (P := P) w t e i (.int k 0) h1 hi hz kl kc (n : Int) (n : Int) (by omega) (Int.le_refl _) hbb (by omega)
  simp only [Int.toNat_natCast, hs, Nat.mul_one] at hr
  have ec : (Value.int k 0).cells = #[Value.int k 0] := rfl
  rw [ec, madeCells_zero] at hr
  subst hL
  subst hC
  unfold Oper.wp
  simp [execOp, hop, hl, hc, hr, Result.andThen]
  exact hK' _ _ (hK _ _ (Nat.le_refl _) (Own.new w k e _) ((Below.refl _ _).alloc (Nat.le_refl _) _))

theorem bcell {W w1 : World} (hb : Below W.heap.size W w1) : (∀ b o, b < W.heap.size → w1.cell? ⟨b, o, none⟩ = W.cell? ⟨b, o, none⟩) ∧ (∀ b o, b < W.heap.size → w1.frozen? ⟨b, o, none⟩ = W.frozen? ⟨b, o, none⟩) :=
  ⟨fun b o h => hb.cell (p := ⟨b, o, none⟩) h, fun b o h => hb.frozen (p := ⟨b, o, none⟩) h⟩
/-- a natural of a value -/
def GivesN (u : Nat) (w : World) (e : Ending) (w' : World) : Prop :=
  ∃ A n c, e = .returned (.agg #[.slice A n c]) ∧ RL w' .u32 A n (dig B9 u) ∧ n ≤ c ∧ c ≤ maxLen ∧ Below w.heap.size w w'

/-- the boxes of two parameters, and a result's cell -/
theorem box3 (w : World) (v0 v1 v2 : Value) (t0 t1 t2 : TypeId) :
    Below w.heap.size w (((w.alloc (.cells #[v0] t0)).alloc (.cells #[v1] t1)).alloc (.cells #[v2] t2)) ∧
    (((w.alloc (.cells #[v0] t0)).alloc (.cells #[v1] t1)).alloc (.cells #[v2] t2)).cell? ⟨w.heap.size, 0, none⟩ = some v0 ∧
    (((w.alloc (.cells #[v0] t0)).alloc (.cells #[v1] t1)).alloc (.cells #[v2] t2)).cell? ⟨w.heap.size + 1, 0, none⟩ = some v1 ∧
    (((w.alloc (.cells #[v0] t0)).alloc (.cells #[v1] t1)).alloc (.cells #[v2] t2)).heap[w.heap.size + 2]? = some (.cells #[v2] t2 (0, 0)) ∧
    (((w.alloc (.cells #[v0] t0)).alloc (.cells #[v1] t1)).alloc (.cells #[v2] t2)).heap.size = w.heap.size + 3 := by
  have e0 : (((w.alloc (.cells #[v0] t0)).alloc (.cells #[v1] t1)).alloc (.cells #[v2] t2)).heap[w.heap.size]? = some (.cells #[v0] t0 (0, 0)) := by
    rw [heap_alloc_old _ _ (by simp; omega), heap_alloc_old _ _ (by simp)]
    exact heap_alloc_new w _
  have e1 : (((w.alloc (.cells #[v0] t0)).alloc (.cells #[v1] t1)).alloc (.cells #[v2] t2)).heap[w.heap.size + 1]? = some (.cells #[v1] t1 (0, 0)) := by
    rw [heap_alloc_old _ _ (by simp)]
    exact heap_alloc2_new w _ _
  have e2 : (((w.alloc (.cells #[v0] t0)).alloc (.cells #[v1] t1)).alloc (.cells #[v2] t2)).heap[w.heap.size + 2]? = some (.cells #[v2] t2 (0, 0)) := by
    have := heap_alloc_new ((w.alloc (.cells #[v0] t0)).alloc (.cells #[v1] t1)) (.cells #[v2] t2)
    simpa using this
  refine ⟨(((Below.refl _ _).alloc (Nat.le_refl _) _).alloc (by simp) _).alloc (by simp; omega) _, ?_, ?_, e2, by simp⟩
  · rw [cell_of_row _ _ _ _ _ _ e0]; rfl
  · rw [cell_of_row _ _ _ _ _ _ e1]; rfl
/-- the boxes of two parameters -/
theorem box2 (w : World) (v0 v1 : Value) (t0 t1 : TypeId) :
    Below w.heap.size w ((w.alloc (.cells #[v0] t0)).alloc (.cells #[v1] t1)) ∧
    ((w.alloc (.cells #[v0] t0)).alloc (.cells #[v1] t1)).cell? ⟨w.heap.size, 0, none⟩ = some v0 ∧
    ((w.alloc (.cells #[v0] t0)).alloc (.cells #[v1] t1)).cell? ⟨w.heap.size + 1, 0, none⟩ = some v1 ∧
    ((w.alloc (.cells #[v0] t0)).alloc (.cells #[v1] t1)).heap.size = w.heap.size + 2 := by
  have e0 : ((w.alloc (.cells #[v0] t0)).alloc (.cells #[v1] t1)).heap[w.heap.size]? = some (.cells #[v0] t0 (0, 0)) := by
    rw [heap_alloc_old _ _ (by simp)]
    exact heap_alloc_new w _
  have e1 : ((w.alloc (.cells #[v0] t0)).alloc (.cells #[v1] t1)).heap[w.heap.size + 1]? = some (.cells #[v1] t1 (0, 0)) := heap_alloc2_new w _ _
  refine ⟨((Below.refl _ _).alloc (Nat.le_refl _) _).alloc (by simp) _, ?_, ?_, by simp⟩
  · rw [cell_of_row _ _ _ _ _ _ e0]; rfl
  · rw [cell_of_row _ _ _ _ _ _ e1]; rfl
theorem box1 (w : World) (v0 : Value) (t0 : TypeId) :
    Below w.heap.size w (w.alloc (.cells #[v0] t0)) ∧ (w.alloc (.cells #[v0] t0)).cell? ⟨w.heap.size, 0, none⟩ = some v0 ∧ (w.alloc (.cells #[v0] t0)).heap.size = w.heap.size + 1 := by
  refine ⟨(Below.refl _ _).alloc (Nat.le_refl _) _, ?_, by simp⟩
  rw [cell_of_row _ _ _ _ _ _ (heap_alloc_new w _)]; rfl
/-- a cell of another block -/
theorem cell_far (w : World) (p q : Addr) (u : Value) (h : q.block ≠ p.block) : (w.setCell p u).cell? q = w.cell? q := World.cell?_of_block (Below.heap_setCell w p u q.block h)
/-- the boxes of two parameters, and two results' cells -/
theorem box4 (w : World) (v0 v1 v2 v3 : Value) (t0 t1 t2 t3 : TypeId) (W : World) (hW : ((((w.alloc (.cells #[v0] t0)).alloc (.cells #[v1] t1)).alloc (.cells #[v2] t2)).alloc (.cells #[v3] t3)) = W) :
    Below w.heap.size w W ∧ W.cell? ⟨w.heap.size, 0, none⟩ = some v0 ∧ W.cell? ⟨w.heap.size + 1, 0, none⟩ = some v1 ∧ W.heap[w.heap.size + 2]? = some (.cells #[v2] t2 (0, 0)) ∧ W.heap[w.heap.size + 3]? = some (.cells #[v3] t3 (0, 0)) ∧ W.heap.size = w.heap.size + 4 := by
  obtain ⟨a1, a2, a3, a4, a5⟩ := box3 w v0 v1 v2 t0 t1 t2
  generalize ((w.alloc (.cells #[v0] t0)).alloc (.cells #[v1] t1)).alloc (.cells #[v2] t2) = V at *
  subst hW
  have hb : Below V.heap.size V (V.alloc (.cells #[v3] t3)) := (Below.refl _ _).alloc (Nat.le_refl _) _
  refine ⟨a1.trans (hb.mono a1.size), (hb.cell (p := ⟨w.heap.size, 0, none⟩) (by simp; omega)).trans a2, (hb.cell (p := ⟨w.heap.size + 1, 0, none⟩) (by simp; omega)).trans a3, (hb.block _ (by omega)).trans a4, ?_, by simp; omega⟩
  rw [← a5]
  exact heap_alloc_new V _
/-- one number in a new block -/
theorem RL.one (w : World) (k : IntKind) (t : TypeId) {v : Int} {x : Nat} (e : v = (x : Int)) : RL (w.alloc (.cells #[.int k v] t)) k (some ⟨w.heap.size, 0, none⟩) 1 [x] := by
  subst e
  exact (Own.new w k t [x]).rl rfl
/-- a block of one slice is no block of numbers -/
theorem RL.sp_slice {w : World} {k : IntKind} {A : Option Addr} {n : Nat} {xs : List Nat} {g : Nat} {S : Option Addr} {m c : Nat} {t : TypeId} {fr : Nat × Nat} (h : RL w k A n xs) (hg : w.heap[g]? = some (.cells #[.slice S m c] t fr)) : Sp A n g := by
  intro hn b o e
  rintro rfl
  subst e
  obtain ⟨x, _, hc⟩ := h.cell hn
  rw [cell_of_row w b _ _ t fr hg] at hc
  have h0 : o + 0 = 0 := by
    rcases Nat.eq_zero_or_pos (o + 0) with h | h
    · exact h
    · rw [Array.getElem?_eq_none (by simp; omega)] at hc; cases hc
  rw [h0] at hc
  simp at hc
theorem RL.store {w : World} {k : IntKind} {A : Option Addr} {n : Nat} {xs : List Nat} {g i : Nat} {S : Option Addr} {m c : Nat} {t : TypeId} {fr : Nat × Nat} (h : RL w k A n xs) (hg : w.heap[g]? = some (.cells #[.slice S m c] t fr)) (u : Value) : RL (w.setCell ⟨g, i, none⟩ u) k A n xs := by
  have hs := h.sp_slice hg
  refine ⟨h.1, fun hn => ?_⟩
  obtain ⟨b, o, e, hc⟩ := h.2 hn
  have hne := hs hn b o e
  exact ⟨b, o, e, fun j x hx => (World.cell?_of_block (a := ⟨b, o + j, none⟩) (Below.heap_setCell w ⟨g, i, none⟩ u b hne)).trans (hc j x hx)⟩
/-- the end of a function whose result is one natural: it lies in block g -/
theorem fin_struct {w W w2 : World} {g : Nat} {S A : Option Addr} {m d n c u : Nat} {t : TypeId} (hW : Below w.heap.size w W) (hb : Below W.heap.size W w2) (hg : w.heap.size ≤ g) (hc : W.heap[g]? = some (.cells #[.slice S m d] t (0, 0)))
    (hr : RL w2 .u32 A n (dig B9 u)) (hn : n ≤ c) (hm : c ≤ maxLen) : GivesN u w (.returned (.agg #[.slice A n c])) (w2.setCell ⟨g, 0, none⟩ (.slice A n c)) := by
  have hlt : g < W.heap.size := by
    rcases Nat.lt_or_ge g W.heap.size with h | h
    · exact h
    · rw [Array.getElem?_eq_none h] at hc; cases hc
  exact ⟨A, n, c, rfl, hr.store ((hb.block g hlt).trans hc) _, hn, hm, (hW.trans (hb.mono hW.size)).setCell hg _⟩

/-- a natural of a value, and an error's number -/
def GivesNE (u : Nat) (er : Int) (w : World) (e : Ending) (w' : World) : Prop :=
  ∃ A n c, e = .returned (.tuple #[.agg #[.slice A n c], .int .i64 er]) ∧ RL w' .u32 A n (dig B9 u) ∧ n ≤ c ∧ c ≤ maxLen ∧ Below w.heap.size w w'
theorem fin_structE {w W w2 : World} {g : Nat} {S A : Option Addr} {m d n c u : Nat} {t : TypeId} {er : Int} (hW : Below w.heap.size w W) (hb : Below W.heap.size W w2) (hg : w.heap.size ≤ g) (hc : W.heap[g]? = some (.cells #[.slice S m d] t (0, 0)))
    (hr : RL w2 .u32 A n (dig B9 u)) (hn : n ≤ c) (hm : c ≤ maxLen) : GivesNE u er w (.returned (.tuple #[.agg #[.slice A n c], .int .i64 er])) (w2.setCell ⟨g, 0, none⟩ (.slice A n c)) := by
  obtain ⟨A', n', c', he, r1, r2, r3, r4⟩ := fin_struct (u := u) hW hb hg hc hr hn hm
  injection he with he; injection he with he; injection he with he; injection he with he _; injection he with e1 e2 e3
  subst e1; subst e2; subst e3
  exact ⟨_, _, _, rfl, r1, r2, r3, r4⟩

/-- the end of a function whose results are two naturals and an error -/
def GivesDM (u v : Nat) (er : Int) (w : World) (e : Ending) (w' : World) : Prop :=
  ∃ A n c A' n' c', e = .returned (.tuple #[.agg #[.slice A n c], .agg #[.slice A' n' c'], .int .i64 er]) ∧ RL w' .u32 A n (dig B9 u) ∧ n ≤ c ∧ c ≤ maxLen ∧ RL w' .u32 A' n' (dig B9 v) ∧ n' ≤ c' ∧ c' ≤ maxLen ∧ Below w.heap.size w w'
theorem fin_structDM {w W w2 : World} {g : Nat} {S S' A A' : Option Addr} {m d m' d' n c n' c' u v : Nat} {t t' : TypeId} {er : Int} (hW : Below w.heap.size w W) (hb : Below W.heap.size W w2) (hg : w.heap.size ≤ g) (hc : W.heap[g]? = some (.cells #[.slice S m d] t (0, 0))) (hc' : W.heap[g + 1]? = some (.cells #[.slice S' m' d'] t' (0, 0)))
    (hr : RL w2 .u32 A n (dig B9 u)) (hn : n ≤ c) (hm : c ≤ maxLen) (hr' : RL w2 .u32 A' n' (dig B9 v)) (hn' : n' ≤ c') (hm' : c' ≤ maxLen) :
    GivesDM u v er w (.returned (.tuple #[.agg #[.slice A n c], .agg #[.slice A' n' c'], .int .i64 er])) ((w2.setCell ⟨g, 0, none⟩ (.slice A n c)).setCell ⟨g + 1, 0, none⟩ (.slice A' n' c')) := by
  have lt : ∀ i o, W.heap[i]? = some o → i < W.heap.size := by
    intro i o h
    rcases Nat.lt_or_ge i W.heap.size with h1 | h1
    · exact h1
    · rw [Array.getElem?_eq_none h1] at h; cases h
  have e1 := (hb.block g (lt _ _ hc)).trans hc
  have e2 := (hb.block (g + 1) (lt _ _ hc')).trans hc'
  have e3 : (w2.setCell ⟨g, 0, none⟩ (.slice A n c)).heap[g + 1]? = some (.cells #[.slice S' m' d'] t' (0, 0)) := (Below.heap_setCell w2 ⟨g, 0, none⟩ (.slice A n c) (g + 1) (by simp)).trans e2
  exact ⟨A, n, c, A', n', c', rfl, (hr.store e1 _).store e3 _, hn, hm, (hr'.store e1 _).store e3 _, hn', hm', ((hW.trans (hb.mono hW.size)).setCell hg _).setCell (by simp; omega) _⟩

/-- A row of the call's own: the slice '.slice A n c' is nil, or the head of a block from base on. -/
def Row (w : World) (base : Nat) (k : IntKind) (t : TypeId) (A : Option Addr) (n c : Nat) (xs : List Nat) : Prop := w.ownsRow base t 1 (.slice A n c) n (cells k xs)
section
variable {w w' : World} {base n c g : Nat} {k : IntKind} {A : Option Addr} {xs : List Nat} {t : TypeId}
theorem Row.nil_ : Row w base k t none 0 0 [] := World.ownsRow_nil _ _ _ _
theorem Row.len (h : Row w base k t A n c xs) : xs.length = n := by have := h.1; rw [cells_length] at this; omega
theorem Row.rl (h : Row w base k t A n c xs) : RL w k A n xs := rl_of_own h
theorem Row.le (h : Row w base k t A n c xs) : n ≤ c ∧ c ≤ maxLen := by
  rcases h.2 with ⟨h1, h0⟩ | ⟨g, cap, cur, hv, _, _, h1, h2, _⟩
  · injection h1 with _ e1 e2; subst e1; subst e2; exact ⟨Nat.le_refl _, by simp [maxLen]⟩
  · injection hv with _ _ e; subst e; exact ⟨h1, h2⟩
theorem Row.alloc (h : Row w base k t A n c xs) (o : Obj) : Row (w.alloc o) base k t A n c xs := World.ownsRow.alloc h o
theorem Row.drewN (h : Row w base k t A n c xs) (m : Nat) : Row (w.drewN m) base k t A n c xs := h
theorem Row.below {B : Nat} (h : Row w base k t A n c xs) (hb : Below B w w') (hB : w.heap.size ≤ B) : Row w' base k t A n c xs :=
  World.ownsRow.kept (row := none) h ⟨hb.os, hb.tape, hb.output, hb.size, fun i hi _ => hb.block i (by omega)⟩ (by cases A <;> simp [Value.ownBlock])
theorem Row.new (w : World) (k : IntKind) (t : TypeId) (hb : base ≤ w.heap.size) : Row (w.alloc (.cells #[] t)) base k t (some ⟨w.heap.size, 0, none⟩) 0 0 [] :=
  World.ownsRow_made w #[] 0 hb (by simp [maxLen]) (by simp)
end

/-- 'append(s, xs...)': s the call's own, xs whatever reads. -/
theorem run_append_rl {P : Program} (w : World) (base : Nat) (t ty e : TypeId) (k : IntKind) (bytes : Nat) (ht : P.underlying t = some (.slice e)) (h2 : (P.info? e).map (fun i => (i.zero, i.size, i.bytes)) = some (some (.int k 0), 1, bytes))
    (S : Option Addr) (n cs : Nat) (xs : List Nat) (hown : Row w base k e S n cs xs) (A : Option Addr) (m c : Nat) (news : List Nat) (hr : RL w k A m news) (hby : bytes ≤ 8) (hN : n + m ≤ 1099511627776) (hbase : base ≤ w.heap.size) :
    ∃ A' c' w', (Builtin.append_ #[t, t] ty #[.slice S n cs, .slice A m c]).run P w = .ok (.slice A' (n + m) c') w' ∧ Row w' base k e A' (n + m) c' (xs ++ news) ∧ Below base w w' ∧ w.heap.size ≤ w'.heap.size := by
  obtain ⟨i, hi, hz, hs, hb⟩ := info_parts h2
  have hcl : ∀ g, (Value.slice S n cs).ownBlock = some g → base ≤ g := fun g hg => (World.ownsRow.lt hown g hg).1
  have hnm : (n + m) * bytes ≤ 140737488355328 := by have : (n + m) * bytes ≤ 1099511627776 * 8 := Nat.mul_le_mul hN hby; omega
  by_cases hm : m = 0
  · subst hm
    have hn : news = [] := List.eq_nil_of_length_eq_zero hr.len
    subst hn
    have hrow : Row w base k e S (n + 0) cs (xs ++ []) := by simpa using hown
    rcases hown.2 with ⟨h1, h0⟩ | ⟨g, cap, cur, h1, _, hg, hnc, _⟩
    · injection h1 with e1 e2 e3
      subst e1; subst e2; subst e3
      cases A with
      | none => exact ⟨none, 0, w, by simp [Builtin.append_, run_underlying ht, sizeOf, typeInfo, hi, Builtin.lenOf, Builtin.firstCells], hrow, Below.refl _ _, Nat.le_refl _⟩
      | some a =>
        obtain ⟨v', w', hrun, r1, r2, r3, _⟩ := run_append_own_at (P := P) w base t ty e i (.int k 0) 1 bytes ht hi hz hs hb rfl (by omega) _ _ _ hown a 0 c [] rfl (by simp) (by simp) (by simp only [maxLen]; omega) hnm hbase
        have hv : v' = .slice none 0 0 := r3.2 ⟨rfl, rfl⟩
        subst hv
        exact ⟨none, 0, w', hrun, by simpa [Row, cells] using r1, (Below.refl _ _).grown r2 hbase (fun j hj => by cases hj), r2.size⟩
    · injection h1 with e1 _ e3
      subst e1; subst e3
      cases A with
      | none => exact ⟨_, _, w, by simp [Builtin.append_, run_underlying ht, sizeOf, typeInfo, hi, Builtin.lenOf, Builtin.firstCells, hnc, storeCells], hrow, Below.refl _ _, Nat.le_refl _⟩
      | some a =>
        obtain ⟨v', w', hrun, r1, r2, r3, _⟩ := run_append_own_at (P := P) w base t ty e i (.int k 0) 1 bytes ht hi hz hs hb rfl (by omega) _ _ _ hown a 0 c [] rfl (by simp) (by simp) (by simp only [maxLen]; omega) hnm hbase
        have hv : ∃ A' c', v' = .slice A' (n + 0) c' := by
          rcases r1.2 with ⟨h, h0⟩ | ⟨g', cap', _, h, _⟩
          · exact ⟨none, 0, by rw [h, h0]⟩
          · exact ⟨_, _, h⟩
        obtain ⟨A', c', rfl⟩ := hv
        exact ⟨A', c', w', hrun, by simpa [Row, cells] using r1, (Below.refl _ _).grown r2 hbase hcl, r2.size⟩
  · obtain ⟨b, o, e', hc⟩ := hr.2 (by omega)
    subst e'
    have hnews : ∀ j u, (cells k news)[j]? = some u → w.cell? ((⟨b, o, none⟩ : Addr).add j) = some u := by
      intro j u hu
      rw [cells_getElem?] at hu
      obtain ⟨x, hx, rfl⟩ := Option.map_eq_some_iff.1 hu
      have ea : (⟨b, o, none⟩ : Addr).add j = ⟨b, o + j, none⟩ := by unfold Addr.add; split <;> simp_all
      rw [ea]
      exact hc j x hx
    obtain ⟨v', w', hrun, r1, r2, _, _⟩ := run_append_own_at (P := P) w base t ty e i (.int k 0) 1 bytes ht hi hz hs hb rfl (by omega) _ _ _ hown ⟨b, o, none⟩ m c (cells k news) (by rw [cells_length, hr.len]; omega) hnews (cells_one k news)
      (by simp only [maxLen]; omega) hnm hbase
    have hv : ∃ A' c', v' = .slice A' (n + m) c' := by
      rcases r1.2 with ⟨h, h0⟩ | ⟨g', cap', _, h, _⟩
      · exact ⟨none, 0, by rw [h, h0]⟩
      · exact ⟨_, _, h⟩
    obtain ⟨A', c', rfl⟩ := hv
    exact ⟨A', c', w', hrun, by unfold Row; rw [cells_append]; exact r1, (Below.refl _ _).grown r2 hbase hcl, r2.size⟩

theorem wpList_append_rl {P : Program} (w : World) {ops : Array Oper} {rest : List Oper} {o : Oper} {a : Act} {Q : Exit → Act → World → Prop} (hgd : o.guard = none) (s x : Operand) (t : TypeId)
    (ho : o.op = .call { callee := .builtin .append, args := #[s, x], argTypes := #[t, t] })
    (base : Nat) (e : TypeId) (k : IntKind) (bytes : Nat) (ht : P.underlying t = some (.slice e)) (h2 : (P.info? e).map (fun i => (i.zero, i.size, i.bytes)) = some (some (.int k 0), 1, bytes))
    (S : Option Addr) (n cs : Nat) (xs : List Nat) (hs : a.eval s = .slice S n cs) (hown : Row w base k e S n cs xs)
    (A : Option Addr) (m c : Nat) (news : List Nat) (hx : a.eval x = .slice A m c) (hr : RL w k A m news) (hby : bytes ≤ 8) (p : Nat) (hp : p = n + m) (hN : p ≤ 1099511627776) (hbase : base ≤ w.heap.size)
    (h : ∀ A' c' w', Row w' base k e A' p c' (xs ++ news) → Below base w w' → w.heap.size ≤ w'.heap.size → wpList P ops Q rest (a.put o.dst (.slice A' p c')) w') : wpList P ops Q (o :: rest) a w :=
  wpList_plain hgd fun K hK => by
    subst hp
    obtain ⟨A', c', w', hrun, h2, h3, h4⟩ := run_append_rl (P := P) w base t o.type e k bytes ht h2 S n cs xs hown A m c news hr hby hN hbase
    unfold Oper.wp execOp
    simp only [ho, resolve, invoke, builtin, Sem.run_bind, Sem.run_pure, Result.andThen_ok, List.map_toArray, List.map_cons, List.map_nil, hs, hx, hrun]
    exact hK _ _ (h A' c' w' h2 h3 h4)
end Go.Proofs.YtaapcfflnklpjaaGreatDoor

/- Words for boxes: a block of known cells. -/
namespace Go.Proofs.YtaapcfflnklpjaaGreatDoor
open Go Go.RowKit

/-- Block g is just these cells. -/
def Box (w : World) (g : Nat) (vs : Array Value) (t : TypeId) : Prop := w.heap[g]? = some (.cells vs t (0, 0))
section
variable {w w' : World} {g B : Nat} {vs : Array Value} {t : TypeId} {v : Value}
theorem Box.lt (h : Box w g vs t) : g < w.heap.size := by
  rcases Nat.lt_or_ge g w.heap.size with hlt | hge
  · exact hlt
  · unfold Box at h; rw [Array.getElem?_eq_none hge] at h; cases h
theorem Box.at_ (h : Box w g vs t) (j : Nat) : w.cell? ⟨g, j, none⟩ = vs[j]? := cell_of_row w g j _ t (0, 0) h
theorem Box.cell (h : Box w g #[v] t) : w.cell? ⟨g, 0, none⟩ = some v := by rw [h.at_ 0]; rfl
theorem Box.frozen (h : Box w g vs t) (j : Nat) : w.frozen? ⟨g, j, none⟩ = false := frozen_of_row w g j _ t h
theorem Box.below (h : Box w g vs t) (hb : Below B w w') (hg : g < B) : Box w' g vs t := (hb.block g hg).trans h
theorem Box.below' (h : Box w g vs t) (hb : Below w.heap.size w w') : Box w' g vs t := h.below hb h.lt
theorem Box.far (h : Box w g vs t) {p : Addr} (hp : g ≠ p.block) (u : Value) : Box (w.setCell p u) g vs t := (Below.heap_setCell w p u g hp).trans h
theorem Box.set_ (h : Box w g vs t) (i : Nat) (u : Value) : Box (w.setCell ⟨g, i, none⟩ u) g (vs.setIfInBounds i u) t := by
  unfold Box at h ⊢
  simp [World.setCell, Array.getElem?_modify, h]
theorem Box.put (h : Box w g #[v] t) (u : Value) : Box (w.setCell ⟨g, 0, none⟩ u) g #[u] t := by
  have := h.set_ 0 u
  simpa using this
theorem Box.drewN (h : Box w g vs t) (m : Nat) : Box (w.drewN m) g vs t := h
theorem Box.alloc (h : Box w g vs t) (o : Obj) : Box (w.alloc o) g vs t := (Below.heap_alloc w o g h.lt).trans h
theorem Box.new (w : World) (vs : Array Value) (t : TypeId) : Box (w.alloc (.cells vs t)) w.heap.size vs t := heap_alloc_new w _
end
/-- no cell of a block of other things reads as a number -/
theorem RL.box {w : World} {k : IntKind} {A : Option Addr} {n : Nat} {xs : List Nat} {g i : Nat} {vs : Array Value} {t : TypeId} (h : RL w k A n xs) (hg : Box w g vs t) (hv : ∀ (j : Nat) (x : Int), vs[j]? ≠ some (Value.int k x)) (u : Value) : RL (w.setCell ⟨g, i, none⟩ u) k A n xs := by
  refine ⟨h.1, fun hn => ?_⟩
  obtain ⟨b, o, e, hc⟩ := h.2 hn
  have hne : b ≠ g := by
    rintro rfl
    have hl : 0 < xs.length := by have := h.1; omega
    have := hc 0 xs[0] (List.getElem?_eq_getElem hl)
    rw [hg.at_] at this
    exact hv _ _ this
  exact ⟨b, o, e, fun j x hx => (World.cell?_of_block (a := ⟨b, o + j, none⟩) (Below.heap_setCell w ⟨g, i, none⟩ u b hne)).trans (hc j x hx)⟩
theorem no_int1 {S : Option Addr} {m c : Nat} {k : IntKind} : ∀ (j : Nat) (x : Int), (#[Value.slice S m c] : Array Value)[j]? ≠ some (.int k x) := by
  intro j x h
  rcases j with _ | j
  · simp at h
  · simp at h
theorem RL.put {w : World} {k : IntKind} {A : Option Addr} {n : Nat} {xs : List Nat} {g i : Nat} {S : Option Addr} {m c : Nat} {t : TypeId} (h : RL w k A n xs) (hg : Box w g #[.slice S m c] t) (u : Value) : RL (w.setCell ⟨g, i, none⟩ u) k A n xs := h.box hg no_int1 u

theorem boxes1 {w W : World} {v0 : Value} {t0 : TypeId} (hW : w.alloc (.cells #[v0] t0) = W) : Below w.heap.size w W ∧ Box W w.heap.size #[v0] t0 ∧ W.heap.size = w.heap.size + 1 := by
  subst hW
  exact ⟨(Below.refl _ _).alloc (Nat.le_refl _) _, Box.new _ _ _, by simp⟩
theorem boxes2 {w W : World} {v0 v1 : Value} {t0 t1 : TypeId} (hW : (w.alloc (.cells #[v0] t0)).alloc (.cells #[v1] t1) = W) :
    Below w.heap.size w W ∧ Box W w.heap.size #[v0] t0 ∧ Box W (w.heap.size + 1) #[v1] t1 ∧ W.heap.size = w.heap.size + 2 := by
  obtain ⟨a, b, c⟩ := boxes1 (rfl : w.alloc (.cells #[v0] t0) = _)
  generalize w.alloc (.cells #[v0] t0) = V at *
  subst hW
  refine ⟨a.alloc (by omega) _, b.alloc _, ?_, by simp; omega⟩
  rw [← c]; exact Box.new _ _ _
theorem boxes3 {w W : World} {v0 v1 v2 : Value} {t0 t1 t2 : TypeId} (hW : ((w.alloc (.cells #[v0] t0)).alloc (.cells #[v1] t1)).alloc (.cells #[v2] t2) = W) :
    Below w.heap.size w W ∧ Box W w.heap.size #[v0] t0 ∧ Box W (w.heap.size + 1) #[v1] t1 ∧ Box W (w.heap.size + 2) #[v2] t2 ∧ W.heap.size = w.heap.size + 3 := by
  obtain ⟨a, b, b', c⟩ := boxes2 (rfl : (w.alloc (.cells #[v0] t0)).alloc (.cells #[v1] t1) = _)
  generalize (w.alloc (.cells #[v0] t0)).alloc (.cells #[v1] t1) = V at *
  subst hW
  refine ⟨a.alloc (by omega) _, b.alloc _, b'.alloc _, ?_, by simp; omega⟩
  rw [← c]; exact Box.new _ _ _
theorem boxes4 {w W : World} {v0 v1 v2 v3 : Value} {t0 t1 t2 t3 : TypeId} (hW : (((w.alloc (.cells #[v0] t0)).alloc (.cells #[v1] t1)).alloc (.cells #[v2] t2)).alloc (.cells #[v3] t3) = W) :
    Below w.heap.size w W ∧ Box W w.heap.size #[v0] t0 ∧ Box W (w.heap.size + 1) #[v1] t1 ∧ Box W (w.heap.size + 2) #[v2] t2 ∧ Box W (w.heap.size + 3) #[v3] t3 ∧ W.heap.size = w.heap.size + 4 := by
  obtain ⟨a, b, b', b'', c⟩ := boxes3 (rfl : ((w.alloc (.cells #[v0] t0)).alloc (.cells #[v1] t1)).alloc (.cells #[v2] t2) = _)
  generalize ((w.alloc (.cells #[v0] t0)).alloc (.cells #[v1] t1)).alloc (.cells #[v2] t2) = V at *
  subst hW
  refine ⟨a.alloc (by omega) _, b.alloc _, b'.alloc _, b''.alloc _, ?_, by simp; omega⟩
  rw [← c]; exact Box.new _ _ _
end Go.Proofs.YtaapcfflnklpjaaGreatDoor

/- Decimal texts, the mathematics. -/
namespace Go.Proofs.YtaapcfflnklpjaaGreatDoor
open Go Go.RowKit

def d9 (x k : Nat) : List Nat := (List.range k).map fun j => 48 + x / (10 ^ (9 - j) / 10) % 10
theorem d9_succ (x k : Nat) : d9 x (k + 1) = d9 x k ++ [48 + x / (10 ^ (9 - k) / 10) % 10] := by simp [d9, List.range_succ]
def dec (n x : Nat) : List Nat := (List.range n).map fun j => 48 + x / 10 ^ (n - 1 - j) % 10
def asc (x : Nat) : List Nat := dec (Lib.nDigits x) x
def strN (bs : List Nat) : ByteArray := ⟨(bs.map UInt8.ofNat).toArray⟩
theorem run_conv (w : World) (A : Option Addr) (n c : Nat) (bs : List Nat) (hr : RL w .u8 A n bs) (hn : 0 < n) : (convert 80 9 (.slice A n c)).run Tryz.prog w = .ok (.string (strN bs)) w := by
  obtain ⟨b, o, rfl, hc⟩ := hr.2 hn
  have h := run_convert_bytes_arg (P := Tryz.prog) w 80 5 Tryz.underlying80 Tryz.underlying5 b o n c (bs.map (fun x : Nat => (x : Int))) (by rw [List.length_map]; exact hr.len)
    (fun i hi => by
      have hl : i < bs.length := by rw [hr.len]; exact hi
      rw [hc i bs[i] (List.getElem?_eq_getElem hl)]
      simp [List.getD, List.getElem?_eq_getElem hl]) 9 Tryz.underlying9
  rw [h]
  simp [strOfNums, strN]
theorem asc_eq {n v : Nat} (h1 : 10 ^ n ≤ v) (h2 : v < 10 ^ (n + 1)) : asc v = dec (n + 1) v := by rw [asc, Lib.nDigits_unique n v h1 h2]
theorem asc_small {v : Nat} (h : v < 10) : asc v = [48 + v] := by
  rw [asc, Lib.nDigits_small h]
  show [48 + v / 1 % 10] = _
  rw [Nat.div_one, Nat.mod_eq_of_lt h]
theorem nDigits_pow : ∀ (m x V : Nat), V ≠ 0 → x < 10 ^ m → Lib.nDigits (x + 10 ^ m * V) = Lib.nDigits V + m
  | 0, x, V, _, hx => by
    obtain rfl : x = 0 := by simp at hx; exact hx
    simp
  | m + 1, x, V, hV, hx => by
    have e : (x + 10 ^ (m + 1) * V) / 10 = x / 10 + 10 ^ m * V := by
      rw [Nat.pow_succ, Nat.mul_comm (10 ^ m) 10, Nat.mul_assoc, Nat.add_mul_div_left _ _ (by decide)]
    have hbig : ¬ x + 10 ^ (m + 1) * V < 10 := by
      have h1 : 10 ^ 1 * 1 ≤ 10 ^ (m + 1) * V := Nat.mul_le_mul (Nat.pow_le_pow_right (by decide) (by omega)) (Nat.one_le_iff_ne_zero.2 hV)
      omega
    rw [Lib.nDigits_big hbig, e, nDigits_pow m (x / 10) V hV (by rw [Nat.pow_succ] at hx; exact (Nat.div_lt_iff_lt_mul (by decide)).2 hx)]
    omega
theorem dec_split (n m x V : Nat) (hx : x < 10 ^ m) : dec (n + m) (x + 10 ^ m * V) = dec n V ++ dec m x := by
  unfold dec
  rw [List.range_add, List.map_append, List.map_map]
  congr 1
  · apply List.map_congr_left
    intro j hj
    have hj' := List.mem_range.1 hj
    have e1 : n + m - 1 - j = m + (n - 1 - j) := by omega
    rw [e1, Nat.pow_add, ← Nat.div_div_eq_div_mul, Nat.add_mul_div_left _ _ (Nat.pow_pos (by decide)), Nat.div_eq_of_lt hx, Nat.zero_add]
  · apply List.map_congr_left
    intro j hj
    have hj' := List.mem_range.1 hj
    show 48 + (x + 10 ^ m * V) / 10 ^ (n + m - 1 - (n + j)) % 10 = 48 + x / 10 ^ (m - 1 - j) % 10
    have e1 : n + m - 1 - (n + j) = m - 1 - j := by omega
    have e2 : 10 ^ m * V = 10 ^ (m - 1 - j) * (10 * (10 ^ j * V)) := by
      have : 10 ^ m = 10 ^ (m - 1 - j) * (10 * 10 ^ j) := by
        rw [← Nat.pow_succ', ← Nat.pow_add]; congr 1; omega
      rw [this, Nat.mul_assoc, Nat.mul_assoc]
    rw [e1, e2, Nat.add_mul_div_left _ _ (Nat.pow_pos (by decide)), Nat.add_mul_mod_self_left]
theorem d9_dec (x : Nat) : d9 x 9 = dec 9 x := rfl
theorem asc_step {x V : Nat} (hV : V ≠ 0) (hx : x < 1000000000) : asc (x + B9 * V) = asc V ++ d9 x 9 := by
  have h := nDigits_pow 9 x V hV hx
  have e : Lib.nDigits (x + B9 * V) = Lib.nDigits V + 9 := h
  rw [asc, e, d9_dec, asc]
  exact dec_split _ 9 x V hx
theorem asc_pos (v : Nat) : 0 < (asc v).length := by
  rw [asc, dec, List.length_map, List.length_range, Lib.nDigits]
  split <;> omega
theorem u32_info : (Tryz.prog.info? 117).map (fun i => (i.zero, i.size, i.bytes)) = some (some (.int .u32 0), 1, 4) := by kernel_rfl
open Go

/-- the value of a list of digits, the greatest first -/
def decV (l : List Nat) : Nat := l.foldl (fun a x => 10 * a + (x - 48)) 0
theorem decV_nil : decV [] = 0 := rfl
theorem decV_snoc (l : List Nat) (x : Nat) : decV (l ++ [x]) = 10 * decV l + (x - 48) := by simp [decV]
def AllDig (l : List Nat) : Prop := ∀ x ∈ l, 48 ≤ x ∧ x ≤ 57
theorem AllDig.snoc {l : List Nat} {x : Nat} (h : AllDig (l ++ [x])) : AllDig l ∧ 48 ≤ x ∧ x ≤ 57 :=
  ⟨fun y hy => h y (by simp [hy]), h x (by simp)⟩
theorem AllDig.left {l m : List Nat} (h : AllDig (l ++ m)) : AllDig l := fun y hy => h y (by simp [hy])
theorem AllDig.right {l m : List Nat} (h : AllDig (l ++ m)) : AllDig m := fun y hy => h y (by simp [hy])
theorem AllDig.take {l : List Nat} (h : AllDig l) (k : Nat) : AllDig (l.take k) := fun y hy => h y (List.mem_of_mem_take hy)
theorem AllDig.drop {l : List Nat} (h : AllDig l) (k : Nat) : AllDig (l.drop k) := fun y hy => h y (List.mem_of_mem_drop hy)

theorem snoc_ind {α : Type} {P : List α → Prop} (h0 : P []) (h1 : ∀ l x, P l → P (l ++ [x])) : ∀ l, P l := by
  intro l
  have : ∀ m : List α, P m.reverse := by
    intro m
    induction m with
    | nil => exact h0
    | cons x m ih => rw [List.reverse_cons]; exact h1 _ _ ih
  have h := this l.reverse
  rwa [List.reverse_reverse] at h

theorem decV_append (l m : List Nat) : decV (l ++ m) = decV l * 10 ^ m.length + decV m := by
  induction m using snoc_ind with
  | h0 => simp [decV]
  | h1 m x ih =>
    rw [← List.append_assoc, decV_snoc, ih, decV_snoc, List.length_append, List.length_singleton, Nat.pow_succ]
    have e : 10 * (decV l * 10 ^ m.length) = decV l * (10 ^ m.length * 10) := by rw [Nat.mul_comm 10, Nat.mul_assoc]
    rw [Nat.mul_add, e]
    omega
theorem decV_lt (l : List Nat) (h : AllDig l) : decV l < 10 ^ l.length := by
  induction l using snoc_ind with
  | h0 => simp [decV]
  | h1 l x ih =>
    obtain ⟨h1, h2⟩ := h.snoc
    have := ih h1
    rw [decV_snoc, List.length_append, List.length_singleton, Nat.pow_succ]
    omega
theorem dec_one {d : Nat} (h : d < 10) : dec 1 d = [48 + d] := by
  show [48 + d / 1 % 10] = _
  rw [Nat.div_one, Nat.mod_eq_of_lt h]
theorem dec_succ (n v : Nat) : dec (n + 1) v = dec n (v / 10) ++ [48 + v % 10] := by
  have h := dec_split n 1 (v % 10) (v / 10) (Nat.mod_lt _ (by decide))
  rw [dec_one (Nat.mod_lt _ (by decide))] at h
  have e : v % 10 + 10 ^ 1 * (v / 10) = v := by rw [Nat.pow_one]; omega
  rwa [e] at h
theorem dec_decV (l : List Nat) (h : AllDig l) : dec l.length (decV l) = l := by
  induction l using snoc_ind with
  | h0 => rfl
  | h1 l x ih =>
    obtain ⟨h1, h2⟩ := h.snoc
    rw [List.length_append, List.length_singleton, dec_succ, decV_snoc]
    have e1 : (10 * decV l + (x - 48)) / 10 = decV l := by omega
    have e2 : 48 + (10 * decV l + (x - 48)) % 10 = x := by omega
    rw [e1, e2, ih h1]
theorem decV_dec (n v : Nat) (h : v < 10 ^ n) : decV (dec n v) = v := by
  induction n generalizing v with
  | zero => simp at h; subst h; rfl
  | succ n ih =>
    rw [dec_succ, decV_snoc, ih (v / 10) (by rw [Nat.pow_succ] at h; omega)]
    omega
theorem dec_length (n v : Nat) : (dec n v).length = n := by simp [dec]
theorem dec_digits (n v : Nat) : AllDig (dec n v) := by
  intro x hx
  unfold dec at hx
  obtain ⟨j, _, rfl⟩ := List.mem_map.1 hx
  omega
theorem dec_head (n v : Nat) (h : 10 ^ n ≤ v) (h2 : v < 10 ^ (n + 1)) : ∃ y l, dec (n + 1) v = y :: l ∧ y ≠ 48 := by
  refine ⟨48 + v / 10 ^ n % 10, (List.range n).map fun j => 48 + v / 10 ^ (n + 1 - 1 - (j + 1)) % 10, ?_, ?_⟩
  · unfold dec
    rw [List.range_succ_eq_map, List.map_cons, List.map_map]
    rfl
  · have h1 : 1 ≤ v / 10 ^ n := (Nat.le_div_iff_mul_le (Nat.pow_pos (by decide))).2 (by omega)
    have h3 : v / 10 ^ n < 10 := (Nat.div_lt_iff_lt_mul (Nat.pow_pos (by decide))).2 (by rw [Nat.pow_succ] at h2; omega)
    omega
theorem asc_zero : asc 0 = [48] := asc_small (by decide)
/-- how many digits a number has, told by its size -/
theorem asc_pow {v : Nat} (h : v ≠ 0) : ∃ n, 10 ^ n ≤ v ∧ v < 10 ^ (n + 1) ∧ asc v = dec (n + 1) v := by
  have : ∀ m v : Nat, v ≤ m → v ≠ 0 → ∃ n, 10 ^ n ≤ v ∧ v < 10 ^ (n + 1) := by
    intro m
    induction m with
    | zero => intro v h1 h2; omega
    | succ m ih =>
      intro v h1 h2
      by_cases h3 : v < 10
      · exact ⟨0, by simp; omega, by simpa using h3⟩
      · obtain ⟨n, h4, h5⟩ := ih (v / 10) (by omega) (by omega)
        refine ⟨n + 1, ?_, ?_⟩
        · rw [Nat.pow_succ]; omega
        · rw [Nat.pow_succ]; omega
  obtain ⟨n, h1, h2⟩ := this v v (Nat.le_refl _) h
  exact ⟨n, h1, h2, asc_eq h1 h2⟩
theorem asc_digits (v : Nat) : AllDig (asc v) := dec_digits _ _
theorem asc_len (v : Nat) : (asc v).length = nd v := by
  by_cases h : v = 0
  · subst h; rw [asc_zero]; rfl
  · obtain ⟨n, h1, h2, h3⟩ := asc_pow h
    rw [h3, dec_length]
    have e1 := (dig_length_le 10 (by decide) (n + 1) v).2 h2
    have e2 : ¬ (dig 10 v).length ≤ n := fun h4 => by
      have := (dig_length_le 10 (by decide) n v).1 h4
      omega
    unfold nd
    rw [if_neg h]
    omega
theorem decV_asc (v : Nat) : decV (asc v) = v := by
  by_cases h : v = 0
  · subst h; rw [asc_zero]; rfl
  · obtain ⟨n, _, h2, h3⟩ := asc_pow h
    rw [h3]; exact decV_dec _ _ h2
/-- the texts of naturals -/
def IsT (l : List Nat) : Prop := AllDig l ∧ (l = [48] ∨ ∃ y m, l = y :: m ∧ y ≠ 48)
theorem isT_asc (v : Nat) : IsT (asc v) := by
  refine ⟨asc_digits v, ?_⟩
  by_cases h : v = 0
  · subst h; exact .inl asc_zero
  · obtain ⟨n, h1, h2, h3⟩ := asc_pow h
    rw [h3]; exact .inr (dec_head n v h1 h2)
theorem decV_head {y : Nat} {m : List Nat} (h : AllDig (y :: m)) (hy : y ≠ 48) : 10 ^ m.length ≤ decV (y :: m) := by
  have e : y :: m = [y] ++ m := rfl
  rw [e, decV_append]
  have h1 := h y (by simp)
  have e2 : decV [y] = y - 48 := by simp [decV]
  rw [e2]
  have : 1 * 10 ^ m.length ≤ (y - 48) * 10 ^ m.length := Nat.mul_le_mul_right _ (by omega)
  omega
theorem asc_decV {l : List Nat} (h : IsT l) : asc (decV l) = l := by
  obtain ⟨h1, rfl | ⟨y, m, rfl, hy⟩⟩ := h
  · exact asc_zero
  · rw [asc_eq (n := m.length) (decV_head h1 hy) (decV_lt _ h1)]
    exact dec_decV _ h1
theorem isT_iff {l : List Nat} : IsT l ↔ asc (decV l) = l := ⟨asc_decV, fun h => h ▸ isT_asc _⟩
theorem asc_inj {u v : Nat} (h : asc u = asc v) : u = v := by rw [← decV_asc u, h, decV_asc]

/-- the last k limbs of a text, and what stands before them -/
theorem chunk_step {l : List Nat} {e V k : Nat} {out : List Nat} (hk : out.length = k) (h : val B9 out + B9 ^ k * decV (l.take e) = V) (he : e ≤ l.length) :
    val B9 (out ++ [decV ((l.take e).drop (e - 9))]) + B9 ^ (k + 1) * decV (l.take (e - 9)) = V := by
  have h1 : l.take e = l.take (e - 9) ++ (l.take e).drop (e - 9) := by
    have := List.take_append_drop (e - 9) (l.take e)
    rw [List.take_take, Nat.min_eq_left (by omega)] at this
    exact this.symm
  have h2 := decV_append (l.take (e - 9)) ((l.take e).drop (e - 9))
  rw [← h1, List.length_drop, List.length_take, Nat.min_eq_left he] at h2
  rw [val_snoc, hk, ← h, h2]
  rcases Nat.lt_or_ge e 9 with h9 | h9
  · have e0 : e - 9 = 0 := by omega
    rw [e0, List.take_zero, decV_nil]
    simp
  · have e9 : e - (e - 9) = 9 := by omega
    rw [e9, Nat.pow_succ, Nat.mul_add, Nat.mul_assoc, Nat.add_assoc, Nat.add_comm (B9 ^ k * decV _)]
    congr 2
    rw [Nat.mul_comm (decV _) (10 ^ 9)]
open Go Go.RowKit

/-- the bytes of a string -/
def bytesOf (s : ByteArray) : List Nat := s.data.toList.map UInt8.toNat
theorem bytesOf_length (s : ByteArray) : (bytesOf s).length = s.size := by simp [bytesOf]
theorem bytesOf_at (s : ByteArray) (k : Nat) (h : k < s.size) : (bytesOf s)[k]? = some s[k].toNat := by
  unfold bytesOf
  rw [List.getElem?_map, List.getElem?_eq_getElem (by simpa using h)]
  rfl
theorem bytesOf_lt (s : ByteArray) : ∀ x ∈ bytesOf s, x < 256 := by
  intro x hx
  unfold bytesOf at hx
  obtain ⟨y, _, rfl⟩ := List.mem_map.1 hx
  exact UInt8.toNat_lt y
theorem strN_bytesOf (s : ByteArray) : strN (bytesOf s) = s := by
  apply ByteArray.ext
  simp [strN, bytesOf, Function.comp_def]
theorem bytesOf_strN {l : List Nat} (h : ∀ x ∈ l, x < 256) : bytesOf (strN l) = l := by
  unfold bytesOf strN
  simp only [List.map_map]
  conv => rhs; rw [← List.map_id l]
  apply List.map_congr_left
  intro x hx
  have := h x hx
  simp [Nat.mod_eq_of_lt this]
theorem bytesOf_inj {s t : ByteArray} (h : bytesOf s = bytesOf t) : s = t := by rw [← strN_bytesOf s, h, strN_bytesOf]
theorem bytesOf_extract (s : ByteArray) (a b : Nat) : bytesOf (s.extract a b) = ((bytesOf s).take b).drop a := by
  unfold bytesOf
  rw [← List.map_take, ← List.map_drop]
  congr 1
  simp [ByteArray.data_extract, List.drop_take]
theorem AllDig.lt256 {l : List Nat} (h : AllDig l) : ∀ x ∈ l, x < 256 := fun x hx => by have := h x hx; omega

theorem bytesOf_append (a b : ByteArray) : bytesOf (a ++ b) = bytesOf a ++ bytesOf b := by
  unfold bytesOf
  rw [ByteArray.data_append, Array.toList_append, List.map_append]
end Go.Proofs.YtaapcfflnklpjaaGreatDoor

/- The contracts of the reference's Norm and Of. -/
namespace Go.Proofs.YtaapcfflnklpjaaGreatDoor
open Go Go.RowKit

/-- the boxes of a parameter and of a result -/
theorem boxPR {w W : World} {v0 v1 : Value} {t0 t1 : TypeId} (hW : ((w.alloc (.cells #[v0] t0)).alloc (.cells #[v1] t1)) = W) :
    Below w.heap.size w W ∧ W.cell? ⟨w.heap.size, 0, none⟩ = some v0 ∧ W.heap[w.heap.size + 1]? = some (.cells #[v1] t1 (0, 0)) ∧ W.heap.size = w.heap.size + 2 := by
  subst hW
  obtain ⟨a, b, _, d⟩ := box2 w v0 v1 t0 t1
  exact ⟨a, b, heap_alloc2_new w _ _, d⟩
theorem app_step (b : Nat) (out : List Nat) (S : Nat) {k : Nat} (hk : out.length = k) : val b (out ++ [S % b]) + b ^ (k + 1) * (S / b) = val b out + b ^ k * S := by
  rw [val_snoc, hk, Nat.pow_succ, Nat.add_assoc, Nat.mul_assoc, ← Nat.mul_add, Nat.mod_add_div]
theorem all_snoc {b : Nat} {out : List Nat} {v : Nat} (h : ∀ x ∈ out, x < b) (hv : v < b) : ∀ x ∈ out ++ [v], x < b := by
  intro x hx
  rcases List.mem_append.1 hx with h1 | h1
  · exact h x h1
  · simp at h1; subst h1; exact hv

set_option maxHeartbeats 1000000 in
theorem rnorm_any (A : Option Addr) (n c : Nat) (xs : List Nat) (w : World) (hr : RL w .u32 A n xs) (hn : n ≤ c) (_hc : c ≤ maxLen) (hN : n ≤ 900000) (hx : ∀ x ∈ xs, x < 4294967296) (V : Nat) (hV : val B9 xs = V) :
    Calls Tryz.prog 106 #[.agg #[.slice A n c]] w (GivesN V w) := by
  have HX := hide hx
  have HL := hide hr.len
  have HV := hide hV
  clear hx hV
  go_enter Tryz.func106, Tryz.ntmps106
  go_wp2_with fail
  generalize hW : (w.alloc _).alloc _ = W
  obtain ⟨hbW, h1, h2, hz⟩ := boxPR hW
  have hrW := hr.below hbW
  have hz0 : w.heap.size < W.heap.size := by omega
  have hz1 : w.heap.size + 1 < W.heap.size := by omega
  have H2 := hide h2
  clear hW hr hz h2
  go_loopw [3, 4, 5] (fun s v i wr => ∃ (k C c' : Nat) (A' : Option Addr) (out : List Nat), k ≤ n + 1 ∧ C ≤ 4 ∧ (n < k → C = 0) ∧ s = .slice A' k c' ∧ v = .int .u64 (C : Int) ∧ i = .int .i64 (k : Int) ∧ Row wr W.heap.size .u32 117 A' k c' out ∧ Below W.heap.size W wr ∧
      val B9 out + B9 ^ k * C = val B9 (xs.take k) ∧ ∀ x ∈ out, x < B9) (fun _ _ i _ => n + 1 - (intOf i).toNat)
  case atStart => exact ⟨0, 0, 0, none, [], by omega, by omega, fun _ => rfl, rfl, rfl, rfl, Row.nil_, Below.refl _ _, by simp [val], fun x hx => by simp at hx⟩
  case round =>
    obtain ⟨k, C, c', A', out, hk, hC, hC0, rfl, rfl, rfl, hrow, hbel, hval, hall⟩ := hrel
    have hcl : wr.cell? ⟨w.heap.size, 0, none⟩ = some (.slice A n c) := (hbel.cell (p := ⟨w.heap.size, 0, none⟩) hz0).trans h1
    have HK := hide hrow.len
    have HVL := hide hval
    have HA := hide hall
    have HC0 := hide hC0
    have hbs := hbel.size
    have hkc := hrow.le.1
    have hcm := hrow.le.2
    unfold maxLen at hcm
    clear hval hall hC0
    by_cases hlt : k < n
    · obtain ⟨b, o, x, rfl, hx, hcell⟩ := (hrW.below hbel).at_ hlt
      have hxb := HX.out x (List.mem_of_getElem? hx)
      have HS := hide (show val B9 (out ++ [(C + x) % B9]) + B9 ^ (k + 1) * ((C + x) / B9) = val B9 (xs.take (k + 1)) from by
        rw [app_step B9 out (C + x) HK.out, val_take_succ B9 hx, ← HVL.out, Nat.mul_add, Nat.add_assoc])
      clear hx h1
      go_wp2_with (at_builtin; refine wpList_append_rl _ rfl _ _ 92 rfl W.heap.size 117 .u32 4 Tryz.underlying92 u32_info A' k c' out rfl (hrow.alloc _) (some ⟨wr.heap.size, 0, none⟩) 1 1 [(C + x) % B9] rfl (RL.one wr .u32 117 (by show _ = (((C + x) % 1000000000 : Nat) : Int); omega)) (by omega) (k + 1) rfl (by omega) (by simp; omega) ?_; intro A2 c2 w1 hrow1 hbel1 hsz1)
      go_roundw
      case rel => exact ⟨k + 1, (C + x) / B9, c2, A2, out ++ [(C + x) % B9], by omega, by show (C + x) / 1000000000 ≤ 4; omega, fun h => absurd h (by omega), rfl, by show _ = Value.int .u64 (((C + x) / 1000000000 : Nat) : Int); go_num, by go_num, hrow1, (hbel.alloc hbs _).trans hbel1, HS.out, all_snoc HA.out (Nat.mod_lt _ (by decide))⟩
      case measure => simp [intOf]; omega
    · by_cases h0 : C = 0
      · subst h0
        have HD := hide (show trimL out = dig B9 V from by
          have h3 := HVL.out
          rw [Nat.mul_zero, Nat.add_zero, List.take_of_length_le (by rw [HL.out]; omega), HV.out] at h3
          rw [trimL_dig B9 (by decide) out HA.out, h3])
        have hbF := hbel
        have hcl1 : wr.cell? ⟨w.heap.size + 1, 0, none⟩ = some (.slice none 0 0) := (hbel.cell (p := ⟨w.heap.size + 1, 0, none⟩) hz1).trans (by rw [cell_of_row _ _ _ _ _ _ H2.out]; rfl)
        have hfl1 : wr.frozen? ⟨w.heap.size + 1, 0, none⟩ = false := (hbel.frozen (p := ⟨w.heap.size + 1, 0, none⟩) hz1).trans (frozen_of_row _ _ _ _ _ H2.out)
        go_wp2
        go_loopg [3] k (fun gk s wq => ∃ m : Nat, m = gk ∧ m ≤ k ∧ s = .slice A' m c' ∧ wq = wr ∧ trimL (out.take m) = trimL out)
        case atStart => exact ⟨k, rfl, by omega, rfl, rfl, by rw [List.take_of_length_le (by rw [HK.out]; omega)]⟩
        case round =>
          obtain ⟨m, rfl, hm, rfl, rfl, ht⟩ := hrel
          have HT := hide ht
          clear ht
          by_cases hm0 : m = 0
          · subst hm0
            have HE := hide (show dig B9 V = [] from by rw [← HD.out, ← HT.out]; rfl)
            go_wp2
            refine bodyPost_ret (v := .agg #[.slice A' 0 c']) (by simp [results, Tryz.results106, go_sem, hcl1]) rfl ?_
            exact fin_struct hbW hbF (by omega) H2.out (by rw [HE.out]; exact RL.nil_) (by omega) hrow.le.2
          · obtain ⟨b, o, x, rfl, hx, hcell⟩ := hrow.rl.at_ (j := m - 1) (by omega)
            have HX' := hide hx
            clear hx
            by_cases hx0 : x = 0
            · subst hx0
              have HT2 := hide (trim_zero hm0 HT.out HX'.out)
              go_wp2
              go_roundg (m - 1)
              case measure => omega
              case rel => exact ⟨m - 1, rfl, by omega, by go_num, rfl, HT2.out⟩
            · have HE := hide (trim_pos hm0 HT.out HX'.out hx0)
              have h4 := hrow.rl.take_ hm
              have h5 : out.take m = dig B9 V := by
                have := trimL_eq_take out
                rw [HE.out] at this
                rw [← this, HD.out]
              rw [h5] at h4
              have H4 := hide h4
              have hrc := hrow.le.2
              clear h4 h5
              go_wp2
              refine bodyPost_ret (v := .agg #[.slice (some ⟨b, o, none⟩) m c']) (by simp [results, Tryz.results106, go_sem, hcl1]) rfl ?_
              exact fin_struct hbW hbF (by omega) H2.out H4.out (by omega) hrc
      · obtain rfl : k = n := by
          rcases Nat.lt_or_ge n k with h | h
          · exact absurd (HC0.out h) h0
          · omega
        have HS := hide (show val B9 (out ++ [C % B9]) + B9 ^ (k + 1) * (C / B9) = val B9 (xs.take (k + 1)) from by
          rw [app_step B9 out C HK.out, HVL.out, List.take_of_length_le (by rw [HL.out]; omega), List.take_of_length_le (by rw [HL.out]; omega)])
        clear h1
        go_wp2_with (at_builtin; refine wpList_append_rl _ rfl _ _ 92 rfl W.heap.size 117 .u32 4 Tryz.underlying92 u32_info A' k c' out rfl (hrow.alloc _) (some ⟨wr.heap.size, 0, none⟩) 1 1 [C % B9] rfl (RL.one wr .u32 117 (by show _ = ((C % 1000000000 : Nat) : Int); omega)) (by omega) (k + 1) rfl (by omega) (by simp; omega) ?_; intro A2 c2 w1 hrow1 hbel1 hsz1)
        go_roundw
        case rel => exact ⟨k + 1, C / B9, c2, A2, out ++ [C % B9], by omega, by show C / 1000000000 ≤ 4; omega, fun _ => by show C / 1000000000 = 0; omega, rfl, by show _ = Value.int .u64 ((C / 1000000000 : Nat) : Int); go_num, by go_num, hrow1, (hbel.alloc hbs _).trans hbel1, HS.out, all_snoc HA.out (Nat.mod_lt _ (by decide))⟩
        case measure => simp [intOf]
end Go.Proofs.YtaapcfflnklpjaaGreatDoor

/- The contract of the reference's Of. -/
namespace Go.Proofs.YtaapcfflnklpjaaGreatDoor
open Go Go.RowKit

theorem three_e {w W : World} {k : IntKind} {t : TypeId} {i j l : Int} (hW : w.alloc (.cells #[.int k i, .int k j, .int k l] t) = W) (x y z : Nat) (hi : i = (x : Int)) (hj : j = (y : Int)) (hl : l = (z : Int)) :
    Below w.heap.size w W ∧ RL W k (some ⟨w.heap.size, 0, none⟩) 3 [x, y, z] := by
  subst hW; subst hi; subst hj; subst hl
  exact ⟨(Below.refl _ _).alloc (Nat.le_refl _) _, Own.rl (t := t) (Own.new w k t [x, y, z]) rfl⟩
theorem of3 (n : Nat) : val B9 [n % 1000000000, n / 1000000000 % 1000000000, n / 1000000000 / 1000000000] = n := by
  show n % 1000000000 + 1000000000 * (n / 1000000000 % 1000000000 + 1000000000 * (n / 1000000000 / 1000000000 + 1000000000 * 0)) = n
  omega

set_option maxHeartbeats 1000000 in
theorem rof_any (n : Nat) (w : World) (hn : n < 18446744073709551616) :
    Calls Tryz.prog 80 #[.int .u64 (n : Int)] w (GivesN n w) := by
  have HV := hide (of3 n)
  have HB : Hid (∀ x ∈ [n % 1000000000, n / 1000000000 % 1000000000, n / 1000000000 / 1000000000], x < 4294967296) := by
    intro x hx
    simp at hx
    omega
  go_enter Tryz.func80, Tryz.ntmps80
  go_wp2_with fail
  generalize hW : (w.alloc _) = W
  obtain ⟨hbW, b0, hz⟩ := boxes1 hW
  clear hW
  generalize hW : (W.alloc _) = W2
  obtain ⟨hb2, hl⟩ := three_e hW (n % 1000000000) (n / 1000000000 % 1000000000) (n / 1000000000 / 1000000000) (by omega) (by omega) (by omega)
  clear hW
  rw [hz] at hl
  refine (rnorm_any _ 3 3 _ _ hl (by omega) (by simp [maxLen]) (by omega) HB.out n HV.out).mono ?_
  rintro e w1 ⟨A1, n1, c1, rfl, r1, hn1, hc1, hb1⟩
  have hb3 := hb2.trans (hb1.mono hb2.size)
  have b1 := b0.below' hb3
  have k1 := b1.cell
  have f1 := b1.frozen 0
  go_wp2
  refine bodyPost_ret (v := .agg #[.slice A1 n1 c1]) (by simp [results, Tryz.results80, go_sem, k1]) rfl ?_
  exact fin_struct hbW hb3 (Nat.le_refl _) b0 r1 hn1 hc1
end Go.Proofs.YtaapcfflnklpjaaGreatDoor

/- The contract of the reference's Text. -/
namespace Go.Proofs.YtaapcfflnklpjaaGreatDoor
open Go Go.RowKit

theorem bytesOf_nil : bytesOf ⟨#[]⟩ = [] := rfl
theorem dec_zero (j : Nat) : dec j 0 = List.replicate j 48 := by
  induction j with
  | zero => rfl
  | succ j ih => rw [dec_succ, Nat.zero_div, ih, List.replicate_succ']
theorem dec_pad {n j v : Nat} (h : v < 10 ^ n) : dec (j + n) v = List.replicate j 48 ++ dec n v := by
  have := dec_split j n v 0 h
  rw [Nat.mul_zero, Nat.add_zero, dec_zero] at this
  exact this
theorem dec_asc {m v : Nat} (h : v < 10 ^ m) (h0 : v ≠ 0) : ∃ j, j ≤ m ∧ dec m v = List.replicate j 48 ++ asc v := by
  obtain ⟨n, h1, h2, h3⟩ := asc_pow h0
  have hnm : n + 1 ≤ m := by
    rcases Nat.lt_or_ge n m with h4 | h4
    · exact h4
    · have := Nat.pow_le_pow_right (show 0 < 10 by decide) h4
      omega
  refine ⟨m - (n + 1), by omega, ?_⟩
  rw [h3, ← dec_pad h2]
  congr 1
  omega
/-- one more digit ahead -/
theorem dec_front {m lo d : Nat} (h : lo < 10 ^ m) (hd : d < 10) : [48 + d] ++ dec m lo = dec (m + 1) (lo + 10 ^ m * d) := by
  rw [Nat.add_comm m 1, dec_split 1 m lo d h, dec_one hd]
theorem digit_step (T x i k : Nat) (hT : T < B9 ^ i) : [48 + x / 10 ^ k % 10] ++ dec (9 * i + k) (T + B9 ^ i * (x % 10 ^ k)) = dec (9 * i + (k + 1)) (T + B9 ^ i * (x % 10 ^ (k + 1))) := by
  have hB : B9 ^ i = 10 ^ (9 * i) := pow_B9 i
  have hlo : T + B9 ^ i * (x % 10 ^ k) < 10 ^ (9 * i + k) := by
    have h1 : x % 10 ^ k + 1 ≤ 10 ^ k := Nat.mod_lt _ (Nat.pow_pos (by decide))
    have h2 : B9 ^ i * (x % 10 ^ k + 1) ≤ B9 ^ i * 10 ^ k := Nat.mul_le_mul_left _ h1
    rw [Nat.mul_add, Nat.mul_one] at h2
    rw [Nat.pow_add, ← hB]
    omega
  rw [dec_front hlo (Nat.mod_lt _ (by decide))]
  have e : x % 10 ^ (k + 1) = x % 10 ^ k + 10 ^ k * (x / 10 ^ k % 10) := by rw [Nat.pow_succ, Nat.mod_mul]
  have e2 : 10 ^ (9 * i + k) * (x / 10 ^ k % 10) = B9 ^ i * (10 ^ k * (x / 10 ^ k % 10)) := by rw [Nat.pow_add, ← hB, Nat.mul_assoc]
  rw [e2, e, Nat.mul_add, ← Nat.add_assoc T]
  rfl
theorem RL.one8 (w : World) (t : TypeId) {v : Int} {x : Nat} (e : v = (x : Int)) : RL (w.alloc (.cells #[.int .u8 v] t)) .u8 (some ⟨w.heap.size, 0, none⟩) 1 [x] := RL.one w .u8 t e

set_option maxHeartbeats 2000000 in
set_option maxRecDepth 100000 in
theorem rtext_any (A : Option Addr) (n c : Nat) (xs : List Nat) (w : World) (hr : RL w .u32 A n xs) (hn : n ≤ c) (hc : c ≤ maxLen) (hN : n ≤ 100000) (hx : ∀ x ∈ xs, x < 4294967296) (u : Nat) (hu : val B9 xs = u) :
    Calls Tryz.prog 79 #[.agg #[.slice A n c]] w fun e w' => e = .returned (.string (strN (asc u))) ∧ Below w.heap.size w w' := by
  have HX := hide hx
  have HU := hide hu
  have HL := hide hr.len
  clear hx hu
  go_enter Tryz.func79, Tryz.ntmps79
  go_wp2_with fail
  generalize hW : w.alloc _ = W
  obtain ⟨hbW, b0, hz⟩ := boxes1 hW
  clear hW
  refine (rnorm_any A n c xs _ (hr.below hbW) hn hc (by omega) HX.out u HU.out).mono ?_
  rintro e w1 ⟨A1, n1, c1, rfl, r1, hn1, hc1, hb1⟩
  have hl1 : n1 ≤ n + 1 := dig_len_u32 (n := n1) (m := n) (xs := xs) (by rw [HU.out]; exact r1.len) HL.out HX.out
  have b0 := b0.below' hb1
  have hbA := hbW.trans (hb1.mono hbW.size)
  have f0 := b0.frozen 0
  have g0 := b0.cell
  have r4 : RL (w1.setCell ⟨w.heap.size, 0, none⟩ (.slice A1 n1 c1)) .u32 A1 n1 (dig B9 u) := r1.put b0 _
  have d0 : Box (w1.setCell ⟨w.heap.size, 0, none⟩ (.slice A1 n1 c1)) w.heap.size #[.slice A1 n1 c1] 94 := b0.put _
  have hb4 : Below w.heap.size w (w1.setCell ⟨w.heap.size, 0, none⟩ (.slice A1 n1 c1)) := hbA.setCell (by simp) _
  clear hr hb1 hbW r1 b0 hbA
  have k0 := d0.cell
  have HR4 := hide r4.len
  have hc1' : n1 ≤ maxLen := Nat.le_trans hn1 hc1
  unfold maxLen at hc1'
  go_wp2_with fail
  generalize w1.setCell (⟨w.heap.size, 0, none⟩ : Addr) (.slice A1 n1 c1) = W4 at *
  have lt0 := d0.lt
  clear f0 g0 k0
  go_loopw [3, 4, 5, 6] (fun t i _ _ wr => ∃ (k : Nat) (sv : ByteArray), k ≤ n1 ∧ i = .int .i64 (k : Int) ∧ t = .string sv ∧ Below W4.heap.size W4 wr ∧ bytesOf sv = dec (9 * k) (val B9 ((dig B9 u).take k))) (fun _ i _ _ _ => n1 - (intOf i).toNat)
  case atStart => exact ⟨0, ⟨#[]⟩, by omega, rfl, rfl, Below.refl _ _, rfl⟩
  case round =>
    obtain ⟨i, sv, hi, rfl, rfl, hbel, hsv⟩ := hrel
    have q0 := (d0.below hbel lt0).cell
    have HS := hide hsv
    clear hsv
    by_cases hlt : i < n1
    · obtain ⟨b, o, x, rfl, hx, hcell⟩ := (r4.below hbel).at_ hlt
      have hxb : x < 1000000000 := dig_lt B9 (by decide) u x (List.mem_of_getElem? hx)
      have HX' := hide hx
      have HTB := hide (val_take_lt B9 (by decide) (dig_lt B9 (by decide) u) i)
      clear hx
      go_wp2
      go_loopg [3, 5, 6] 9 (fun gk t n k wq => ∃ (j : Nat) (sq : ByteArray), j + gk = 9 ∧ k = .int .i64 (j : Int) ∧ t = .string sq ∧ n = .int .u32 ((x / 10 ^ j : Nat) : Int) ∧ Below W4.heap.size W4 wq ∧ bytesOf sq = dec (9 * i + j) (val B9 ((dig B9 u).take i) + B9 ^ i * (x % 10 ^ j)))
      case atStart => exact ⟨0, sv, rfl, rfl, rfl, by simp, hbel, by rw [Nat.pow_zero, Nat.mod_one, Nat.mul_zero, Nat.add_zero]; exact HS.out⟩
      case round =>
        obtain ⟨j, sq, hj, rfl, rfl, rfl, hbq, hsq⟩ := hrel
        have HQ := hide hsq
        clear hsq
        by_cases h9 : j = 9
        · subst h9
          have HN := hide (show bytesOf sq = dec (9 * (i + 1)) (val B9 ((dig B9 u).take (i + 1))) from by
            rw [HQ.out, val_take_succ B9 HX'.out, Nat.mod_eq_of_lt (by exact hxb)]; rfl)
          go_wp2
          go_roundw
          case rel => exact ⟨i + 1, sq, by omega, by go_num, rfl, hbq, HN.out⟩
          case measure => simp [intOf]; omega
        · have hjl : j < 9 := by omega
          have hyb : x / 10 ^ j < 1000000000 := Nat.lt_of_le_of_lt (Nat.div_le_self _ _) hxb
          have HD := hide (digit_step (val B9 ((dig B9 u).take i)) x i j HTB.out)
          have HY := hide (show x / 10 ^ j / 10 = x / 10 ^ (j + 1) from by rw [Nat.pow_succ, Nat.div_div_eq_div_mul])
          have HG := hide (show j + 1 + (gk - 1) = 9 from by omega)
          have hgk : 1 ≤ gk := by omega
          have hbs := hbq.size
          obtain ⟨y, hy⟩ : ∃ y, x / 10 ^ j = y := ⟨_, rfl⟩
          rw [hy] at hyb HD HY
          rw [hy]
          clear hy hj
          have hconv := run_conv (wr.alloc (.cells #[.int .u8 (48 + (y : Int) % 10)] 5)) (some ⟨wr.heap.size, 0, none⟩) 1 1 [48 + y % 10] (RL.one8 wr 5 (by omega)) (by omega)
          have c1 : (strN [48 + y % 10]).size = 1 := rfl
          have c2 : sq.size ≤ 5000000 := by rw [← bytesOf_length, HQ.out, dec_length]; omega
          go_wp2
          go_roundg (gk - 1)
          case measure => omega
          case rel => exact ⟨j + 1, strN [48 + y % 10] ++ sq, HG.out, by go_num, rfl, by rw [← HY.out]; go_num, hbq.alloc hbs _, by rw [bytesOf_append, bytesOf_strN (by intro z hz; simp at hz; omega), HQ.out]; exact HD.out⟩
    · obtain rfl : i = n1 := by omega
      have hTu : val B9 ((dig B9 u).take i) = u := val_take_dig B9 (by decide) u i (by rw [HR4.out]; exact Nat.le_refl _)
      have hB4 := hb4.trans (hbel.mono hb4.size)
      have hS0 := HS.out
      rw [hTu] at hS0
      by_cases hu0 : u = 0
      · have hi0 : i = 0 := by have h := HR4.out; rw [hu0] at h; exact h.symm
        have hs0 : sv = ⟨#[]⟩ := bytesOf_inj (by rw [hS0, hi0]; rfl)
        have HE := hide (show strN (asc u) = ⟨#[48]⟩ from by rw [hu0, asc_zero]; rfl)
        subst hs0
        clear hTu hS0 hu0
        go_wp2
        go_loopg [3] 0 (fun gk t wq => gk = 0 ∧ t = .string ⟨#[]⟩ ∧ wq = wr)
        case atStart => exact ⟨rfl, rfl, rfl⟩
        case round =>
          obtain ⟨rfl, rfl, rfl⟩ := hrel
          go_wp2
          go_ret
          exact ⟨by rw [HE.out]; rfl, hB4⟩
      · have hub : u < 10 ^ (9 * i) := by
          rw [← pow_B9]
          exact (dig_length_le B9 (by decide) i u).1 (by rw [HR4.out]; exact Nat.le_refl _)
        obtain ⟨j, hj, hjs⟩ := dec_asc hub hu0
        obtain ⟨m0, h1, h2, h3⟩ := asc_pow hu0
        obtain ⟨y, l, hyl, hy48⟩ := dec_head m0 u h1 h2
        have HYL := hide (show asc u = y :: l from by rw [h3, hyl])
        have HS1 := hide (hS0.trans hjs)
        clear hTu hS0 hub hjs h1 h2 h3 hyl
        go_wp2
        go_loopg [3] j (fun gk t wq => ∃ sq : ByteArray, t = .string sq ∧ wq = wr ∧ bytesOf sq = List.replicate gk 48 ++ asc u)
        case atStart => exact ⟨sv, rfl, rfl, HS1.out⟩
        case round =>
          obtain ⟨sq, rfl, rfl, hsq⟩ := hrel
          have HL2 := hide (bytesOf_length sq)
          have HQ := hide hsq
          have HTD := hide (Lib.toList_data sq)
          rcases gk with _ | gk
          · have hne : bytesOf sq = y :: l := by rw [hsq, List.replicate_zero, List.nil_append, HYL.out]
            have hpos : 0 < sq.size := by rw [← bytesOf_length, hne]; simp
            have h0 := bytesOf_at sq 0 hpos
            rw [hne] at h0
            have hyv : sq[0].toNat = y := by simpa using h0.symm
            have hd : ((sq[0].toNat : Int) == 48) = false := by rw [hyv]; simp; omega
            have hem : ¬ sq.toList = [] := by
              intro h
              rw [HTD.out] at h
              unfold bytesOf at hne
              rw [h] at hne
              cases hne
            have hem2 : sq.toList.isEmpty = false := by simpa using hem
            have HE := hide (show sq = strN (asc u) from by rw [← strN_bytesOf sq, hne, HYL.out])
            clear hsq hne h0 hyv hy48
            go_wp2
            go_ret
            exact ⟨by rw [← HE.out]; rfl, hB4⟩
          · have hne : bytesOf sq = 48 :: (List.replicate gk 48 ++ asc u) := by rw [hsq, List.replicate_succ, List.cons_append]
            have hpos : 0 < sq.size := by rw [← bytesOf_length, hne]; simp
            have hpos1 : 1 ≤ sq.size := hpos
            have h0 := bytesOf_at sq 0 hpos
            rw [hne] at h0
            have hyv : sq[0].toNat = 48 := by simpa using h0.symm
            have hd : ((sq[0].toNat : Int) == 48) = true := by rw [hyv]; rfl
            have HN := hide (show bytesOf (sq.extract 1 sq.size) = List.replicate gk 48 ++ asc u from by
              rw [bytesOf_extract, hne, ← bytesOf_length, hne, List.take_length]; rfl)
            clear hsq hne h0 hyv
            go_wp2
            go_roundg gk
            case measure => omega
            case rel => exact ⟨_, rfl, rfl, HN.out⟩
theorem rtext_g (A : Option Addr) (n c : Nat) (xs : List Nat) (w : World) (hr : RL w .u32 A n xs) (hn : n ≤ c) (hc : c ≤ maxLen) (hN : n ≤ 100000) (hx : ∀ x ∈ xs, x < 4294967296) (u : Nat) (hu : val B9 xs = u) (t : ByteArray) (ht : strN (asc u) = t) :
    Calls Tryz.prog 79 #[.agg #[.slice A n c]] w fun e w' => e = .returned (.string t) ∧ Below w.heap.size w w' := by
  subst ht
  exact rtext_any A n c xs w hr hn hc hN hx u hu
theorem bytes_asc (u : Nat) : bytesOf (strN (asc u)) = asc u := bytesOf_strN (asc_digits u).lt256
theorem size_asc (u : Nat) : (strN (asc u)).size = nd u := by rw [← bytesOf_length, bytes_asc, asc_len]
end Go.Proofs.YtaapcfflnklpjaaGreatDoor
