/- Plain lemmas on numbers as lists of digits in a base b (the limbs of a natural: b = 10^9; its decimal digits: b = 10), the least digit first. -/
namespace Go.Proofs.Ytadmiecoahohiaa

/-- 10^9 -/
abbrev B9 : Nat := 1000000000
/-- the value of digits -/
def val (b : Nat) : List Nat → Nat
  | [] => 0
  | x :: xs => x + b * val b xs
/-- leaves out the leading zeros (which stand at the end) -/
def trimL : List Nat → List Nat
  | [] => []
  | x :: xs => match trimL xs with
    | [] => if x = 0 then [] else [x]
    | y :: ys => x :: y :: ys
def digF (b : Nat) : Nat → Nat → List Nat
  | 0, _ => []
  | f + 1, v => if v = 0 then [] else v % b :: digF b f (v / b)
/-- the digits of a value, without leading zeros -/
def dig (b v : Nat) : List Nat := digF b v v

theorem digF_enough (b : Nat) (hb : 2 ≤ b) : ∀ f g v : Nat, v ≤ f → v ≤ g → digF b f v = digF b g v := by
  intro f
  induction f with
  | zero =>
    intro g v h1 _
    obtain rfl : v = 0 := by omega
    cases g <;> simp [digF]
  | succ f ih =>
    intro g v h1 h2
    cases g with
    | zero =>
      obtain rfl : v = 0 := by omega
      simp [digF]
    | succ g =>
      by_cases h0 : v = 0
      · simp [digF, h0]
      · have hlt : v / b < v := Nat.div_lt_self (by omega) hb
        simp only [digF, if_neg h0]
        rw [ih g (v / b) (by omega) (by omega)]
theorem dig_zero (b : Nat) : dig b 0 = [] := rfl
theorem dig_pos (b : Nat) (hb : 2 ≤ b) (v : Nat) (h : v ≠ 0) : dig b v = v % b :: dig b (v / b) := by
  obtain ⟨n, rfl⟩ : ∃ n, v = n + 1 := ⟨v - 1, by omega⟩
  have hlt : (n + 1) / b < n + 1 := Nat.div_lt_self (by omega) hb
  show digF b (n + 1) (n + 1) = _
  simp only [digF, if_neg h]
  rw [digF_enough b hb n ((n + 1) / b) _ (by omega) (Nat.le_refl _)]
  rfl
theorem dig_cons (b : Nat) (hb : 2 ≤ b) (x v : Nat) (hx : x < b) (h : ¬(x = 0 ∧ v = 0)) : dig b (x + b * v) = x :: dig b v := by
  have hne : x + b * v ≠ 0 := by
    intro e
    have h1 : x = 0 := by omega
    have h2 : b * v = 0 := by omega
    rcases Nat.mul_eq_zero.1 h2 with h3 | h3
    · omega
    · exact h ⟨h1, h3⟩
  rw [dig_pos b hb _ hne, Nat.add_mul_mod_self_left, Nat.mod_eq_of_lt hx, Nat.add_mul_div_left _ _ (by omega), Nat.div_eq_of_lt hx, Nat.zero_add]
theorem dig_small (b : Nat) (hb : 2 ≤ b) (x : Nat) (hx : x < b) (h : x ≠ 0) : dig b x = [x] := by
  have := dig_cons b hb x 0 hx (by omega)
  simpa [dig_zero] using this
theorem val_dig (b : Nat) (hb : 2 ≤ b) (v : Nat) : val b (dig b v) = v := by
  induction v using Nat.strongRecOn with
  | _ v ih =>
    by_cases h : v = 0
    · subst h; rfl
    · rw [dig_pos b hb v h]
      simp only [val]
      rw [ih _ (Nat.div_lt_self (by omega) hb)]
      exact Nat.mod_add_div v b
theorem dig_inj (b : Nat) (hb : 2 ≤ b) {u v : Nat} (h : dig b u = dig b v) : u = v := by rw [← val_dig b hb u, h, val_dig b hb v]
theorem dig_lt (b : Nat) (hb : 2 ≤ b) (v : Nat) : ∀ x ∈ dig b v, x < b := by
  induction v using Nat.strongRecOn with
  | _ v ih =>
    by_cases h : v = 0
    · subst h; intro x hx; cases hx
    · rw [dig_pos b hb v h]
      intro x hx
      rcases List.mem_cons.1 hx with rfl | hx
      · exact Nat.mod_lt _ (by omega)
      · exact ih _ (Nat.div_lt_self (by omega) hb) x hx
theorem dig_eq_nil (b : Nat) (hb : 2 ≤ b) {v : Nat} : dig b v = [] ↔ v = 0 := by
  constructor
  · intro h
    by_cases h0 : v = 0
    · exact h0
    · rw [dig_pos b hb v h0] at h; cases h
  · rintro rfl; rfl
theorem trimL_dig (b : Nat) (hb : 2 ≤ b) (xs : List Nat) (h : ∀ x ∈ xs, x < b) : trimL xs = dig b (val b xs) := by
  induction xs with
  | nil => rfl
  | cons x xs ih =>
    have ih' := ih (fun y hy => h y (List.mem_cons_of_mem _ hy))
    have hx := h x List.mem_cons_self
    simp only [trimL, val]
    by_cases h0 : val b xs = 0
    · rw [h0, dig_zero] at ih'
      rw [ih', h0, Nat.mul_zero, Nat.add_zero]
      by_cases hx0 : x = 0
      · subst hx0; rfl
      · rw [if_neg hx0, dig_small b hb x hx hx0]
    · rw [dig_cons b hb x _ hx (by omega), ih']
      rw [dig_pos b hb _ h0]
theorem val_lt (b : Nat) (_hb : 2 ≤ b) (xs : List Nat) (h : ∀ x ∈ xs, x < b) : val b xs < b ^ xs.length := by
  induction xs with
  | nil => simp [val]
  | cons x xs ih =>
    have ih' := ih (fun y hy => h y (List.mem_cons_of_mem _ hy))
    have hx := h x List.mem_cons_self
    simp only [val, List.length_cons, Nat.pow_succ]
    have h1 : b * (val b xs + 1) ≤ b * b ^ xs.length := Nat.mul_le_mul_left b ih'
    rw [Nat.mul_add, Nat.mul_one, Nat.mul_comm b (b ^ xs.length)] at h1
    omega
theorem dig_length_le (b : Nat) (hb : 2 ≤ b) (n : Nat) : ∀ v : Nat, (dig b v).length ≤ n ↔ v < b ^ n := by
  induction n with
  | zero =>
    intro v
    rw [Nat.pow_zero]
    constructor
    · intro h
      have := (dig_eq_nil b hb).1 (List.eq_nil_of_length_eq_zero (by omega) : dig b v = [])
      omega
    · intro h
      obtain rfl : v = 0 := by omega
      rw [dig_zero]; simp
  | succ n ih =>
    intro v
    by_cases h0 : v = 0
    · subst h0
      rw [dig_zero]
      have : 0 < b ^ (n + 1) := Nat.pow_pos (by omega)
      simp; exact this
    · rw [dig_pos b hb v h0, List.length_cons, Nat.add_le_add_iff_right, ih, Nat.pow_succ, Nat.div_lt_iff_lt_mul (by omega)]
theorem val_append (b : Nat) (xs ys : List Nat) : val b (xs ++ ys) = val b xs + b ^ xs.length * val b ys := by
  induction xs with
  | nil => simp [val]
  | cons x xs ih =>
    simp only [List.cons_append, val, ih, List.length_cons, Nat.pow_succ]
    rw [Nat.mul_add, Nat.mul_comm (b ^ xs.length) b, Nat.mul_assoc, Nat.add_assoc]
theorem val_snoc (b : Nat) (xs : List Nat) (x : Nat) : val b (xs ++ [x]) = val b xs + b ^ xs.length * x := by
  rw [val_append]; simp [val]
theorem dig_mono (b : Nat) (hb : 2 ≤ b) {u v : Nat} (h : u ≤ v) : (dig b u).length ≤ (dig b v).length :=
  (dig_length_le b hb _ u).2 (Nat.lt_of_le_of_lt h ((dig_length_le b hb _ v).1 (Nat.le_refl _)))
theorem lt_of_dig_length (b : Nat) (hb : 2 ≤ b) {u v : Nat} (h : (dig b u).length < (dig b v).length) : u < v := by
  rcases Nat.lt_or_ge u v with h1 | h1
  · exact h1
  · have := dig_mono b hb h1
    omega

theorem take_snoc {α : Type} (xs : List α) (j : Nat) (x : α) (h : xs[j]? = some x) : xs.take (j + 1) = xs.take j ++ [x] := by
  rw [List.take_add_one, h]; rfl
theorem lt_of_getElem? {α : Type} {xs : List α} {j : Nat} {x : α} (h : xs[j]? = some x) : j < xs.length := by
  rcases Nat.lt_or_ge j xs.length with hlt | hge
  · exact hlt
  · rw [List.getElem?_eq_none hge] at h; cases h
theorem split_at {α : Type} {xs : List α} {j : Nat} {x : α} (h : xs[j]? = some x) : xs = xs.take j ++ x :: xs.drop (j + 1) := by
  have hl := lt_of_getElem? h
  have e : xs[j] = x := by rw [List.getElem?_eq_getElem hl] at h; exact Option.some.inj h
  rw [← e, ← List.drop_eq_getElem_cons hl, List.take_append_drop]
theorem val_split (b : Nat) {xs : List Nat} {j x : Nat} (h : xs[j]? = some x) : val b xs = val b (xs.take j) + b ^ j * (x + b * val b (xs.drop (j + 1))) := by
  have hl := lt_of_getElem? h
  have e := split_at h
  have hv := congrArg (val b) e
  rw [val_append, List.length_take, Nat.min_eq_left (by omega)] at hv
  exact hv
theorem val_take_lt (b : Nat) (hb : 2 ≤ b) {xs : List Nat} (h : ∀ x ∈ xs, x < b) (j : Nat) : val b (xs.take j) < b ^ j := by
  have h1 := val_lt b hb (xs.take j) (fun x hx => h x (List.mem_of_mem_take hx))
  have h2 : b ^ (xs.take j).length ≤ b ^ j := Nat.pow_le_pow_right (by omega) (List.length_take_le _ _)
  omega
/-- two lists that are the same above place j are ordered as their digits at place j -/
theorem val_lt_of_digit (b : Nat) (hb : 2 ≤ b) {xs ys : List Nat} (hx : ∀ x ∈ xs, x < b) {j x y : Nat} (h1 : xs[j]? = some x) (h2 : ys[j]? = some y)
    (h : xs.drop (j + 1) = ys.drop (j + 1)) (hlt : x < y) : val b xs < val b ys := by
  rw [val_split b h1, val_split b h2, h]
  have h3 := val_take_lt b hb hx j
  have h4 : b ^ j * (x + b * val b (ys.drop (j + 1)) + 1) ≤ b ^ j * (y + b * val b (ys.drop (j + 1))) := Nat.mul_le_mul_left _ (by omega)
  rw [Nat.mul_add, Nat.mul_one] at h4
  omega

theorem trimL_append_zero (xs : List Nat) : trimL (xs ++ [0]) = trimL xs := by
  induction xs with
  | nil => rfl
  | cons x xs ih => simp only [List.cons_append, trimL, ih]
theorem trimL_append_pos (xs : List Nat) (x : Nat) (h : x ≠ 0) : trimL (xs ++ [x]) = xs ++ [x] := by
  induction xs with
  | nil => simp [trimL, h]
  | cons y ys ih =>
    simp only [List.cons_append, trimL, ih]
    cases ys <;> simp
theorem trimL_take (xs : List Nat) : ∃ m, m ≤ xs.length ∧ trimL xs = xs.take m := by
  induction xs with
  | nil => exact ⟨0, by simp, rfl⟩
  | cons x xs ih =>
    obtain ⟨m, hm, e⟩ := ih
    simp only [trimL]
    cases h : trimL xs with
    | nil =>
      by_cases hx : x = 0
      · exact ⟨0, by simp, by simp [hx]⟩
      · exact ⟨1, by simp, by simp [hx]⟩
    | cons y ys =>
      refine ⟨m + 1, by simp; omega, ?_⟩
      simp only [List.take_succ_cons]
      rw [← e, h]
theorem trimL_length_le (xs : List Nat) : (trimL xs).length ≤ xs.length := by
  obtain ⟨m, hm, e⟩ := trimL_take xs
  rw [e, List.length_take]; omega
theorem trimL_eq_take (xs : List Nat) : trimL xs = xs.take (trimL xs).length := by
  obtain ⟨m, hm, e⟩ := trimL_take xs
  have : (trimL xs).length = m := by rw [e, List.length_take]; omega
  rw [this]; exact e
theorem val_trimL (b : Nat) (xs : List Nat) : val b (trimL xs) = val b xs := by
  induction xs with
  | nil => rfl
  | cons x xs ih =>
    simp only [trimL]
    cases h : trimL xs with
    | nil =>
      rw [h] at ih
      simp only [val] at ih ⊢
      rw [← ih]
      by_cases hx : x = 0
      · subst hx; rfl
      · simp [hx, val]
    | cons y ys =>
      rw [h] at ih
      simp only [val] at ih ⊢
      rw [ih]
theorem trim_zero {xs : List Nat} {k : Nat} (hk : ¬k = 0) (h : trimL (xs.take k) = trimL xs) (hx : xs[k - 1]? = some 0) : trimL (xs.take (k - 1)) = trimL xs := by
  have e := take_snoc xs (k - 1) 0 hx
  rw [show k - 1 + 1 = k from by omega] at e
  rw [e, trimL_append_zero] at h
  exact h
theorem trim_pos {xs : List Nat} {k x : Nat} (hk : ¬k = 0) (h : trimL (xs.take k) = trimL xs) (hx : xs[k - 1]? = some x) (h0 : x ≠ 0) : (trimL xs).length = k := by
  have e := take_snoc xs (k - 1) x hx
  have hl := lt_of_getElem? hx
  rw [show k - 1 + 1 = k from by omega] at e
  rw [e, trimL_append_pos _ _ h0, ← e] at h
  rw [← h, List.length_take]; omega
/-- the result of a comparison -/
def cmpI (u v : Nat) : Int := if u < v then -1 else if u = v then 0 else 1
theorem cmpI_lt {u v : Nat} (h : u < v) : cmpI u v = -1 := by simp [cmpI, h]
theorem cmpI_gt {u v : Nat} (h : v < u) : cmpI u v = 1 := by
  rw [cmpI, if_neg (by omega), if_neg (by omega)]
theorem cmpI_eq {u v : Nat} (h : u = v) : cmpI u v = 0 := by simp [cmpI, h]
theorem cmp_short {b u v : Nat} (hb : 2 ≤ b) (h : (dig b u).length < (dig b v).length) : cmpI u v = -1 := cmpI_lt (lt_of_dig_length b hb h)
theorem cmp_long {b u v : Nat} (hb : 2 ≤ b) (h : (dig b v).length < (dig b u).length) : cmpI u v = 1 := cmpI_gt (lt_of_dig_length b hb h)
theorem cmp_digit_lt {b u v k x y : Nat} (hb : 2 ≤ b) (h1 : (dig b u)[k]? = some x) (h2 : (dig b v)[k]? = some y) (h : (dig b u).drop (k + 1) = (dig b v).drop (k + 1)) (hlt : x < y) : cmpI u v = -1 := by
  apply cmpI_lt
  have := val_lt_of_digit b hb (dig_lt b hb u) h1 h2 h hlt
  rwa [val_dig b hb, val_dig b hb] at this
theorem cmp_digit_gt {b u v k x y : Nat} (hb : 2 ≤ b) (h1 : (dig b u)[k]? = some x) (h2 : (dig b v)[k]? = some y) (h : (dig b u).drop (k + 1) = (dig b v).drop (k + 1)) (hlt : y < x) : cmpI u v = 1 := by
  apply cmpI_gt
  have := val_lt_of_digit b hb (dig_lt b hb v) h2 h1 h.symm hlt
  rwa [val_dig b hb, val_dig b hb] at this
theorem cmp_same {b u v : Nat} (hb : 2 ≤ b) (h : (dig b u).drop 0 = (dig b v).drop 0) : cmpI u v = 0 := cmpI_eq (dig_inj b hb h)
theorem drop_step {xs ys : List Nat} {k x : Nat} (h1 : xs[k]? = some x) (h2 : ys[k]? = some x) (h : xs.drop (k + 1) = ys.drop (k + 1)) : xs.drop k = ys.drop k := by
  have l1 := lt_of_getElem? h1
  have l2 := lt_of_getElem? h2
  rw [List.drop_eq_getElem_cons l1, List.drop_eq_getElem_cons l2, h]
  rw [List.getElem?_eq_getElem l1] at h1
  rw [List.getElem?_eq_getElem l2] at h2
  rw [Option.some.inj h1, Option.some.inj h2]
theorem take_set {α : Type} (zs : List α) (k : Nat) (v : α) (hk : k < zs.length) : (zs.set k v).take (k + 1) = zs.take k ++ [v] := by
  rw [take_snoc _ k v (by rw [List.getElem?_set_self hk])]
  rw [List.take_set_of_le (Nat.le_refl k)]
theorem put_step (b : Nat) (zs : List Nat) (k S : Nat) (hk : k < zs.length) : val b ((zs.set k (S % b)).take (k + 1)) + b ^ (k + 1) * (S / b) = val b (zs.take k) + b ^ k * S := by
  rw [take_set zs k _ hk, val_snoc, List.length_take, Nat.min_eq_left (by omega), Nat.pow_succ, Nat.mul_assoc, Nat.add_assoc, ← Nat.mul_add, Nat.mod_add_div]
theorem val_take_succ (b : Nat) {xs : List Nat} {k x : Nat} (h : xs[k]? = some x) : val b (xs.take (k + 1)) = val b (xs.take k) + b ^ k * x := by
  have hl := lt_of_getElem? h
  rw [take_snoc xs k x h, val_snoc, List.length_take, Nat.min_eq_left (by omega)]
/-- one round of a loop that carries -/
theorem carry_step {b : Nat} {zs ys : List Nat} {k C x : Nat} (hk : k < zs.length) (hx : ys[k]? = some x) (h : val b (zs.take k) + b ^ k * C = val b (ys.take k)) :
    val b ((zs.set k ((C + x) % b)).take (k + 1)) + b ^ (k + 1) * ((C + x) / b) = val b (ys.take (k + 1)) := by
  rw [put_step b zs k (C + x) hk, val_take_succ b hx, Nat.mul_add, ← Nat.add_assoc, h]
theorem all_take_set {b : Nat} {zs : List Nat} {k v : Nat} (hk : k < zs.length) (h : ∀ x ∈ zs.take k, x < b) (hv : v < b) : ∀ x ∈ (zs.set k v).take (k + 1), x < b := by
  rw [take_set zs k v hk]
  intro x hx
  rcases List.mem_append.1 hx with h1 | h1
  · exact h x h1
  · simp at h1; subst h1; exact hv
theorem mem_trimL {xs : List Nat} {x : Nat} (h : x ∈ trimL xs) : x ∈ xs := by
  rw [trimL_eq_take] at h
  exact List.mem_of_mem_take h
theorem trimL_idem (xs : List Nat) : trimL (trimL xs) = trimL xs := by
  induction xs with
  | nil => rfl
  | cons x xs ih =>
    simp only [trimL]
    cases h : trimL xs with
    | nil =>
      by_cases hx : x = 0
      · simp [hx, trimL]
      · simp [hx, trimL]
    | cons y ys =>
      rw [h] at ih
      show (match trimL (y :: ys) with | [] => if x = 0 then [] else [x] | y :: ys => x :: y :: ys) = _
      rw [ih]
theorem val_le_of_all (b M : Nat) (xs : List Nat) (h : ∀ x ∈ xs, x ≤ M) (hb : 1 ≤ b) : (b - 1) * val b xs ≤ M * (b ^ xs.length - 1) := by
  induction xs with
  | nil => simp [val]
  | cons x xs ih =>
    have ih' := ih (fun y hy => h y (List.mem_cons_of_mem _ hy))
    have hx := h x List.mem_cons_self
    simp only [val, List.length_cons, Nat.pow_succ]
    have hp : 1 ≤ b ^ xs.length := Nat.pow_pos (by omega)
    generalize hq : b ^ xs.length = q at *
    have e1 : (b - 1) * (x + b * val b xs) = (b - 1) * x + b * ((b - 1) * val b xs) := by
      rw [Nat.mul_add, ← Nat.mul_assoc, ← Nat.mul_assoc, Nat.mul_comm b (b - 1)]
    have e2 : M * (q * b - 1) = (b - 1) * M + b * (M * (q - 1)) := by
      obtain ⟨q, rfl⟩ : ∃ r, q = r + 1 := ⟨q - 1, by omega⟩
      obtain ⟨b, rfl⟩ : ∃ r, b = r + 1 := ⟨b - 1, by omega⟩
      have : (q + 1) * (b + 1) - 1 = b + (b + 1) * q := by rw [Nat.mul_comm, Nat.mul_add]; omega
      rw [this, Nat.mul_add, Nat.add_sub_cancel, Nat.add_sub_cancel, Nat.mul_comm M b, Nat.mul_left_comm]
    rw [e1, e2]
    exact Nat.add_le_add (Nat.mul_le_mul_left _ hx) (Nat.mul_le_mul_left _ ih')
theorem val_lt_u32 (xs : List Nat) (h : ∀ x ∈ xs, x < 4294967296) : val B9 xs < B9 ^ (xs.length + 1) := by
  have h1 := val_le_of_all B9 4294967295 xs (fun x hx => by have := h x hx; omega) (by decide)
  have hp : 1 ≤ B9 ^ xs.length := Nat.pow_pos (by decide)
  rw [Nat.pow_succ]
  generalize B9 ^ xs.length = q at *
  show val B9 xs < q * 1000000000
  have h2 : 999999999 * val B9 xs ≤ 4294967295 * (q - 1) := h1
  omega
theorem val_take_all (b : Nat) {xs : List Nat} {k j : Nat} (h : xs.length ≤ k) (h2 : xs.length ≤ j) : val b (xs.take j) = val b (xs.take k) := by
  rw [List.take_of_length_le h, List.take_of_length_le h2]
theorem add_step {b : Nat} {zs xs ys : List Nat} {k C x y : Nat} (hk : k < zs.length) (hx : xs[k]? = some x) (hy : ys[k]? = some y) (h : val b (zs.take k) + b ^ k * C = val b (xs.take k) + val b (ys.take k)) :
    val b ((zs.set k ((C + x + y) % b)).take (k + 1)) + b ^ (k + 1) * ((C + x + y) / b) = val b (xs.take (k + 1)) + val b (ys.take (k + 1)) := by
  rw [put_step b zs k (C + x + y) hk, val_take_succ b hx, val_take_succ b hy, Nat.mul_add, Nat.mul_add]
  omega
theorem add_step_none {b : Nat} {zs xs ys : List Nat} {k C x : Nat} (hk : k < zs.length) (hx : xs[k]? = some x) (hy : ys.length ≤ k) (h : val b (zs.take k) + b ^ k * C = val b (xs.take k) + val b (ys.take k)) :
    val b ((zs.set k ((C + x) % b)).take (k + 1)) + b ^ (k + 1) * ((C + x) / b) = val b (xs.take (k + 1)) + val b (ys.take (k + 1)) := by
  rw [put_step b zs k (C + x) hk, val_take_succ b hx, val_take_all b hy (by omega : ys.length ≤ k + 1), Nat.mul_add]
  omega
/-- the last limb, and the leading zeros left out -/
theorem last_limb {b : Nat} (hb : 2 ≤ b) {zs : List Nat} {k C V : Nat} (hk : zs.length = k + 1) (h : val b (zs.take k) + b ^ k * C = V) (hz : ∀ x ∈ zs.take k, x < b) (hC : C < b) :
    trimL (zs.set k C) = dig b V := by
  have e1 := put_step b zs k C (by omega)
  rw [Nat.mod_eq_of_lt hC, Nat.div_eq_of_lt hC, Nat.mul_zero, Nat.add_zero, h, List.take_of_length_le (by rw [List.length_set]; omega)] at e1
  rw [← e1]
  apply trimL_dig b hb
  have e2 := all_take_set (by omega : k < zs.length) hz hC
  rwa [List.take_of_length_le (by rw [List.length_set]; omega)] at e2
theorem val_take_dig (b : Nat) (hb : 2 ≤ b) (v k : Nat) (h : (dig b v).length ≤ k) : val b ((dig b v).take k) = v := by
  rw [List.take_of_length_le h, val_dig b hb]
theorem mul_step {b : Nat} {zk zs xs : List Nat} {o k C z x F : Nat} (hk : o + k < zk.length) (hz : zs[o + k]? = some z) (hx : xs[k]? = some x)
    (h : val b (zk.take (o + k)) + b ^ (o + k) * C = val b (zs.take (o + k)) + b ^ o * (F * val b (xs.take k))) :
    val b ((zk.set (o + k) ((C + (z + F * x)) % b)).take (o + k + 1)) + b ^ (o + k + 1) * ((C + (z + F * x)) / b) = val b (zs.take (o + k + 1)) + b ^ o * (F * val b (xs.take (k + 1))) := by
  rw [put_step b zk (o + k) _ hk, val_take_succ b hz, val_take_succ b hx]
  have e : b ^ o * (F * (val b (xs.take k) + b ^ k * x)) = b ^ o * (F * val b (xs.take k)) + b ^ (o + k) * (F * x) := by
    rw [Nat.mul_add F, Nat.mul_add (b ^ o), Nat.pow_add, Nat.mul_assoc (b ^ o), Nat.mul_left_comm F]
  rw [e, Nat.mul_add, Nat.mul_add]
  omega
theorem drop_set_lt {α : Type} (xs : List α) (i j : Nat) (v : α) (h : i < j) : (xs.set i v).drop j = xs.drop j := by
  apply List.ext_getElem?
  intro k
  rw [List.getElem?_drop, List.getElem?_drop, List.getElem?_set_ne (by omega)]
theorem getElem?_of_drop {α : Type} {xs ys : List α} {j k : Nat} (h : xs.drop j = ys.drop j) (hk : j ≤ k) : xs[k]? = ys[k]? := by
  have := congrArg (fun l => l[k - j]?) h
  simp only [List.getElem?_drop] at this
  rwa [show j + (k - j) = k from by omega] at this
theorem drop_of_drop {α : Type} {xs ys : List α} {j k : Nat} (h : xs.drop j = ys.drop j) (hk : j ≤ k) : xs.drop k = ys.drop k := by
  have := congrArg (List.drop (k - j)) h
  rwa [List.drop_drop, List.drop_drop, show j + (k - j) = k from by omega] at this
theorem all_set {b : Nat} {zs : List Nat} {k v : Nat} (h : ∀ x ∈ zs, x < b) (hv : v < b) : ∀ x ∈ zs.set k v, x < b := by
  intro x hx
  rcases List.mem_or_eq_of_mem_set hx with h1 | h1
  · exact h x h1
  · subst h1; exact hv
theorem val_set {b : Nat} {zs : List Nat} {k z v : Nat} (h : zs[k]? = some z) : val b (zs.set k v) + b ^ k * z = val b zs + b ^ k * v := by
  have hl := lt_of_getElem? h
  have h1 := val_split b h
  have h2 : (zs.set k v)[k]? = some v := List.getElem?_set_self hl
  have h3 := val_split b h2
  rw [List.take_set_of_le (Nat.le_refl k), drop_set_lt zs k (k + 1) v (by omega)] at h3
  rw [h1, h3, Nat.mul_add, Nat.mul_add]
  omega
theorem mul_end {b : Nat} {zk zs xs : List Nat} {o n C F : Nat} (hz : zs[o + n]? = some 0) (hd : zk.drop (o + n) = zs.drop (o + n)) (hx : xs.length ≤ n)
    (h : val b (zk.take (o + n)) + b ^ (o + n) * C = val b (zs.take (o + n)) + b ^ o * (F * val b (xs.take n))) :
    val b (zk.set (o + n) C) = val b zs + b ^ o * (F * val b xs) := by
  have hz' : zk[o + n]? = some 0 := by rw [getElem?_of_drop hd (Nat.le_refl _)]; exact hz
  have h1 := val_set (b := b) (v := C) hz'
  have h2 := val_split b hz
  have h3 := val_split b hz'
  rw [drop_of_drop hd (by omega : o + n ≤ o + n + 1)] at h3
  rw [List.take_of_length_le hx] at h
  omega
theorem val_replicate_zero (b n : Nat) : val b (List.replicate n 0) = 0 := by
  induction n with
  | zero => rfl
  | succ n ih => rw [List.replicate_succ]; simp [val, ih]
theorem drop_replicate_eq {n j : Nat} : (List.replicate n 0).drop j = List.replicate (n - j) 0 := by simp
theorem dig_len_u32 {xs : List Nat} {n m : Nat} (h1 : (dig B9 (val B9 xs)).length = n) (h2 : xs.length = m) (h : ∀ x ∈ xs, x < 4294967296) : n ≤ m + 1 := by
  rw [← h1, ← h2, dig_length_le B9 (by decide)]
  exact val_lt_u32 xs h
theorem sub_step {b : Nat} {zs xs ys : List Nat} {k C C' x y z : Nat} (hk : k < zs.length) (hx : xs[k]? = some x) (hy : ys[k]? = some y) (hz : z + (C + y) = x + b * C')
    (h : val b (zs.take k) + val b (ys.take k) = val b (xs.take k) + b ^ k * C) :
    val b ((zs.set k z).take (k + 1)) + val b (ys.take (k + 1)) = val b (xs.take (k + 1)) + b ^ (k + 1) * C' := by
  rw [take_set zs k z hk, val_snoc, List.length_take, Nat.min_eq_left (by omega), val_take_succ b hx, val_take_succ b hy, Nat.pow_succ, Nat.mul_assoc]
  have e := congrArg (fun t => b ^ k * t) hz
  simp only [Nat.mul_add] at e
  omega
theorem sub_step_none {b : Nat} {zs xs ys : List Nat} {k C C' x z : Nat} (hk : k < zs.length) (hx : xs[k]? = some x) (hy : ys.length ≤ k) (hz : z + C = x + b * C')
    (h : val b (zs.take k) + val b (ys.take k) = val b (xs.take k) + b ^ k * C) :
    val b ((zs.set k z).take (k + 1)) + val b (ys.take (k + 1)) = val b (xs.take (k + 1)) + b ^ (k + 1) * C' := by
  rw [take_set zs k z hk, val_snoc, List.length_take, Nat.min_eq_left (by omega), val_take_succ b hx, val_take_all b hy (by omega : ys.length ≤ k + 1), Nat.pow_succ, Nat.mul_assoc]
  have e := congrArg (fun t => b ^ k * t) hz
  simp only [Nat.mul_add] at e
  omega
theorem sub_end {b : Nat} (hb : 2 ≤ b) {zs : List Nat} {n C u v : Nat} (hl : zs.length = n) (hz : ∀ x ∈ zs, x < b) (h : val b zs + v = u + b ^ n * C) (huv : v ≤ u) : trimL zs = dig b (u - v) := by
  have h1 := val_lt b hb zs hz
  rw [hl] at h1
  have hC : C = 0 := by
    rcases Nat.eq_zero_or_pos C with h0 | h0
    · exact h0
    · have : b ^ n * 1 ≤ b ^ n * C := Nat.mul_le_mul_left _ h0
      omega
  subst hC
  rw [trimL_dig b hb zs hz]
  congr 1
  omega
/-- the number of decimal digits of a value -/
def nd (v : Nat) : Nat := if v = 0 then 1 else (dig 10 v).length
theorem len_split {m low t : Nat} (hl : low < 10 ^ m) (ht : t ≠ 0) : (dig 10 (low + 10 ^ m * t)).length = m + (dig 10 t).length := by
  have h10 : 2 ≤ 10 := by decide
  have hp : 0 < 10 ^ m := Nat.pow_pos (by decide)
  obtain ⟨L, hL⟩ : ∃ L, (dig 10 t).length = L + 1 := ⟨(dig 10 t).length - 1, by rw [dig_pos 10 h10 t ht]; simp⟩
  have ht1 : t < 10 ^ (L + 1) := (dig_length_le 10 h10 _ t).1 (by omega)
  have ht2 : 10 ^ L ≤ t := by
    rcases Nat.lt_or_ge t (10 ^ L) with h | h
    · have := (dig_length_le 10 h10 L t).2 h; omega
    · exact h
  apply Nat.le_antisymm
  · rw [dig_length_le 10 h10, hL, Nat.pow_add]
    have h1 : 10 ^ m * (t + 1) ≤ 10 ^ m * 10 ^ (L + 1) := Nat.mul_le_mul_left _ ht1
    rw [Nat.mul_add, Nat.mul_one] at h1
    omega
  · rcases Nat.lt_or_ge (dig 10 (low + 10 ^ m * t)).length (m + (dig 10 t).length) with h | h
    · have h1 := (dig_length_le 10 h10 (m + L) (low + 10 ^ m * t)).1 (by omega)
      rw [Nat.pow_add] at h1
      have h2 : 10 ^ m * 10 ^ L ≤ 10 ^ m * t := Nat.mul_le_mul_left _ ht2
      omega
    · exact h
theorem pow_B9 (k : Nat) : B9 ^ k = 10 ^ (9 * k) := by
  rw [Nat.pow_mul]
theorem nd_top {v n t : Nat} (hl : (dig B9 v).length = n) (hn : n ≠ 0) (ht : (dig B9 v)[n - 1]? = some t) : nd v = 9 * (n - 1) + (dig 10 t).length ∧ t ≠ 0 := by
  have hb : 2 ≤ B9 := by decide
  have hv0 : v ≠ 0 := by
    rintro rfl
    rw [dig_zero] at hl
    simp at hl; omega
  have hsp := val_split B9 ht
  have hdr : (dig B9 v).drop (n - 1 + 1) = [] := List.drop_eq_nil_of_le (by omega)
  rw [val_dig B9 hb, hdr] at hsp
  simp only [val, Nat.mul_zero, Nat.add_zero] at hsp
  have hlt := val_take_lt B9 hb (dig_lt B9 hb v) (n - 1)
  have ht0 : t ≠ 0 := by
    rintro rfl
    rw [Nat.mul_zero, Nat.add_zero] at hsp
    have := (dig_length_le B9 hb (n - 1) v).2 (by omega)
    omega
  refine ⟨?_, ht0⟩
  rw [nd, if_neg hv0]
  have e : v = val B9 ((dig B9 v).take (n - 1)) + 10 ^ (9 * (n - 1)) * t := by rw [← pow_B9]; exact hsp
  rw [pow_B9] at hlt
  rw [e]
  exact len_split hlt ht0
theorem dig_len_step {t : Nat} (h : t ≠ 0) : (dig 10 t).length = (dig 10 (t / 10)).length + 1 := by
  rw [dig_pos 10 (by decide) t h]; rfl
theorem gcd_step (a b : Nat) : Nat.gcd b (a % b) = Nat.gcd a b := by
  rw [Nat.gcd_comm b (a % b), Nat.gcd_comm a b, Nat.gcd_rec b a]
theorem val_drop_step (b : Nat) {xs : List Nat} {k x : Nat} (h : xs[k]? = some x) : val b (xs.drop k) = x + b * val b (xs.drop (k + 1)) := by
  have hl := lt_of_getElem? h
  rw [List.drop_eq_getElem_cons hl]
  rw [List.getElem?_eq_getElem hl] at h
  rw [Option.some.inj h]
  rfl
theorem val_drop_lt (b : Nat) (hb : 2 ≤ b) {xs : List Nat} (h : ∀ x ∈ xs, x < b) (k : Nat) : val b (xs.drop k) < b ^ (xs.length - k) := by
  have h1 := val_lt b hb (xs.drop k) (fun x hx => h x (List.mem_of_mem_drop hx))
  rwa [List.length_drop] at h1
theorem div_step {D V x b : Nat} (hD : 0 < D) : (x + b * V) / D = (V % D * b + x) / D + b * (V / D) ∧ (x + b * V) % D = (V % D * b + x) % D := by
  have e : x + b * V = (V % D * b + x) + D * (b * (V / D)) := by
    have h := Nat.mod_add_div V D
    have h2 : b * V = b * (V % D) + b * (D * (V / D)) := by rw [← Nat.mul_add, h]
    rw [h2, Nat.mul_left_comm b D, Nat.mul_comm b (V % D)]
    omega
  constructor
  · rw [e, Nat.add_mul_div_left _ _ hD]
  · rw [e, Nat.add_mul_mod_self_left]
theorem div_bound {D R x b : Nat} (hR : R < D) (hx : x < b) : (R * b + x) / D < b := by
  rw [Nat.div_lt_iff_lt_mul (by omega)]
  have h1 : (R + 1) * b ≤ D * b := Nat.mul_le_mul_right _ hR
  rw [Nat.add_mul, Nat.one_mul] at h1
  rw [Nat.mul_comm b D]
  omega
theorem drop_set_eq {α : Type} (zs : List α) (k : Nat) (v : α) (hk : k < zs.length) : (zs.set k v).drop k = v :: zs.drop (k + 1) := by
  rw [List.drop_eq_getElem_cons (by rw [List.length_set]; exact hk), List.getElem_set_self, drop_set_lt _ _ _ _ (by omega)]
theorem val_drop_set (b : Nat) (zs : List Nat) (k v : Nat) (hk : k < zs.length) : val b ((zs.set k v).drop k) = v + b * val b (zs.drop (k + 1)) := by
  rw [drop_set_eq zs k v hk]; rfl
/-- the loop of the guess -/
theorem guess_go {G R d1 d0 t t0 b : Nat} (h : G * d1 + R = t) (hlt : R * b + t0 < G * d0) : t * b + t0 < G * (d1 * b + d0) := by
  have e : G * (d1 * b + d0) = G * d1 * b + G * d0 := by rw [Nat.mul_add, Nat.mul_assoc]
  rw [e, ← h, Nat.add_mul]
  omega
theorem guess_end {G R d1 d0 t t0 b : Nat} (h : G * d1 + R = t) (hle : G * d0 ≤ R * b + t0) : G * (d1 * b + d0) ≤ t * b + t0 := by
  have e : G * (d1 * b + d0) = G * d1 * b + G * d0 := by rw [Nat.mul_add, Nat.mul_assoc]
  rw [e, ← h, Nat.add_mul]
  omega
theorem guess_first {d1 d0 t t0 b : Nat} (hd : 0 < d1) (hb : 0 < b) (ht0 : t0 < b) : (t * b + t0) / (d1 * b + d0) ≤ t / d1 := by
  have hp : 0 < d1 * b + d0 := by have := Nat.mul_pos hd hb; omega
  rw [Nat.le_div_iff_mul_le hd]
  have h1 : (t * b + t0) / (d1 * b + d0) * (d1 * b + d0) ≤ t * b + t0 := Nat.div_mul_le_self _ _
  generalize (t * b + t0) / (d1 * b + d0) = q at *
  rw [Nat.mul_add, ← Nat.mul_assoc] at h1
  have h2 : q * d1 * b < (t + 1) * b := by rw [Nat.add_mul, Nat.one_mul]; omega
  have := Nat.lt_of_mul_lt_mul_right h2
  omega
theorem smul_step {b : Nat} {dk ds ys : List Nat} {k F B B' y z v : Nat} (hk : k < dk.length) (hz : ds[k]? = some z) (hy : ys[k]? = some y) (e : v + (B + F * y) = z + b * B')
    (h : val b (dk.take k) + F * val b (ys.take k) = val b (ds.take k) + b ^ k * B) :
    val b ((dk.set k v).take (k + 1)) + F * val b (ys.take (k + 1)) = val b (ds.take (k + 1)) + b ^ (k + 1) * B' := by
  rw [take_set dk k v hk, val_snoc, List.length_take, Nat.min_eq_left (by omega), val_take_succ b hz, val_take_succ b hy, Nat.pow_succ, Nat.mul_assoc]
  have e2 := congrArg (fun t => b ^ k * t) e
  simp only [Nat.mul_add] at e2
  rw [Nat.mul_add, Nat.mul_left_comm F]
  omega
theorem drop_set_add {α : Type} (zs : List α) (o k : Nat) (v : α) : (zs.set (o + k) v).drop o = (zs.drop o).set k v := by
  apply List.ext_getElem?
  intro j
  rw [List.getElem?_drop, List.getElem?_set, List.getElem?_set, List.getElem?_drop]
  by_cases h : k = j
  · subst h
    by_cases h2 : o + k < zs.length
    · simp [h2]; omega
    · simp; rw [if_neg (by omega), if_neg (by omega)]
  · rw [if_neg (by omega), if_neg h]
theorem take_set_lt {α : Type} (zs : List α) (o k : Nat) (v : α) (h : k ≤ o) : (zs.set o v).take k = zs.take k := List.take_set_of_le h
/-- Knuth: the quotient of the first three limbs by two is at most one too great -/
theorem guess_bounds {b m pv dv lo lo' top d : Nat} (hpv : pv = lo + b ^ m * top) (hlo : lo < b ^ m) (hdv : dv = lo' + b ^ m * d) (hlo' : lo' < b ^ m) (hd : 0 < d) (hq : top / d ≤ d) :
    pv / dv ≤ top / d ∧ top / d ≤ pv / dv + 1 := by
  have hp : 0 < b ^ m := by omega
  have hdv0 : 0 < dv := by rw [hdv]; have := Nat.mul_pos hp hd; omega
  constructor
  · rw [Nat.le_div_iff_mul_le hd]
    have h1 : pv / dv * dv ≤ pv := Nat.div_mul_le_self _ _
    generalize pv / dv = q at *
    have h2 : q * d * b ^ m < (top + 1) * b ^ m := by
      have e1 : q * dv = q * lo' + q * d * b ^ m := by rw [hdv, Nat.mul_add, ← Nat.mul_assoc, Nat.mul_right_comm]
      have e2 : (top + 1) * b ^ m = b ^ m * top + b ^ m := by rw [Nat.add_mul, Nat.one_mul, Nat.mul_comm]
      omega
    have := Nat.lt_of_mul_lt_mul_right h2
    omega
  · have h1 : top / d * d ≤ top := Nat.div_mul_le_self _ _
    generalize top / d = q at *
    rcases Nat.eq_zero_or_pos q with h0 | h0
    · rw [h0]; exact Nat.zero_le _
    · have h2 : (q - 1) ≤ pv / dv := by
        rw [Nat.le_div_iff_mul_le hdv0]
        obtain ⟨p, rfl⟩ : ∃ p, q = p + 1 := ⟨q - 1, by omega⟩
        rw [Nat.add_sub_cancel]
        have e1 : p * dv = p * lo' + b ^ m * (p * d) := by rw [hdv, Nat.mul_add, Nat.mul_left_comm]
        have e2 : p * lo' ≤ p * b ^ m := Nat.mul_le_mul_left _ (by omega)
        have e3 : b ^ m * ((p + 1) * d) ≤ b ^ m * top := Nat.mul_le_mul_left _ h1
        have e4 : b ^ m * ((p + 1) * d) = b ^ m * (p * d) + b ^ m * d := by rw [← Nat.mul_add, Nat.add_mul, Nat.one_mul]
        have e5 : p * b ^ m ≤ b ^ m * d := by rw [Nat.mul_comm]; exact Nat.mul_le_mul_left _ (by omega)
        omega
      generalize pv / dv = z at *
      omega
end Go.Proofs.Ytadmiecoahohiaa
