/- Numbers of combinatorics: plain mathematics. -/
namespace Go.Proofs.YtjmiaodjapclbaaDoor

/-- low * (low + 1) * .., c factors -/
def prodf (low : Nat) : Nat → Nat
  | 0 => 1
  | c + 1 => prodf low c * (low + c)
/-- n * (n - 1) * .., k factors -/
def falr (n : Nat) : Nat → Nat
  | 0 => 1
  | k + 1 => falr n k * (n - k)
/-- the numbers of sets -/
def cho : Nat → Nat → Nat
  | _, 0 => 1
  | 0, _ + 1 => 0
  | n + 1, k + 1 => cho n k + cho n (k + 1)
/-- the numbers of partitions -/
def stir : Nat → Nat → Nat
  | 0, 0 => 1
  | 0, _ + 1 => 0
  | _ + 1, 0 => 0
  | n + 1, k + 1 => stir n k + (k + 1) * stir n (k + 1)
theorem prodf_front (low c : Nat) : prodf low (c + 1) = low * prodf (low + 1) c := by
  induction c with
  | zero => simp [prodf]
  | succ c ih =>
    show prodf low (c + 1) * (low + (c + 1)) = low * (prodf (low + 1) c * (low + 1 + c))
    rw [ih, Nat.mul_assoc, show low + (c + 1) = low + 1 + c by omega]
theorem prodf_pos (low c : Nat) (h : 0 < low) : 0 < prodf low c := by
  induction c with
  | zero => exact Nat.one_pos
  | succ c ih => exact Nat.mul_pos ih (by omega)
theorem falr_prodf : ∀ (k n : Nat), k ≤ n → falr n k = prodf (n - k + 1) k
  | 0, _, _ => rfl
  | k + 1, n, h => by
    rw [prodf_front, show n - (k + 1) + 1 = n - k by omega]
    show falr n k * (n - k) = _
    rw [falr_prodf k n (by omega), Nat.mul_comm]
theorem falr_zero {n k : Nat} (h : n < k) : falr n k = 0 := by
  induction k with
  | zero => omega
  | succ k ih =>
    show falr n k * (n - k) = 0
    by_cases hk : n < k
    · rw [ih hk, Nat.zero_mul]
    · rw [show n - k = 0 by omega, Nat.mul_zero]
theorem falr_front (n k : Nat) : falr (n + 1) (k + 1) = (n + 1) * falr n k := by
  induction k with
  | zero => simp [falr]
  | succ k ih =>
    show falr (n + 1) (k + 1) * (n + 1 - (k + 1)) = (n + 1) * (falr n k * (n - k))
    rw [ih, Nat.mul_assoc, show n + 1 - (k + 1) = n - k by omega]
theorem falr_self (n : Nat) : falr n n = prodf 1 n := by rw [falr_prodf n n (Nat.le_refl n), Nat.sub_self]
/-- falling products by sets -/
theorem falr_step (n k : Nat) : falr (n + 1) (k + 1) = falr n (k + 1) + (k + 1) * falr n k := by
  by_cases h : k ≤ n
  · rw [falr_front]
    show (n + 1) * falr n k = falr n k * (n - k) + (k + 1) * falr n k
    rw [Nat.mul_comm (falr n k), ← Nat.add_mul, show n - k + (k + 1) = n + 1 by omega]
  · rw [falr_zero (n := n + 1) (by omega), falr_zero (n := n) (k := k + 1) (by omega), falr_zero (n := n) (k := k) (by omega), Nat.mul_zero]
theorem falr_cho : ∀ (n k : Nat), falr n k = cho n k * prodf 1 k
  | n, 0 => by unfold falr cho; simp [prodf]
  | 0, k + 1 => by
    rw [falr_zero (by omega)]
    simp [cho]
  | n + 1, k + 1 => by
    have e : (k + 1) * (cho n k * prodf 1 k) = cho n k * prodf 1 (k + 1) := by
      show _ = cho n k * (prodf 1 k * (1 + k))
      rw [Nat.add_comm 1 k, Nat.mul_comm (k + 1), Nat.mul_assoc]
    rw [falr_step, falr_cho n (k + 1), falr_cho n k, e]
    show _ = (cho n k + cho n (k + 1)) * prodf 1 (k + 1)
    rw [Nat.add_mul, Nat.add_comm]
/-- a binomial is a quotient of products -/
theorem cho_quo {n k : Nat} (h : k ≤ n) : prodf (n - k + 1) k / prodf 1 k = cho n k := by
  rw [← falr_prodf k n h, falr_cho, Nat.mul_div_cancel _ (prodf_pos 1 k (by omega))]
theorem cho_zero {n k : Nat} (h : n < k) : cho n k = 0 := by
  have h1 := falr_cho n k
  rw [falr_zero h] at h1
  have h2 := prodf_pos 1 k (by omega)
  rcases Nat.mul_eq_zero.1 h1.symm with h3 | h3
  · exact h3
  · omega
theorem prodf_add (low a b : Nat) : prodf low (a + b) = prodf low a * prodf (low + a) b := by
  induction b with
  | zero => simp [prodf]
  | succ b ih =>
    show prodf low (a + b) * (low + (a + b)) = prodf low a * (prodf (low + a) b * (low + a + b))
    rw [ih, Nat.mul_assoc, Nat.add_assoc low a b]
theorem cho_fact {n k : Nat} (h : k ≤ n) : cho n k * prodf 1 k * prodf 1 (n - k) = prodf 1 n := by
  rw [← falr_cho, falr_prodf k n h, Nat.mul_comm]
  have := prodf_add 1 (n - k) k
  rw [show n - k + k = n by omega, Nat.add_comm 1 (n - k)] at this
  exact this.symm
theorem cho_sym {n k : Nat} (h : k ≤ n) : cho n (n - k) = cho n k := by
  have h1 := cho_fact h
  have h2 := cho_fact (show n - k ≤ n by omega)
  rw [show n - (n - k) = k by omega] at h2
  have h3 : cho n (n - k) * (prodf 1 (n - k) * prodf 1 k) = cho n k * (prodf 1 (n - k) * prodf 1 k) := by
    rw [← Nat.mul_assoc, h2, ← h1, Nat.mul_comm (prodf 1 (n - k)), Nat.mul_assoc]
  exact Nat.eq_of_mul_eq_mul_right (Nat.mul_pos (prodf_pos 1 _ (by omega)) (prodf_pos 1 _ (by omega))) h3
theorem stir_zero : ∀ {n k : Nat}, n < k → stir n k = 0
  | 0, k + 1, _ => rfl
  | n + 1, k + 1, h => by
    show stir n k + (k + 1) * stir n (k + 1) = 0
    rw [stir_zero (by omega), stir_zero (by omega), Nat.mul_zero]
/-- the sum of f 0 .. f n -/
def sumTo (f : Nat → Nat) : Nat → Nat
  | 0 => f 0
  | n + 1 => sumTo f n + f (n + 1)
theorem sumTo_congr {f g : Nat → Nat} : ∀ {n : Nat}, (∀ i ≤ n, f i = g i) → sumTo f n = sumTo g n
  | 0, h => h 0 (Nat.le_refl _)
  | n + 1, h => by
    show sumTo f n + f (n + 1) = sumTo g n + g (n + 1)
    rw [sumTo_congr (fun i hi => h i (by omega)), h (n + 1) (Nat.le_refl _)]
theorem sumTo_add (f g : Nat → Nat) : ∀ n, sumTo (fun i => f i + g i) n = sumTo f n + sumTo g n
  | 0 => rfl
  | n + 1 => by
    show sumTo (fun i => f i + g i) n + (f (n + 1) + g (n + 1)) = (sumTo f n + f (n + 1)) + (sumTo g n + g (n + 1))
    rw [sumTo_add f g n]; omega
theorem sumTo_mul (f : Nat → Nat) (x : Nat) : ∀ n, sumTo (fun i => f i * x) n = sumTo f n * x
  | 0 => rfl
  | n + 1 => by
    show sumTo (fun i => f i * x) n + f (n + 1) * x = (sumTo f n + f (n + 1)) * x
    rw [sumTo_mul f x n, Nat.add_mul]
theorem sumTo_shift (f : Nat → Nat) : ∀ n, sumTo f (n + 1) = f 0 + sumTo (fun i => f (i + 1)) n
  | 0 => rfl
  | n + 1 => by
    show sumTo f (n + 1) + f (n + 2) = f 0 + (sumTo (fun i => f (i + 1)) n + f (n + 2))
    rw [sumTo_shift f n]; omega
theorem falr_mul (x k : Nat) : falr x k * x = falr x (k + 1) + k * falr x k := by
  show falr x k * x = falr x k * (x - k) + k * falr x k
  by_cases h : k ≤ x
  · rw [Nat.mul_comm k, ← Nat.mul_add, show x - k + k = x by omega]
  · rw [falr_zero (by omega)]; simp
/-- a power is the sum of the numbers of partitions times the falling products -/
theorem pow_stir (x : Nat) : ∀ n, sumTo (fun k => stir n k * falr x k) n = x ^ n
  | 0 => by simp [sumTo, stir, falr]
  | n + 1 => by
    rw [Nat.pow_succ, ← pow_stir x n, ← sumTo_mul]
    have e1 : sumTo (fun k => stir n k * falr x k * x) n = sumTo (fun k => stir n k * falr x (k + 1)) n + sumTo (fun k => k * stir n k * falr x k) n := by
      rw [← sumTo_add]
      exact sumTo_congr fun i _ => by
        rw [Nat.mul_assoc, falr_mul, Nat.mul_add, ← Nat.mul_assoc, Nat.mul_comm (stir n i) i]
    rw [e1, sumTo_shift]
    have e2 : sumTo (fun k => stir (n + 1) (k + 1) * falr x (k + 1)) n = sumTo (fun k => stir n k * falr x (k + 1)) n + sumTo (fun k => (k + 1) * stir n (k + 1) * falr x (k + 1)) n := by
      rw [← sumTo_add]
      exact sumTo_congr fun i _ => by
        show (stir n i + (i + 1) * stir n (i + 1)) * falr x (i + 1) = _
        rw [Nat.add_mul]
    have e3 : sumTo (fun k => k * stir n k * falr x k) n = sumTo (fun k => (k + 1) * stir n (k + 1) * falr x (k + 1)) n := by
      have h1 := sumTo_shift (fun k => k * stir n k * falr x k) n
      have h2 : sumTo (fun k => k * stir n k * falr x k) (n + 1) = sumTo (fun k => k * stir n k * falr x k) n := by
        show sumTo (fun k => k * stir n k * falr x k) n + (n + 1) * stir n (n + 1) * falr x (n + 1) = _
        rw [stir_zero (by omega)]; simp
      rw [← h2, h1]; simp
    rw [e2, e3]
    have e4 : stir (n + 1) 0 = 0 := rfl
    rw [e4]; simp
/-- a row of the numbers of partitions, reckoned from the row before -/
def sGo : Nat → List Nat → List Nat
  | _, [] => []
  | _, [x] => [x]
  | k, x :: y :: l => (x + k * y) :: sGo (k + 1) (y :: l)
def sNext (row : List Nat) : List Nat := 0 :: sGo 1 row
def sRow : Nat → List Nat
  | 0 => [1]
  | n + 1 => sNext (sRow n)
theorem sGo_spec (n : Nat) : ∀ (c j : Nat), j + c = n → sGo (j + 1) ((List.range' j (c + 1)).map (stir n)) = (List.range' (j + 1) (c + 1)).map (stir (n + 1))
  | 0, j, h => by
    have : stir n (j + 1) = 0 := stir_zero (by omega)
    show [stir n j] = [stir n j + (j + 1) * stir n (j + 1)]
    rw [this, Nat.mul_zero, Nat.add_zero]
  | c + 1, j, h => by
    have ih := sGo_spec n c (j + 1) (by omega)
    rw [List.range'_succ (s := j), List.range'_succ (s := j + 1) (n := c), List.range'_succ (s := j + 1) (n := c + 1)]
    rw [List.range'_succ (s := j + 1) (n := c)] at ih
    simp only [List.map_cons, sGo] at ih ⊢
    rw [ih]
    rfl
theorem sRow_spec : ∀ n, sRow n = (List.range (n + 1)).map (stir n)
  | 0 => rfl
  | n + 1 => by
    show 0 :: sGo 1 (sRow n) = _
    rw [sRow_spec n, List.range_eq_range', sGo_spec n n 0 (by omega), List.range_eq_range', List.range'_succ]
    rfl
/-- a row of Bell's triangle, reckoned from the row before -/
def cum : Nat → List Nat → List Nat
  | a, [] => [a]
  | a, x :: l => a :: cum (a + x) l
def bNext (row : List Nat) : List Nat := cum (row.getLastD 0) row
def bRow : Nat → List Nat
  | 0 => [1]
  | n + 1 => bNext (bRow n)
def rowsOk : Nat → List Nat → List Nat → Bool
  | 0, b, s => b.headD 0 == s.sum
  | n + 1, b, s => (b.headD 0 == s.sum) && rowsOk n (bNext b) (sNext s)
theorem rowsOk_at : ∀ (n : Nat) (b s : List Nat) (i : Nat), rowsOk n b s = true → i ≤ n → (Nat.rec b (fun _ r => bNext r) i : List Nat).headD 0 = (Nat.rec s (fun _ r => sNext r) i : List Nat).sum
  | 0, b, s, i, h, hi => by
    obtain rfl : i = 0 := by omega
    have h2 : b.headD 0 = s.sum := eq_of_beq h
    exact h2
  | n + 1, b, s, i, h, hi => by
    simp only [rowsOk, Bool.and_eq_true] at h
    cases i with
    | zero =>
      have h2 : b.headD 0 = s.sum := eq_of_beq h.1
      exact h2
    | succ i =>
      have ih := rowsOk_at n (bNext b) (sNext s) i h.2 (by omega)
      have e : ∀ (f : List Nat → List Nat) (x : List Nat) (m : Nat), (Nat.rec (f x) (fun _ r => f r) m : List Nat) = f (Nat.rec x (fun _ r => f r) m) := by
        intro f x m
        induction m with
        | zero => rfl
        | succ m ihm => exact congrArg f ihm
      rw [e, e] at ih
      exact ih
theorem bRow_rec (n : Nat) : bRow n = Nat.rec [1] (fun _ r => bNext r) n := by
  induction n with
  | zero => rfl
  | succ n ih => exact congrArg bNext ih
theorem sRow_rec (n : Nat) : sRow n = Nat.rec [1] (fun _ r => sNext r) n := by
  induction n with
  | zero => rfl
  | succ n ih => exact congrArg sNext ih
theorem rows64 : rowsOk 64 [1] [1] = true := by decide +kernel
theorem sum_range (f : Nat → Nat) : ∀ n, ((List.range (n + 1)).map f).sum = sumTo f n
  | 0 => by simp [sumTo]
  | n + 1 => by
    rw [List.range_succ, List.map_append, List.sum_append, sum_range f n]
    simp [sumTo]
/-- Bell's triangle begins with the sums of the numbers of partitions -/
theorem bell_sum {n : Nat} (h : n ≤ 64) : (bRow n).headD 0 = sumTo (stir n) n := by
  rw [← sum_range, ← sRow_spec, bRow_rec, sRow_rec]
  exact rowsOk_at 64 [1] [1] n rows64 h
/-- a row of Pascal's triangle, reckoned from the row before -/
def pGo : List Nat → List Nat
  | [] => []
  | [x] => [x]
  | x :: y :: l => (x + y) :: pGo (y :: l)
theorem pGo_spec (n : Nat) : ∀ (c j : Nat), j + c = n → pGo ((List.range' j (c + 1)).map (cho n)) = (List.range' (j + 1) (c + 1)).map (cho (n + 1))
  | 0, j, h => by
    have : cho n (j + 1) = 0 := cho_zero (by omega)
    show [cho n j] = [cho n j + cho n (j + 1)]
    rw [this, Nat.add_zero]
  | c + 1, j, h => by
    have ih := pGo_spec n c (j + 1) (by omega)
    rw [List.range'_succ (s := j), List.range'_succ (s := j + 1) (n := c), List.range'_succ (s := j + 1) (n := c + 1)]
    rw [List.range'_succ (s := j + 1) (n := c)] at ih
    simp only [List.map_cons, pGo] at ih ⊢
    rw [ih]
    rfl
/-- strictly ascending numbers from v to e - 1 -/
def asc_ (v e : Nat) : List Nat → Prop
  | [] => True
  | s :: l => v ≤ s ∧ s < e ∧ asc_ (s + 1) e l
/-- the set of a rank: j numbers from v on, of m that there are -/
def un : Nat → Nat → Nat → Nat → List Nat
  | 0, _, _, _ => []
  | _ + 1, _, 0, _ => []
  | m + 1, v, j + 1, r => if r < cho m j then v :: un m (v + 1) j r else un m (v + 1) (j + 1) (r - cho m j)
/-- the rank of a set -/
def rk : Nat → Nat → List Nat → Nat
  | 0, _, _ => 0
  | _ + 1, _, [] => 0
  | m + 1, v, s :: l => if s = v then rk m (v + 1) l else cho m l.length + rk m (v + 1) (s :: l)
theorem cho_one (n : Nat) : cho n 0 = 1 := by cases n <;> rfl
theorem un_rk : ∀ (m v : Nat) (l : List Nat), asc_ v (v + m) l → un m v l.length (rk m v l) = l ∧ rk m v l < cho m l.length
  | 0, _, [], _ => ⟨rfl, Nat.one_pos⟩
  | 0, v, s :: l, h => by obtain ⟨h1, h2, _⟩ := h; omega
  | m + 1, v, [], _ => ⟨rfl, by rw [List.length_nil, cho_one]; exact Nat.one_pos⟩
  | m + 1, v, s :: l, h => by
    obtain ⟨h1, h2, h3⟩ := h
    by_cases hs : s = v
    · subst hs
      obtain ⟨i1, i2⟩ := un_rk m (s + 1) l (by rw [show s + 1 + m = s + (m + 1) by omega]; exact h3)
      have e : rk (m + 1) s (s :: l) = rk m (s + 1) l := by show (if s = s then _ else _) = _; rw [if_pos rfl]
      rw [e]
      refine ⟨?_, ?_⟩
      · show (if _ then _ else _) = _
        rw [if_pos i2, i1]
      · show _ < cho m l.length + cho m (l.length + 1)
        omega
    · obtain ⟨i1, i2⟩ := un_rk m (v + 1) (s :: l) ⟨by omega, by omega, by rw [show v + 1 + m = v + (m + 1) by omega]; exact h3⟩
      have e : rk (m + 1) v (s :: l) = cho m l.length + rk m (v + 1) (s :: l) := by show (if s = v then _ else _) = _; rw [if_neg hs]
      rw [e]
      refine ⟨?_, ?_⟩
      · show (if _ then _ else _) = _
        rw [if_neg (by omega), Nat.add_sub_cancel_left]
        exact i1
      · show _ < cho m l.length + cho m (l.length + 1)
        have : rk m (v + 1) (s :: l) < cho m (l.length + 1) := i2
        omega
/-- the set of a rank has its size, ascends, and has the rank -/
theorem rk_un : ∀ (m v j r : Nat), r < cho m j → (un m v j r).length = j ∧ asc_ v (v + m) (un m v j r) ∧ rk m v (un m v j r) = r
  | 0, v, 0, r, h => ⟨rfl, trivial, by rw [cho_one] at h; show 0 = r; omega⟩
  | 0, v, j + 1, r, h => by rw [cho_zero (by omega)] at h; omega
  | m + 1, v, 0, r, h => ⟨rfl, trivial, by rw [cho_one] at h; show 0 = r; omega⟩
  | m + 1, v, j + 1, r, h => by
    have h' : r < cho m j + cho m (j + 1) := h
    by_cases hr : r < cho m j
    · obtain ⟨i1, i2, i3⟩ := rk_un m (v + 1) j r hr
      have e : un (m + 1) v (j + 1) r = v :: un m (v + 1) j r := by show (if _ then _ else _) = _; rw [if_pos hr]
      rw [e]
      refine ⟨by rw [List.length_cons, i1], ⟨Nat.le_refl v, by omega, by rw [show v + (m + 1) = v + 1 + m by omega]; exact i2⟩, ?_⟩
      show (if v = v then _ else _) = _
      rw [if_pos rfl, i3]
    · obtain ⟨i1, i2, i3⟩ := rk_un m (v + 1) (j + 1) (r - cho m j) (by omega)
      have e : un (m + 1) v (j + 1) r = un m (v + 1) (j + 1) (r - cho m j) := by show (if _ then _ else _) = _; rw [if_neg hr]
      rw [e]
      generalize hl : un m (v + 1) (j + 1) (r - cho m j) = l at i1 i2 i3
      cases l with
      | nil => simp at i1
      | cons s l =>
        obtain ⟨k1, k2, k3⟩ := i2
        refine ⟨i1, ⟨by omega, by omega, by rw [show v + (m + 1) = v + 1 + m by omega]; exact k3⟩, ?_⟩
        show (if s = v then _ else _) = _
        rw [if_neg (by omega), i3]
        have : l.length = j := by simpa using i1
        rw [this]
        omega
/-- lexicographically before -/
def lexl : List Nat → List Nat → Prop
  | x :: a, y :: b => x < y ∨ x = y ∧ lexl a b
  | _, _ => False
theorem un_later : ∀ (m v j r r' : Nat), r < r' → r' < cho m j → lexl (un m v j r) (un m v j r')
  | 0, v, 0, r, r', h, h' => by rw [cho_one] at h'; omega
  | 0, v, j + 1, r, r', h, h' => by rw [cho_zero (by omega)] at h'; omega
  | m + 1, v, 0, r, r', h, h' => by rw [cho_one] at h'; omega
  | m + 1, v, j + 1, r, r', h, h' => by
    have h2 : r' < cho m j + cho m (j + 1) := h'
    show lexl (if _ then _ else _) (if _ then _ else _)
    by_cases hr' : r' < cho m j
    · rw [if_pos hr', if_pos (by omega)]
      exact Or.inr ⟨rfl, un_later m (v + 1) j r r' h hr'⟩
    · rw [if_neg hr']
      obtain ⟨i1, i2, _⟩ := rk_un m (v + 1) (j + 1) (r' - cho m j) (by omega)
      by_cases hr : r < cho m j
      · rw [if_pos hr]
        generalize un m (v + 1) (j + 1) (r' - cho m j) = l at i1 i2
        cases l with
        | nil => simp at i1
        | cons s l =>
          obtain ⟨k1, _, _⟩ := i2
          exact Or.inl (by omega)
      · rw [if_neg hr]
        exact un_later m (v + 1) (j + 1) _ _ (by omega) (by omega)
/-- the sets that come after, counted by the program -/
def aft (n : Nat) : List Nat → Nat
  | [] => 0
  | s :: l => cho (n - 1 - s) (l.length + 1) + aft n l
/-- rank, and the sets that come after -/
theorem rk_aft : ∀ (m v : Nat) (l : List Nat), asc_ v (v + m) l → rk m v l + aft (v + m) l + 1 = cho m l.length
  | 0, v, [], _ => rfl
  | 0, v, s :: l, h => by obtain ⟨h1, h2, _⟩ := h; omega
  | m + 1, v, [], _ => by rw [List.length_nil, cho_one]; rfl
  | m + 1, v, s :: l, h => by
    obtain ⟨h1, h2, h3⟩ := h
    have e0 : cho (m + 1) (s :: l).length = cho m l.length + cho m (l.length + 1) := rfl
    rw [e0]
    by_cases hs : s = v
    · subst hs
      have ih := rk_aft m (s + 1) l (by rw [show s + 1 + m = s + (m + 1) by omega]; exact h3)
      have e : rk (m + 1) s (s :: l) = rk m (s + 1) l := by show (if s = s then _ else _) = _; rw [if_pos rfl]
      have e2 : aft (s + (m + 1)) (s :: l) = cho m (l.length + 1) + aft (s + 1 + m) l := by
        show cho (s + (m + 1) - 1 - s) (l.length + 1) + aft (s + (m + 1)) l = _
        rw [show s + (m + 1) - 1 - s = m by omega, show s + (m + 1) = s + 1 + m by omega]
      rw [e, e2]
      omega
    · have ih := rk_aft m (v + 1) (s :: l) ⟨by omega, by omega, by rw [show v + 1 + m = v + (m + 1) by omega]; exact h3⟩
      have e : rk (m + 1) v (s :: l) = cho m l.length + rk m (v + 1) (s :: l) := by show (if s = v then _ else _) = _; rw [if_neg hs]
      have ih2 : rk m (v + 1) (s :: l) + aft (v + 1 + m) (s :: l) + 1 = cho m (l.length + 1) := ih
      rw [e, show v + (m + 1) = v + 1 + m by omega]
      omega
/-- the sum of the numbers of sets with a number from v to s - 1 at the next place: the reference's steps -/
def gap (n j : Nat) (v : Nat) : Nat → Nat
  | 0 => 0
  | c + 1 => gap n j v c + cho (n - (v + c) - 1) j
theorem gap_cho (n j v : Nat) : ∀ c, v + c ≤ n → gap n j v c + cho (n - (v + c)) (j + 1) = cho (n - v) (j + 1)
  | 0, _ => by simp [gap]
  | c + 1, h => by
    have ih := gap_cho n j v c (by omega)
    have e : n - (v + c) = (n - (v + (c + 1))) + 1 := by omega
    have e1 : cho (n - (v + c)) (j + 1) = cho (n - (v + (c + 1))) j + cho (n - (v + (c + 1))) (j + 1) := by rw [e]; rfl
    show gap n j v c + cho (n - (v + c) - 1) j + cho (n - (v + (c + 1))) (j + 1) = _
    rw [show n - (v + c) - 1 = n - (v + (c + 1)) by omega]
    omega
/-- the reference's rank -/
def rkr (n : Nat) : Nat → List Nat → Nat
  | _, [] => 0
  | v, s :: l => gap n l.length v (s - v) + rkr n (s + 1) l
theorem rkr_aft : ∀ (l : List Nat) (n v : Nat), v ≤ n → asc_ v n l → rkr n v l + aft n l + 1 = cho (n - v) l.length
  | [], n, v, _, _ => by rw [List.length_nil, cho_one]; rfl
  | s :: l, n, v, hv, h => by
    obtain ⟨h1, h2, h3⟩ := h
    have ih := rkr_aft l n (s + 1) (by omega) h3
    have g := gap_cho n l.length v (s - v) (by omega)
    rw [show v + (s - v) = s by omega] at g
    have e : n - s = (n - (s + 1)) + 1 := by omega
    have e1 : cho (n - s) (l.length + 1) = cho (n - (s + 1)) l.length + cho (n - (s + 1)) (l.length + 1) := by rw [e]; rfl
    show gap n l.length v (s - v) + rkr n (s + 1) l + (cho (n - 1 - s) (l.length + 1) + aft n l) + 1 = cho (n - v) (l.length + 1)
    rw [show n - 1 - s = n - (s + 1) by omega]
    omega
/-- both ranks are one -/
theorem rkr_rk {l : List Nat} {n : Nat} (h : asc_ 0 n l) : rkr n 0 l = rk n 0 l := by
  have h1 := rkr_aft l n 0 (Nat.zero_le _) h
  have h2 := rk_aft n 0 l (by rw [Nat.zero_add]; exact h)
  rw [Nat.zero_add] at h2
  rw [Nat.sub_zero] at h1
  omega
end Go.Proofs.YtjmiaodjapclbaaDoor
