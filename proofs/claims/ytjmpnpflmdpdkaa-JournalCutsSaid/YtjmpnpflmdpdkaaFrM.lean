/- Mathematics of frames: checksums, big-endian digits, and what is read from them. -/
namespace Go.Proofs.Ytjmpnpflmdpdkaa
namespace FM

/-- all are bytes -/
def By (xs : List Nat) : Prop := ∀ x ∈ xs, x < 256
theorem By.nil : By [] := fun x h => by cases h
theorem By.app {a b : List Nat} (ha : By a) (hb : By b) : By (a ++ b) := fun x h => (List.mem_append.1 h).elim (ha x) (hb x)
theorem By.cons {x : Nat} {b : List Nat} (hx : x < 256) (hb : By b) : By (x :: b) := fun y h => (List.mem_cons.1 h).elim (fun e => e ▸ hx) (hb y)
theorem By.take {a : List Nat} (ha : By a) (n : Nat) : By (a.take n) := fun x h => ha x (List.mem_of_mem_take h)
theorem By.drop {a : List Nat} (ha : By a) (n : Nat) : By (a.drop n) := fun x h => ha x (List.mem_of_mem_drop h)
theorem By.get {a : List Nat} (ha : By a) {j x : Nat} (h : a[j]? = some x) : x < 256 := ha x (List.mem_of_getElem? h)

theorem snocInd {P : List Nat → Prop} (h0 : P []) (hs : ∀ l x, P l → P (l ++ [x])) (l : List Nat) : P l := by
  have key : ∀ m : List Nat, P m.reverse := by
    intro m
    induction m with
    | nil => exact h0
    | cons x m ih => rw [List.reverse_cons]; exact hs _ _ ih
  have := key l.reverse
  rwa [List.reverse_reverse] at this
/-- the two halves of the checksum -/
def st (p : Nat × Nat) (x : Nat) : Nat × Nat := ((p.1 + x) % 65521, (p.2 + (p.1 + x) % 65521) % 65521)
def ad (xs : List Nat) : Nat × Nat := xs.foldl st (1, 0)
def adler (xs : List Nat) : Nat := (ad xs).2 * 65536 + (ad xs).1
theorem ad_nil : ad [] = (1, 0) := rfl
theorem ad_snoc (xs : List Nat) (x : Nat) : ad (xs ++ [x]) = st (ad xs) x := by simp [ad]
theorem ad_app (xs ys : List Nat) : ad (xs ++ ys) = ys.foldl st (ad xs) := by simp [ad]
theorem ad_lt (xs : List Nat) : (ad xs).1 < 65521 ∧ (ad xs).2 < 65521 := by
  refine snocInd (P := fun xs => (ad xs).1 < 65521 ∧ (ad xs).2 < 65521) ⟨by decide, by decide⟩ (fun l x _ => ?_) xs
  show (ad (l ++ [x])).1 < 65521 ∧ (ad (l ++ [x])).2 < 65521
  rw [ad_snoc]; exact ⟨Nat.mod_lt _ (by omega), Nat.mod_lt _ (by omega)⟩
theorem adler_lt (xs : List Nat) : adler xs < 4294967296 := by have := ad_lt xs; unfold adler; omega
theorem adler_inj1 {xs ys : List Nat} (h : adler xs = adler ys) : (ad xs).1 = (ad ys).1 := by
  have h1 := ad_lt xs; have h2 := ad_lt ys; unfold adler at h; omega
theorem take_snoc {xs : List Nat} {k x : Nat} (h : xs[k]? = some x) : xs.take (k + 1) = xs.take k ++ [x] := by
  rw [List.take_add_one, h]; rfl
/-- the low half is the sum -/
theorem fold1 (ys : List Nat) : ∀ p : Nat × Nat, p.1 < 65521 → (ys.foldl st p).1 = (p.1 + ys.sum) % 65521 := by
  induction ys with
  | nil => intro p h; simp; omega
  | cons y ys ih =>
    intro p h
    rw [List.foldl_cons, ih _ (Nat.mod_lt _ (by omega)), List.sum_cons]
    unfold st
    simp only
    omega
theorem ad1 (xs : List Nat) : (ad xs).1 = (1 + xs.sum) % 65521 := fold1 xs (1, 0) (by omega)

/-- the last n bytes of a number, the highest first -/
def big (v : Nat) : Nat → List Nat
  | 0 => []
  | n + 1 => big (v / 256) n ++ [v % 256]
theorem big_len (n : Nat) : ∀ v, (big v n).length = n := by
  induction n with
  | zero => intro v; rfl
  | succ n ih => intro v; simp [big, ih]
theorem big_by (n : Nat) : ∀ v, By (big v n) := by
  induction n with
  | zero => intro v; exact By.nil
  | succ n ih => intro v; exact (ih _).app (By.cons (Nat.mod_lt _ (by omega)) By.nil)
theorem big_get (n : Nat) : ∀ v i, i < n → (big v n)[i]? = some (v / 256 ^ (n - 1 - i) % 256) := by
  induction n with
  | zero => intro v i h; omega
  | succ n ih =>
    intro v i h
    unfold big
    rcases Nat.lt_or_ge i n with h1 | h1
    · rw [List.getElem?_append_left (by rw [big_len]; exact h1), ih _ _ h1]
      have e : n + 1 - 1 - i = (n - 1 - i) + 1 := by omega
      rw [e, Nat.pow_succ, Nat.mul_comm, Nat.div_div_eq_div_mul]
    · have e : i = n := by omega
      subst e
      rw [List.getElem?_append_right (by rw [big_len]; omega), big_len]
      simp
/-- the number of which bytes are given -/
def num (xs : List Nat) : Nat := xs.foldl (fun n x => n * 256 + x) 0
theorem num_nil : num [] = 0 := rfl
theorem num_snoc (xs : List Nat) (x : Nat) : num (xs ++ [x]) = num xs * 256 + x := by simp [num]
theorem num_lt {xs : List Nat} : By xs → num xs < 256 ^ xs.length := by
  refine snocInd (P := fun xs => By xs → num xs < 256 ^ xs.length) (fun _ => by simp [num]) (fun l x ih h => ?_) xs
  have h1 := ih (fun y hy => h y (by simp [hy]))
  have h2 := h x (by simp)
  rw [num_snoc, List.length_append, List.length_singleton, Nat.pow_succ]
  omega
theorem num_big (n : Nat) : ∀ v, num (big v n) = v % 256 ^ n := by
  induction n with
  | zero => intro v; simp [big, num, Nat.mod_one]
  | succ n ih =>
    intro v
    rw [big, num_snoc, ih, Nat.pow_succ, Nat.mul_comm (256 ^ n) 256, Nat.mod_mul]
    omega
theorem num_big_lt {v n : Nat} (h : v < 256 ^ n) : num (big v n) = v := by rw [num_big, Nat.mod_eq_of_lt h]
theorem big_num {xs : List Nat} : By xs → big (num xs) xs.length = xs := by
  refine snocInd (P := fun xs => By xs → big (num xs) xs.length = xs) (fun _ => rfl) (fun l x ih h => ?_) xs
  have h1 := ih (fun y hy => h y (by simp [hy]))
  have h2 := h x (by simp)
  rw [num_snoc, List.length_append, List.length_singleton, big]
  have e1 : (num l * 256 + x) / 256 = num l := by omega
  have e2 : (num l * 256 + x) % 256 = x := by omega
  rw [e1, e2, h1]
theorem num_inj {xs ys : List Nat} (hx : By xs) (hy : By ys) (hl : xs.length = ys.length) (h : num xs = num ys) : xs = ys := by
  rw [← big_num hx, ← big_num hy, h, hl]

/-- what stands before the checksum of a frame -/
def body (kind : Nat) (data : List Nat) : List Nat := 209 :: kind :: (big data.length 3 ++ data)
def frame (kind : Nat) (data : List Nat) : List Nat := body kind data ++ big (adler (body kind data)) 4
theorem body_len (kind : Nat) (data : List Nat) : (body kind data).length = data.length + 5 := by simp [body, big_len]; omega
theorem frame_len (kind : Nat) (data : List Nat) : (frame kind data).length = data.length + 9 := by simp [frame, body_len, big_len]
theorem body_by {kind : Nat} {data : List Nat} (hk : kind < 256) (hd : By data) : By (body kind data) := By.cons (by omega) (By.cons hk ((big_by 3 _).app hd))
theorem frame_by {kind : Nat} {data : List Nat} (hk : kind < 256) (hd : By data) : By (frame kind data) := (body_by hk hd).app (big_by 4 _)

/-- the length that a frame names -/
def len3 (b : List Nat) : Nat := num ((b.drop 2).take 3)
def sum4 (b : List Nat) (n : Nat) : Nat := num ((b.drop (n + 5)).take 4)
/-- the error of Open -/
def opE (b : List Nat) : Nat :=
  if b.length = 0 then 4 else if b.getD 0 0 ≠ 209 then 3 else if b.length < 5 then 4 else if 8192 < len3 b then 6
  else if b.length < len3 b + 9 then 4 else if sum4 b (len3 b) ≠ adler (b.take (len3 b + 5)) then 5 else 0
def opK (b : List Nat) : Nat := b.getD 1 0
def opD (b : List Nat) : List Nat := (b.take (len3 b + 5)).drop 5
def opR (b : List Nat) : List Nat := b.drop (len3 b + 9)

theorem len3_lt {b : List Nat} (h : By b) : len3 b < 16777216 := by
  have h1 := num_lt ((h.drop 2).take 3)
  have h2 : ((b.drop 2).take 3).length ≤ 3 := by simp; omega
  have h3 : 256 ^ ((b.drop 2).take 3).length ≤ 256 ^ 3 := Nat.pow_le_pow_right (by omega) h2
  unfold len3
  omega
theorem len3_frame {kind : Nat} {data rest : List Nat} (h : data.length < 16777216) : len3 (frame kind data ++ rest) = data.length := by
  have e : (frame kind data ++ rest).drop 2 = big data.length 3 ++ (data ++ big (adler (body kind data)) 4 ++ rest) := by
    simp [frame, body, List.append_assoc]
  unfold len3
  rw [e, List.take_left' (big_len 3 _), num_big_lt (by omega)]
theorem take_frame (kind : Nat) (data rest : List Nat) : (frame kind data ++ rest).take (data.length + 5) = body kind data := by
  unfold frame
  rw [List.append_assoc, List.take_left' (body_len _ _)]
theorem drop5_body (kind : Nat) (data : List Nat) : (body kind data).drop 5 = data := by
  have e : body kind data = ([209, kind] ++ big data.length 3) ++ data := by simp [body]
  rw [e, List.drop_left' (by simp [big_len])]
theorem sum4_frame (kind : Nat) (data rest : List Nat) : sum4 (frame kind data ++ rest) data.length = adler (body kind data) := by
  unfold sum4 frame
  rw [List.append_assoc, List.drop_left' (body_len _ _), List.take_left' (big_len 4 _), num_big_lt (by have := adler_lt (body kind data); omega)]
theorem open_frame {kind : Nat} {data : List Nat} (rest : List Nat) (hd : data.length ≤ 8192) :
    opE (frame kind data ++ rest) = 0 ∧ opK (frame kind data ++ rest) = kind ∧ opD (frame kind data ++ rest) = data ∧ opR (frame kind data ++ rest) = rest := by
  have h3 := len3_frame (kind := kind) (data := data) (rest := rest) (by omega)
  have hl : (frame kind data ++ rest).length = data.length + 9 + rest.length := by rw [List.length_append, frame_len]
  have h0 : (frame kind data ++ rest).getD 0 0 = 209 := by simp [frame, body]
  refine ⟨?_, by simp [opK, frame, body], ?_, ?_⟩
  · unfold opE
    rw [h3, hl, h0, take_frame, sum4_frame]
    rw [if_neg (by omega), if_neg (by simp), if_neg (by omega), if_neg (by omega), if_neg (by omega), if_neg (by simp)]
  · unfold opD; rw [h3, take_frame, drop5_body]
  · unfold opR; rw [h3, List.drop_left' (frame_len _ _)]
theorem opE_zero {b : List Nat} (h : opE b = 0) : b.getD 0 0 = 209 ∧ len3 b ≤ 8192 ∧ len3 b + 9 ≤ b.length ∧ sum4 b (len3 b) = adler (b.take (len3 b + 5)) := by
  unfold opE at h
  split at h; · cases h
  split at h; · cases h
  split at h; · cases h
  split at h; · cases h
  split at h; · cases h
  split at h; · cases h
  refine ⟨by omega, by omega, by omega, by omega⟩
theorem frame_open {b : List Nat} (hb : By b) (h : opE b = 0) : (opD b).length ≤ 8192 ∧ frame (opK b) (opD b) ++ opR b = b := by
  obtain ⟨h1, h2, h3, h4⟩ := opE_zero h
  have hl : (opD b).length = len3 b := by unfold opD; rw [List.length_drop, List.length_take]; omega
  refine ⟨by omega, ?_⟩
  have hbody : body (opK b) (opD b) = b.take (len3 b + 5) := by
    have e3 : big (len3 b) 3 = (b.drop 2).take 3 := by
      have := big_num ((hb.drop 2).take 3)
      have e : ((b.drop 2).take 3).length = 3 := by simp; omega
      rw [e] at this
      exact this
    unfold body
    rw [hl, e3]
    match b, h3 with
    | b0 :: b1 :: r, h3 =>
      simp at h1
      subst h1
      unfold opK opD
      have e : len3 (209 :: b1 :: r) + 5 = (len3 (209 :: b1 :: r) + 3) + 1 + 1 := by omega
      rw [e]
      generalize len3 (209 :: b1 :: r) = n at *
      simp only [List.take_succ_cons, List.drop_succ_cons, List.drop_zero]
      have e2 : r.take (n + 3) = r.take 3 ++ (r.take (n + 3)).drop 3 := by
        have := List.take_append_drop 3 (r.take (n + 3))
        rw [List.take_take, Nat.min_eq_left (by omega)] at this
        exact this.symm
      simp only [List.getD_cons_succ, List.getD_cons_zero]
      rw [← e2]
    | [], h3 => simp at h3
    | [x], h3 => simp at h3
  have hsum : big (adler (b.take (len3 b + 5))) 4 = (b.drop (len3 b + 5)).take 4 := by
    rw [← h4]
    unfold sum4
    have := big_num ((hb.drop (len3 b + 5)).take 4)
    have e : ((b.drop (len3 b + 5)).take 4).length = 4 := by simp; omega
    rw [e] at this
    exact this
  unfold frame
  rw [hbody, hsum]
  unfold opR
  have e4 : b.drop (len3 b + 9) = (b.drop (len3 b + 5)).drop 4 := by rw [List.drop_drop]
  rw [e4, List.append_assoc, List.take_append_drop, List.take_append_drop]
/-- a torn frame -/
theorem torn {kind : Nat} {data : List Nat} (hd : data.length ≤ 8192) {k : Nat} (hk : k < data.length + 9) : opE ((frame kind data).take k) = 4 := by
  have hl : ((frame kind data).take k).length = k := by rw [List.length_take, frame_len]; omega
  unfold opE
  rw [hl]
  by_cases h0 : k = 0
  · rw [if_pos h0]
  rw [if_neg h0]
  have g0 : ((frame kind data).take k).getD 0 0 = 209 := by
    match k, h0 with
    | k + 1, _ => simp [frame, body]
  rw [g0, if_neg (by simp)]
  by_cases h5 : k < 5
  · rw [if_pos h5]
  rw [if_neg h5]
  have h3 : len3 ((frame kind data).take k) = data.length := by
    have e : (((frame kind data).take k).drop 2).take 3 = ((frame kind data).drop 2).take 3 := by
      rw [List.drop_take, List.take_take, Nat.min_eq_left (by omega)]
    unfold len3
    rw [e]
    have := len3_frame (kind := kind) (data := data) (rest := []) (by omega)
    rw [List.append_nil] at this
    exact this
  rw [h3, if_neg (by omega), if_pos hk]
theorem sum_set (l : List Nat) : ∀ (i x y : Nat), l[i]? = some x → (l.set i y).sum + x = l.sum + y := by
  induction l with
  | nil => intro i x y h; simp at h
  | cons a l ih =>
    intro i x y h
    rcases i with _ | i
    · simp at h; subst h; simp; omega
    · have := ih i x y (by simpa using h)
      simp
      omega
/-- a changed frame -/
theorem changed {kind : Nat} {data : List Nat} (hk : kind < 256) (hb : By data) (hd : data.length ≤ 8192) {i x y : Nat} (hx : (frame kind data)[i]? = some x) (hy : y < 256) (hne : y ≠ x) (hi : i < 2 ∨ 5 ≤ i) :
    opE ((frame kind data).set i y) = if i = 0 then 3 else 5 := by
  have hl : ((frame kind data).set i y).length = data.length + 9 := by rw [List.length_set, frame_len]
  have hil : i < data.length + 9 := by rw [← frame_len kind data]; exact (List.getElem?_eq_some_iff.1 hx).1
  have hxb : x < 256 := (frame_by hk hb).get hx
  by_cases h0 : i = 0
  · subst h0
    have e : x = 209 := by simp [frame, body] at hx; exact hx.symm
    subst e
    rw [if_pos rfl]
    unfold opE
    rw [hl, if_neg (by omega), if_pos (by simp [frame, body]; exact hne)]
  · rw [if_neg h0]
    have g0 : ((frame kind data).set i y).getD 0 0 = 209 := by
      match i, h0 with
      | i + 1, _ => simp [frame, body]
    have h3 : len3 ((frame kind data).set i y) = data.length := by
      have e : (((frame kind data).set i y).drop 2).take 3 = ((frame kind data).drop 2).take 3 := by
        apply List.ext_getElem?
        intro j
        rw [List.getElem?_take, List.getElem?_take]
        split
        · rw [List.getElem?_drop, List.getElem?_drop, List.getElem?_set_ne (by omega)]
        · rfl
      unfold len3
      rw [e]
      have := len3_frame (kind := kind) (data := data) (rest := []) (by omega)
      rw [List.append_nil] at this
      exact this
    have ht : (frame kind data).take (data.length + 5) = body kind data := by
      have := take_frame kind data []
      rwa [List.append_nil] at this
    have hs4 : sum4 (frame kind data) data.length = adler (body kind data) := by
      have := sum4_frame kind data []
      rwa [List.append_nil] at this
    unfold opE
    rw [hl, h3, g0, if_neg (by omega), if_neg (by simp), if_neg (by omega), if_neg (by omega), if_neg (by omega), if_pos]
    intro hc
    rcases Nat.lt_or_ge i (data.length + 5) with hlt | hge
    · have e1 : sum4 ((frame kind data).set i y) data.length = sum4 (frame kind data) data.length := by
        unfold sum4
        rw [List.drop_set_of_lt hlt]
      rw [e1, hs4, List.take_set, ht] at hc
      have h5 := adler_inj1 hc
      rw [ad1, ad1] at h5
      have hbx : (body kind data)[i]? = some x := by
        rw [← ht, List.getElem?_take_of_lt hlt]; exact hx
      have h6 := sum_set _ i x y hbx
      omega
    · have e1 : ((frame kind data).set i y).take (data.length + 5) = body kind data := by
        rw [List.take_set_of_le hge, ht]
      rw [e1, ← hs4] at hc
      unfold sum4 at hc
      have hfb := frame_by hk hb
      have hset : By ((frame kind data).set i y) := by
        intro z hz
        rcases List.mem_or_eq_of_mem_set hz with h | h
        · exact hfb z h
        · omega
      have e2 := num_inj ((hset.drop _).take 4) ((hfb.drop _).take 4) (by simp) hc
      have e3 := congrArg (fun l : List Nat => l[i - (data.length + 5)]?) e2
      rw [List.getElem?_take_of_lt (by omega), List.getElem?_take_of_lt (by omega), List.getElem?_drop, List.getElem?_drop] at e3
      have e4 : data.length + 5 + (i - (data.length + 5)) = i := by omega
      rw [e4, hx, List.getElem?_set_self (by rw [frame_len]; omega)] at e3
      injection e3 with e3
      exact hne e3

/-- the error of dataEnd, and where the data end -/
def deE (b : List Nat) : Nat :=
  if b.length = 0 then 4 else if b.getD 0 0 ≠ 209 then 3 else if b.length < 5 then 4 else if 8192 < len3 b then 6
  else if b.length < len3 b + 9 then 4 else 0
def deN (b : List Nat) : Nat := if deE b = 0 then len3 b + 5 else 0
theorem opE_de (b : List Nat) : opE b = if deE b ≠ 0 then deE b else if sum4 b (len3 b) ≠ adler (b.take (len3 b + 5)) then 5 else 0 := by
  unfold opE deE
  by_cases h1 : b.length = 0
  · simp [h1]
  by_cases h2 : b.getD 0 0 ≠ 209
  · rw [if_neg h1, if_pos h2, if_neg h1, if_pos h2]; simp
  by_cases h3 : b.length < 5
  · rw [if_neg h1, if_neg h2, if_pos h3, if_neg h1, if_neg h2, if_pos h3]; simp
  by_cases h4 : 8192 < len3 b
  · rw [if_neg h1, if_neg h2, if_neg h3, if_pos h4, if_neg h1, if_neg h2, if_neg h3, if_pos h4]; simp
  by_cases h5 : b.length < len3 b + 9
  · rw [if_neg h1, if_neg h2, if_neg h3, if_neg h4, if_pos h5, if_neg h1, if_neg h2, if_neg h3, if_neg h4, if_pos h5]; simp
  · rw [if_neg h1, if_neg h2, if_neg h3, if_neg h4, if_neg h5, if_neg h1, if_neg h2, if_neg h3, if_neg h4, if_neg h5]; simp
theorem de1 {b : List Nat} (h1 : b.length = 0) : deE b = 4 := by unfold deE; rw [if_pos h1]
theorem de2 {b : List Nat} (h1 : ¬ b.length = 0) (h2 : b.getD 0 0 ≠ 209) : deE b = 3 := by unfold deE; rw [if_neg h1, if_pos h2]
theorem de3 {b : List Nat} (h1 : ¬ b.length = 0) (h2 : b.getD 0 0 = 209) (h3 : b.length < 5) : deE b = 4 := by unfold deE; rw [if_neg h1, if_neg (fun h => h h2), if_pos h3]
theorem de4 {b : List Nat} (h2 : b.getD 0 0 = 209) (h3 : ¬ b.length < 5) (h4 : 8192 < len3 b) : deE b = 6 := by unfold deE; rw [if_neg (by omega), if_neg (fun h => h h2), if_neg h3, if_pos h4]
theorem de5 {b : List Nat} (h2 : b.getD 0 0 = 209) (h3 : ¬ b.length < 5) (h4 : ¬ 8192 < len3 b) (h5 : b.length < len3 b + 9) : deE b = 4 := by unfold deE; rw [if_neg (by omega), if_neg (fun h => h h2), if_neg h3, if_neg h4, if_pos h5]
theorem de6 {b : List Nat} (h2 : b.getD 0 0 = 209) (h3 : ¬ b.length < 5) (h4 : ¬ 8192 < len3 b) (h5 : ¬ b.length < len3 b + 9) : deE b = 0 := by unfold deE; rw [if_neg (by omega), if_neg (fun h => h h2), if_neg h3, if_neg h4, if_neg h5]
theorem deE_zero {b : List Nat} (h : deE b = 0) : b.getD 0 0 = 209 ∧ len3 b ≤ 8192 ∧ len3 b + 9 ≤ b.length := by
  unfold deE at h
  split at h; · cases h
  split at h; · cases h
  split at h; · cases h
  split at h; · cases h
  split at h; · cases h
  refine ⟨by omega, by omega, by omega⟩

/-- what ReadInt returns -/
def riE (b : List Nat) : Nat := if b.length < 8 then 4 else 0
def riN (b : List Nat) : Nat := if b.length < 8 then 0 else num (b.take 8)
def riR (b : List Nat) : List Nat := b.drop 8
theorem riN_lt {b : List Nat} (h : By b) : riN b < 18446744073709551616 := by
  unfold riN
  split
  · omega
  · have h1 := num_lt (h.take 8)
    have h2 : (b.take 8).length ≤ 8 := by simp; omega
    have h3 : 256 ^ (b.take 8).length ≤ 256 ^ 8 := Nat.pow_le_pow_right (by omega) h2
    omega
theorem read_int {v : Nat} (rest : List Nat) (hv : v < 18446744073709551616) : riE (big v 8 ++ rest) = 0 ∧ riN (big v 8 ++ rest) = v ∧ riR (big v 8 ++ rest) = rest := by
  have hl : (big v 8 ++ rest).length = 8 + rest.length := by rw [List.length_append, big_len]
  refine ⟨?_, ?_, ?_⟩
  · unfold riE; rw [hl, if_neg (by omega)]
  · unfold riN; rw [hl, if_neg (by omega), List.take_left' (big_len 8 v), num_big_lt (by omega)]
  · unfold riR; rw [List.drop_left' (big_len 8 v)]

/-- what Open returns -/
def oK (b : List Nat) : Nat := if opE b = 0 then opK b else 0
def oD (b : List Nat) : List Nat := if opE b = 0 then opD b else []
def oR (b : List Nat) : List Nat := if opE b = 0 then opR b else []
theorem opD_by {b : List Nat} (h : By b) : By (opD b) := (h.take _).drop _
theorem opR_by {b : List Nat} (h : By b) : By (opR b) := h.drop _
theorem oD_by {b : List Nat} (h : By b) : By (oD b) := by unfold oD; split; exact opD_by h; exact By.nil
theorem oR_by {b : List Nat} (h : By b) : By (oR b) := by unfold oR; split; exact opR_by h; exact By.nil
theorem oK_lt {b : List Nat} (h : By b) : oK b < 256 := by
  unfold oK opK
  split
  · rcases hb : b[1]? with _ | x
    · simp [List.getD, hb]
    · have := h.get hb
      simp [List.getD, hb]
      exact this
  · omega

/-- the error of ReadBytes -/
def len2 (b : List Nat) : Nat := num (b.take 2)
def rbE (b : List Nat) : Nat := if b.length < 2 then 4 else if 4096 < len2 b then 6 else if b.length < len2 b + 2 then 4 else 0
def rbS (b : List Nat) : List Nat := (b.take (len2 b + 2)).drop 2
def rbR (b : List Nat) : List Nat := b.drop (len2 b + 2)
def str (s : List Nat) : List Nat := big s.length 2 ++ s
theorem str_len (s : List Nat) : (str s).length = s.length + 2 := by simp [str, big_len]; omega
theorem len2_lt {b : List Nat} (h : By b) : len2 b < 65536 := by
  have h1 := num_lt (h.take 2)
  have h2 : (b.take 2).length ≤ 2 := by simp; omega
  have h3 : 256 ^ (b.take 2).length ≤ 256 ^ 2 := Nat.pow_le_pow_right (by omega) h2
  unfold len2
  omega
theorem read_str {s : List Nat} (rest : List Nat) (hs : s.length ≤ 4096) : rbE (str s ++ rest) = 0 ∧ rbS (str s ++ rest) = s ∧ rbR (str s ++ rest) = rest := by
  have h2 : len2 (str s ++ rest) = s.length := by
    unfold len2 str
    rw [List.append_assoc, List.take_left' (big_len 2 _), num_big_lt (by omega)]
  have hl : (str s ++ rest).length = s.length + 2 + rest.length := by rw [List.length_append, str_len]
  refine ⟨?_, ?_, ?_⟩
  · unfold rbE
    rw [h2, hl, if_neg (by omega), if_neg (by omega), if_neg (by omega)]
  · unfold rbS
    rw [h2, List.take_left' (str_len s)]
    unfold str
    rw [List.drop_left' (big_len 2 _)]
  · unfold rbR
    rw [h2, List.drop_left' (str_len s)]
end FM
end Go.Proofs.Ytjmpnpflmdpdkaa
