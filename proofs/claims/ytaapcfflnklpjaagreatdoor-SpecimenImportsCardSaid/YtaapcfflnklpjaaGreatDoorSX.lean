/- Texts of specimens, the mathematics: their parts. -/
import Derived.Test.YtaapcfflnklpjaaGreatDoorLParM
import Derived.Lib.SplitLaws
import Derived.Lib.Replace
import Derived.Lib.IndexBytes
namespace Go.Proofs.YtaapcfflnklpjaaGreatDoor
open Go Go.RowKit Go.Lib

/-- the index of the first space -/
theorem ix_at (c : UInt8) : ∀ (a r : List UInt8), (∀ x ∈ a, x ≠ c) → Lib.index (a ++ c :: r) [c] = (a.length : Int)
  | [], r, _ => by rw [Lib.index_one]; simp [Lib.indexByte]
  | b :: a, r, h => by
    have h1 : b ≠ c := h b List.mem_cons_self
    have h2 := ix_at c a r fun x hx => h x (List.mem_cons_of_mem _ hx)
    rw [Lib.index_one] at h2 ⊢
    rw [List.cons_append, Lib.indexByte, if_neg (by simpa using h1), h2, if_neg (by simp)]
    simp
theorem splitK_at (c : UInt8) (k : Nat) (a r : List UInt8) (h : ∀ x ∈ a, x ≠ c) : Lib.splitK [c] 0 (k + 1) (a ++ c :: r) = a :: Lib.splitK [c] 0 k r := by
  conv => lhs; unfold Lib.splitK
  rw [ix_at c a r h, if_neg (by simp)]
  simp
theorem split4 (a b c d : List UInt8) (ha : ∀ x ∈ a, x ≠ 32) (hb : ∀ x ∈ b, x ≠ 32) (hc : ∀ x ∈ c, x ≠ 32) : Lib.splitK [32] 0 3 (a ++ 32 :: (b ++ 32 :: (c ++ 32 :: d))) = [a, b, c, d] := by
  rw [splitK_at 32 2 a _ ha, splitK_at 32 1 b _ hb, splitK_at 32 0 c _ hc]
  rfl
/-- what is left when the first point is gone -/
theorem repl_at (q f : List UInt8) (h : ∀ x ∈ q, x ≠ 46) : Lib.replace (q ++ 46 :: f) [46] [] 1 = q ++ f := by
  unfold Lib.replace
  rw [if_neg (by decide)]
  have hn : Lib.replaceNum (q ++ 46 :: f) [46] 1 = 1 := by
    unfold Lib.replaceNum
    rw [count_one, if_neg]
    · rfl
    · rintro (h | h)
      · cases h
      · simp at h
        omega
  rw [hn]
  unfold Lib.replaceK
  rw [ix_at 46 q f h, if_neg (by simp)]
  simp [Lib.replaceK]
theorem trim_at (d : List UInt8) (c : UInt8) : Lib.trimSuffix (d ++ [c]) [c] = d := by
  unfold Lib.trimSuffix Lib.hasSuffix
  rw [if_pos (by rw [List.isSuffixOf_iff_suffix]; exact ⟨d, rfl⟩)]
  simp
/-- three digits -/
def d3 (k : Nat) : List UInt8 := [UInt8.ofNat (48 + k / 100), UInt8.ofNat (48 + k / 10 % 10), UInt8.ofNat (48 + k % 10)]
theorem dec_more {u : Nat} (h : 10 ≤ u) : Lib.decDigits u = Lib.decDigits (u / 10) ++ [UInt8.ofNat (48 + u % 10)] := by
  rw [Lib.decDigits, dif_neg (by omega)]
theorem dec_less {u : Nat} (h : u < 10) : Lib.decDigits u = [UInt8.ofNat (48 + u)] := by
  rw [Lib.decDigits, dif_pos h]
theorem dec_big {u : Nat} (h : 1000 ≤ u) : Lib.decDigits u = Lib.decDigits (u / 1000) ++ d3 (u % 1000) := by
  rw [dec_more (u := u) (by omega), dec_more (u := u / 10) (by omega), dec_more (u := u / 10 / 10) (by omega)]
  unfold d3
  rw [show u / 10 / 10 / 10 = u / 1000 by omega, show u / 10 / 10 % 10 = u % 1000 / 100 by omega, show u / 10 % 10 = u % 1000 / 10 % 10 by omega, show u % 10 = u % 1000 % 10 by omega]
  simp
theorem dec_thou {k : Nat} (h : k < 1000) : Lib.decDigits (1000 + k) = 49 :: d3 k := by
  rw [dec_big (by omega), show (1000 + k) / 1000 = 1 by omega, show (1000 + k) % 1000 = k by omega, dec_less (by omega)]
  rfl
/-- grams -/
def gramL (m : Nat) : List UInt8 := Lib.decDigits (m / 1000) ++ 46 :: d3 (m % 1000)
/-- padded to four digits -/
theorem dec_pad4 (m : Nat) : List.replicate (4 - (Lib.decDigits m).length) 48 ++ Lib.decDigits m = Lib.decDigits (m / 1000) ++ d3 (m % 1000) := by
  by_cases h : 1000 ≤ m
  · rw [dec_big h]
    have : (Lib.decDigits (m / 1000)).length ≠ 0 := by
      have := dec_ne (m / 1000)
      intro h0
      exact this (List.eq_nil_of_length_eq_zero h0)
    rw [show 4 - (Lib.decDigits (m / 1000) ++ d3 (m % 1000)).length = 0 by rw [List.length_append]; simp [d3]; omega]
    rfl
  · rw [show m / 1000 = 0 by omega, show m % 1000 = m by omega, dec_less (u := 0) (by omega)]
    unfold d3
    by_cases h1 : m < 10
    · rw [dec_less h1, show m / 100 = 0 by omega, show m / 10 = 0 by omega, show m % 10 = m by omega]; rfl
    · rw [dec_more (u := m) (by omega)]
      by_cases h2 : m < 100
      · rw [dec_less (u := m / 10) (by omega), show m / 100 = 0 by omega, show m / 10 % 10 = m / 10 by omega]; rfl
      · rw [dec_more (u := m / 10) (by omega), dec_less (u := m / 10 / 10) (by omega), show m / 10 / 10 = m / 100 by omega]; rfl
theorem d3_dig {k : Nat} (h : k < 1000) : DigL (d3 k) := by
  intro c hc
  simp only [d3, List.mem_cons, List.not_mem_nil, or_false] at hc
  rcases hc with rfl | rfl | rfl <;> rw [ofNat_dig (by omega)] <;> omega
theorem d3_parse {q k : Nat} {l : List UInt8} (hl : parseUint10 0 l = .ok q) (hq : q < 1000) (hk : k < 1000) : parseUint10 0 (l ++ d3 k) = .ok (q * 1000 + k) := by
  have h1 := parse_app l 0 q _ (k / 100) hl (by omega) (ofNat_dig (by omega)) (by omega)
  have h2 := parse_app _ 0 _ _ (k / 10 % 10) h1 (by omega) (ofNat_dig (by omega)) (by omega)
  have h3 := parse_app _ 0 _ _ (k % 10) h2 (by omega) (ofNat_dig (by omega)) (by omega)
  have e : l ++ d3 k = l ++ [UInt8.ofNat (48 + k / 100)] ++ [UInt8.ofNat (48 + k / 10 % 10)] ++ [UInt8.ofNat (48 + k % 10)] := by simp [d3]
  rw [e, h3]
  congr 1
  omega
theorem end_dig {l : List UInt8} {u : Nat} (hd : DigL l) (hne : l ≠ []) (hp : parseUint10 0 l = .ok u) (hu : u < 1000000) : endL l = some (u : Int) := by
  rw [endL_some]
  rcases hl : l with _ | ⟨c, r⟩
  · exact absurd hl hne
  · rw [hl] at hd hp
    have hc := hd c List.mem_cons_self
    unfold Lib.atoiAll
    have h43 : ¬(c.toNat = 43 ∨ c.toNat = 45) := by omega
    have h45 : ¬(c.toNat = 45) := by omega
    simp only [if_neg h43, if_neg h45, Lib.parseMag]
    rw [if_neg (by simp), hp]
    simp only []
    rw [if_neg (by omega), if_neg (by omega)]
theorem DigL.app {a b : List UInt8} (ha : DigL a) (hb : DigL b) : DigL (a ++ b) := fun c hc => (List.mem_append.1 hc).elim (ha c) (hb c)
theorem DigL.no {a : List UInt8} (ha : DigL a) {c : UInt8} (hc : c.toNat < 48) : ∀ x ∈ a, x ≠ c := fun x hx e => by
  have := ha x hx
  subst e
  omega
theorem gram_plain {m : Nat} (h : m ≤ 200000) : Lib.replace (gramL m) [46] [] 1 = Lib.decDigits (m / 1000) ++ d3 (m % 1000) ∧ endL (Lib.decDigits (m / 1000) ++ d3 (m % 1000)) = some (m : Int) ∧ parseUint10 0 (Lib.decDigits (m / 1000) ++ d3 (m % 1000)) = .ok m := by
  have hk : m % 1000 < 1000 := Nat.mod_lt _ (by decide)
  have hp := d3_parse (parse_dec _ (m / 1000) (Nat.lt_succ_self _) (by omega)) (show m / 1000 < 1000 by omega) hk
  rw [show m / 1000 * 1000 + m % 1000 = m by omega] at hp
  refine ⟨repl_at _ _ ((dec_digs _).no (by decide)), end_dig ((dec_digs _).app (d3_dig hk)) (by simp [d3]) hp (by omega), hp⟩
/-- the hour on a clock -/
def hourN (x : Int) : Nat := if x = 0 then 12 else x.toNat
/-- the text, whose pairing is p -/
def spP (p : List UInt8) (i h m : Int) : List UInt8 := Lib.decDigits i.toNat ++ 32 :: (p ++ 32 :: ((Lib.decDigits (hourN h) ++ [104]) ++ 32 :: gramL m.toNat))
theorem hour_no32 (n : Nat) : ∀ x ∈ Lib.decDigits n ++ [104], x ≠ 32 := by
  intro x hx
  rcases List.mem_append.1 hx with h | h
  · exact (dec_digs n).no (by decide) x h
  · simp at h; subst h; decide
theorem split_text {p : List UInt8} (hp : ∀ x ∈ p, x ≠ 32) (i h m : Int) : Lib.splitK [32] 0 3 (spP p i h m) = [Lib.decDigits i.toNat, p, Lib.decDigits (hourN h) ++ [104], gramL m.toNat] :=
  split4 _ _ _ _ ((dec_digs _).no (by decide)) hp (hour_no32 _)
/-- the parts, read -/
theorem read_text {i h m : Int} (hi : 1 ≤ i ∧ i ≤ 9999) (hh : 0 ≤ h ∧ h ≤ 11) (hm : 1 ≤ m ∧ m ≤ 200000) :
    endL (Lib.decDigits i.toNat) = some i ∧ endL (Lib.trimSuffix (Lib.decDigits (hourN h) ++ [104]) [104]) = some (hourN h : Int) ∧ (hourN h : Int).tmod 12 = h ∧ endL (Lib.replace (gramL m.toNat) [46] [] 1) = some m := by
  refine ⟨?_, ?_, ?_, ?_⟩
  · rw [end_dec _ (by omega), Int.toNat_of_nonneg (by omega)]
  · rw [trim_at, end_dec _ (by unfold hourN; split <;> omega)]
  · unfold hourN
    split
    · rename_i h0; subst h0; rfl
    · rw [Int.toNat_of_nonneg hh.1, Int.tmod_eq_of_lt hh.1 (by omega)]
  · obtain ⟨h1, h2, _⟩ := gram_plain (m := m.toNat) (by omega)
    rw [h1, h2, Int.toNat_of_nonneg (by omega)]
/-- the reference's number: at most f digits more, what is no digit is passed over -/
def numS : Nat → Nat → List UInt8 → Nat
  | 0, n, _ => n
  | _ + 1, n, [] => n
  | f + 1, n, c :: l => if 48 ≤ c.toNat ∧ c.toNat ≤ 57 then numS f (10 * n + (c.toNat - 48)) l else numS (f + 1) n l
theorem numS_dig : ∀ (d : List UInt8) (f acc v : Nat) (e : List UInt8), DigL d → d.length ≤ f → parseUint10 acc d = .ok v → numS f acc (d ++ e) = numS (f - d.length) v e
  | [], f, acc, v, e, _, _, h => by
    simp only [parseUint10] at h
    injection h with h
    subst h
    rfl
  | c :: d, 0, acc, v, e, _, hl, _ => by simp at hl
  | c :: d, f + 1, acc, v, e, hd, hl, h => by
    have hc := hd c List.mem_cons_self
    simp only [parseUint10] at h
    rw [if_pos hc] at h
    split at h
    · cases h
    · split at h
      · cases h
      · rw [List.cons_append]
        conv => lhs; unfold numS
        rw [if_pos hc, Nat.mul_comm]
        rw [numS_dig d f _ v e (fun x hx => hd x (List.mem_cons_of_mem _ hx)) (by simpa using hl) h]
        simp
theorem numS_zero (n : Nat) (l : List UInt8) : numS 0 n l = n := by cases l <;> rfl
theorem numS_skip (f n : Nat) (c : UInt8) (l : List UInt8) (h : ¬(48 ≤ c.toNat ∧ c.toNat ≤ 57)) : numS f n (c :: l) = numS f n l := by
  cases f with
  | zero => rw [numS_zero, numS_zero]
  | succ f =>
    conv => lhs; unfold numS
    rw [if_neg h]
theorem numS_nil (f n : Nat) : numS f n [] = n := by cases f <;> rfl
theorem dec_short {u : Nat} (h : u < 10000) : (Lib.decDigits u).length ≤ 4 := by
  by_cases h1 : u < 10
  · rw [dec_less h1]; simp
  · rw [dec_more (by omega)]
    by_cases h2 : u / 10 < 10
    · rw [dec_less h2]; simp
    · rw [dec_more (u := u / 10) (by omega)]
      by_cases h3 : u / 10 / 10 < 10
      · rw [dec_less h3]; simp
      · rw [dec_more (u := u / 10 / 10) (by omega), dec_less (by omega)]; simp
theorem dec_short3 {u : Nat} (h : u < 1000) : (Lib.decDigits u).length ≤ 3 := by
  by_cases h1 : u < 10
  · rw [dec_less h1]; simp
  · rw [dec_more (by omega)]
    by_cases h2 : u / 10 < 10
    · rw [dec_less h2]; simp
    · rw [dec_more (u := u / 10) (by omega), dec_less (by omega)]; simp
theorem numS_dec {u : Nat} (h : u < 10000) (e : List UInt8) : numS 7 0 (Lib.decDigits u ++ e) = numS (7 - (Lib.decDigits u).length) u e :=
  numS_dig _ _ _ _ _ (dec_digs u) (by have := dec_short h; omega) (parse_dec _ u (Nat.lt_succ_self _) (by omega))
theorem num_text {i h m : Int} (hi : 1 ≤ i ∧ i ≤ 9999) (hh : 0 ≤ h ∧ h ≤ 11) (hm : 1 ≤ m ∧ m ≤ 200000) :
    (numS 7 0 (Lib.decDigits i.toNat) : Int) = i ∧ ((numS 7 0 (Lib.decDigits (hourN h) ++ [104]) : Nat) : Int).tmod 12 = h ∧ (numS 7 0 (gramL m.toNat) : Int) = m := by
  refine ⟨?_, ?_, ?_⟩
  · have := numS_dec (u := i.toNat) (by omega) []
    rw [List.append_nil, numS_nil] at this
    rw [this, Int.toNat_of_nonneg (by omega)]
  · rw [numS_dec (by unfold hourN; split <;> omega), numS_skip _ _ _ _ (by decide), numS_nil]
    exact (read_text hi hh hm).2.2.1
  · unfold gramL
    have hk : m.toNat % 1000 < 1000 := Nat.mod_lt _ (by decide)
    have hs := dec_short3 (u := m.toNat / 1000) (by omega)
    have h1 := (gram_plain (m := m.toNat) (by omega)).2.2
    have h2 := numS_dig _ 7 0 _ [] ((dec_digs (m.toNat / 1000)).app (d3_dig hk)) (by rw [List.length_append]; simp [d3]; omega) h1
    rw [List.append_nil, numS_nil] at h2
    have h3 : numS 7 0 (Lib.decDigits (m.toNat / 1000) ++ 46 :: d3 (m.toNat % 1000)) = numS 7 0 (Lib.decDigits (m.toNat / 1000) ++ d3 (m.toNat % 1000)) := by
      rw [numS_dec (by omega), numS_dec (by omega), numS_skip _ _ _ _ (by decide)]
    rw [h3, h2, Int.toNat_of_nonneg (by omega)]
/-- the words between spaces -/
def wordsF : List UInt8 → List UInt8 → List (List UInt8)
  | cur, [] => [cur]
  | cur, c :: l => if c = 32 then cur :: wordsF [] l else wordsF (cur ++ [c]) l
def wordsL (l : List UInt8) : List (List UInt8) := wordsF [] l
theorem wordsF_no : ∀ (a cur : List UInt8), (∀ x ∈ a, x ≠ 32) → wordsF cur a = [cur ++ a]
  | [], cur, _ => by simp [wordsF]
  | c :: a, cur, h => by
    unfold wordsF
    rw [if_neg (h c List.mem_cons_self), wordsF_no a _ fun x hx => h x (List.mem_cons_of_mem _ hx)]
    simp
theorem wordsF_at : ∀ (a cur r : List UInt8), (∀ x ∈ a, x ≠ 32) → wordsF cur (a ++ 32 :: r) = (cur ++ a) :: wordsF [] r
  | [], cur, r, _ => by simp [wordsF]
  | c :: a, cur, r, h => by
    rw [List.cons_append]
    conv => lhs; unfold wordsF
    rw [if_neg (h c List.mem_cons_self), wordsF_at a _ r fun x hx => h x (List.mem_cons_of_mem _ hx)]
    simp
theorem words4 (a b c d : List UInt8) (ha : ∀ x ∈ a, x ≠ 32) (hb : ∀ x ∈ b, x ≠ 32) (hc : ∀ x ∈ c, x ≠ 32) (hd : ∀ x ∈ d, x ≠ 32) : wordsL (a ++ 32 :: (b ++ 32 :: (c ++ 32 :: d))) = [a, b, c, d] := by
  unfold wordsL
  rw [wordsF_at a [] _ ha, wordsF_at b [] _ hb, wordsF_at c [] _ hc, wordsF_no d [] hd]
  rfl
theorem gram_no32 {m : Nat} : ∀ x ∈ gramL m, x ≠ 32 := by
  intro x hx
  unfold gramL at hx
  rcases List.mem_append.1 hx with h | h
  · exact (dec_digs _).no (by decide) x h
  · rcases List.mem_cons.1 h with h | h
    · subst h; decide
    · exact (d3_dig (Nat.mod_lt _ (by decide))).no (by decide) x h
theorem words_text {p : List UInt8} (hp : ∀ x ∈ p, x ≠ 32) (i h m : Int) : wordsL (spP p i h m) = [Lib.decDigits i.toNat, p, Lib.decDigits (hourN h) ++ [104], gramL m.toNat] :=
  words4 _ _ _ _ ((dec_digs _).no (by decide)) hp (hour_no32 _) gram_no32
end Go.Proofs.YtaapcfflnklpjaaGreatDoor
