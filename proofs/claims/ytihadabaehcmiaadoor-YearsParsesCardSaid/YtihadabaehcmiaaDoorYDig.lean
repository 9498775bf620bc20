/- The reference's digits. -/
import Derived.Test.YtihadabaehcmiaaDoorYTxtM
import Derived.Test.YtihadabaehcmiaaDoorYAwake
namespace Go.Proofs.YtihadabaehcmiaaDoor
open Go Go.RowKit Go.Lib

def digF5 : Nat → Nat → List UInt8 → Nat × List UInt8
  | 0, acc, l => (acc, l)
  | _ + 1, acc, [] => (acc, [])
  | f + 1, acc, c :: r => if 48 ≤ c.toNat ∧ c.toNat ≤ 57 then digF5 f (10 * acc + (c.toNat - 48)) r else (acc, c :: r)
/-- digits read away are the number -/
theorem digF5_app : ∀ (l : List UInt8) (f acc : Nat) (m : List UInt8), DigL l → l.length ≤ f → (∀ c r, m = c :: r → ¬(48 ≤ c.toNat ∧ c.toNat ≤ 57)) → digF5 f acc (l ++ m) = (l.foldl (fun a c => 10 * a + (c.toNat - 48)) acc, m)
  | [], f, acc, m, _, _, hm => by
    rcases f with _ | f
    · rfl
    · rcases m with _ | ⟨c, r⟩
      · rfl
      · simp only [List.nil_append, digF5, List.foldl_nil]
        rw [if_neg (hm c r rfl)]
  | c :: r, f, acc, m, hd, hl, hm => by
    rcases f with _ | f
    · simp at hl
    · have hc := hd c List.mem_cons_self
      simp only [List.cons_append, digF5, List.foldl_cons]
      rw [if_pos hc]
      exact digF5_app r f _ m (fun x hx => hd x (List.mem_cons_of_mem _ hx)) (by simp at hl; omega) hm
theorem fold_dec : ∀ (f u : Nat), u < f → (Lib.decDigits u).foldl (fun a c => 10 * a + (c.toNat - 48)) 0 = u
  | 0, u, h => by omega
  | f + 1, u, h => by
    rw [Lib.decDigits]
    split
    · rename_i h10
      simp only [List.foldl_cons, List.foldl_nil]
      rw [ofNat_dig h10]
      omega
    · rename_i h10
      rw [List.foldl_append, fold_dec f (u / 10) (by omega)]
      simp only [List.foldl_cons, List.foldl_nil]
      rw [ofNat_dig (by omega)]
      omega
theorem dec_len5 (u : Nat) (h : u ≤ 10000) : (Lib.decDigits u).length ≤ 5 := by
  rcases Nat.lt_or_ge u 10000 with h1 | h1
  · have := dec_len4 4 u (by omega)
    omega
  · obtain rfl : u = 10000 := by omega
    rw [Lib.decDigits, dif_neg (by decide), Lib.decDigits, dif_neg (by decide), Lib.decDigits, dif_neg (by decide), Lib.decDigits, dif_neg (by decide), Lib.decDigits, dif_pos (by decide)]
    decide
/-- a number in front of what is no digit -/
theorem dig_num (n : Int) (h1 : -9999 ≤ n) (h2 : n ≤ 9999) (m : List UInt8) (hm : ∀ c r, m = c :: r → ¬(48 ≤ c.toNat ∧ c.toNat ≤ 57)) : digF5 5 0 (numL n ++ m) = ((if 0 < n then n else 1 - n).toNat, m) := by
  have hd := (num_dig n).1
  have hl : (numL n).length ≤ 5 := dec_len5 _ (by split <;> omega)
  rw [digF5_app _ 5 0 m hd hl hm]
  unfold numL
  rw [fold_dec _ _ (Nat.lt_succ_self _)]
/-- the reference's two numbers and what stands between them -/
def numA (l : List UInt8) : Nat := (digF5 5 0 l).1
def restL (l : List UInt8) : List UInt8 := if (digF5 5 0 l).2.take 3 = bcL ∨ (digF5 5 0 l).2.take 3 = adL then (digF5 5 0 l).2.drop 3 else (digF5 5 0 l).2
def numB (l : List UInt8) : Nat := if (restL l).head? = some 45 then (digF5 5 0 (restL l).tail).1 else numA l
theorem era_head (n : Int) (m : List UInt8) : ∀ c r, eraL n ++ m = c :: r → ¬(48 ≤ c.toNat ∧ c.toNat ≤ 57) := by
  intro c r h
  unfold eraL at h
  split at h <;> (injection h with h1 h2; subst h1; decide)
theorem hy_head (m : List UInt8) : ∀ c r, (45 :: m : List UInt8) = c :: r → ¬(48 ≤ c.toNat ∧ c.toNat ≤ 57) := by
  intro c r h
  injection h with h1 h2
  subst h1
  decide
theorem era_take (n : Int) (m : List UInt8) : ((eraL n ++ m).take 3 = bcL ∨ (eraL n ++ m).take 3 = adL) ∧ (eraL n ++ m).drop 3 = m := by
  unfold eraL
  split
  · exact ⟨Or.inr rfl, rfl⟩
  · exact ⟨Or.inl rfl, rfl⟩
theorem dig_name (n : Int) (h1 : -9999 ≤ n) (h2 : n ≤ 9999) : (digF5 5 0 (nameL n)).1 = (if 0 < n then n else 1 - n).toNat := by
  have := dig_num n h1 h2 (eraL n ++ []) (era_head n [])
  rw [List.append_nil] at this
  unfold nameL
  rw [this]
theorem num_or (n : Int) : n = ((if 0 < n then n else 1 - n).toNat : Int) ∨ n = 1 - ((if 0 < n then n else 1 - n).toNat : Int) := by
  split <;> omega
/-- the years whose text it is are among the four that the reference tries -/
theorem cand_text (x y : Int) (h : yB x y = true) : (x = (numA (textL x y) : Int) ∨ x = 1 - (numA (textL x y) : Int)) ∧ (y = (numB (textL x y) : Int) ∨ y = 1 - (numB (textL x y) : Int)) := by
  obtain ⟨h1, h2, h3⟩ := yB_true.1 h
  by_cases hab : x = y
  · subst hab
    have e : textL x x = numL x ++ (eraL x ++ []) := by unfold textL; rw [if_pos rfl, List.append_nil]; rfl
    have hd := dig_num x h1 h3 (eraL x ++ []) (era_head x [])
    have ha : numA (textL x x) = (if 0 < x then x else 1 - x).toNat := by unfold numA; rw [e, hd]
    have hr : restL (textL x x) = [] := by unfold restL; rw [e, hd]; rw [if_pos (era_take x []).1, (era_take x []).2]
    have hb : numB (textL x x) = numA (textL x x) := by unfold numB; rw [hr, if_neg (by simp)]
    rw [hb, ha]
    exact ⟨num_or x, num_or x⟩
  · by_cases hs : 0 < x ∨ y ≤ 0
    · have e : textL x y = numL x ++ (45 :: nameL y) := by unfold textL; rw [if_neg hab, if_pos hs]
      have hd := dig_num x h1 (by omega) (45 :: nameL y) (hy_head _)
      have ha : numA (textL x y) = (if 0 < x then x else 1 - x).toNat := by unfold numA; rw [e, hd]
      have hr : restL (textL x y) = 45 :: nameL y := by
        unfold restL
        rw [e, hd, if_neg]
        rintro (h | h)
        · simp [bcL] at h
        · simp [adL] at h
      have hb : numB (textL x y) = (if 0 < y then y else 1 - y).toNat := by
        unfold numB
        rw [hr]
        simp only [List.head?_cons, if_true, List.tail_cons]
        exact dig_name y (by omega) h3
      rw [hb, ha]
      exact ⟨num_or x, num_or y⟩
    · have e : textL x y = numL x ++ (eraL x ++ (45 :: nameL y)) := by unfold textL; rw [if_neg hab, if_neg hs]; unfold nameL; rw [List.append_assoc]
      have hd := dig_num x h1 (by omega) (eraL x ++ (45 :: nameL y)) (era_head x _)
      have ha : numA (textL x y) = (if 0 < x then x else 1 - x).toNat := by unfold numA; rw [e, hd]
      have hr : restL (textL x y) = 45 :: nameL y := by unfold restL; rw [e, hd]; rw [if_pos (era_take x _).1, (era_take x _).2]
      have hb : numB (textL x y) = (if 0 < y then y else 1 - y).toNat := by
        unfold numB
        rw [hr]
        simp only [List.head?_cons, if_true, List.tail_cons]
        exact dig_name y (by omega) h3
      rw [hb, ha]
      exact ⟨num_or x, num_or y⟩
/-- at most one range has the text -/
theorem txt_one {x y x' y' : Int} {s : ByteArray} (h : yB x y = true) (h' : yB x' y' = true) (e : txt x y = s) (e' : txt x' y' = s) : x = x' ∧ y = y' := by
  have p := parse_text x y h
  have p' := parse_text x' y' h'
  have t : txt x y = strB (textL x y) := by unfold txt; rw [if_pos h]
  have t' : txt x' y' = strB (textL x' y') := by unfold txt; rw [if_pos h']
  have hl : textL x y = textL x' y' := by
    have := congrArg (fun b : ByteArray => b.data.toList) (t.symm.trans (e.trans (e'.symm.trans t')))
    simpa only [data_strB] using this
  rw [hl, p'] at p
  injection p with p
  injection p with p1 p2
  exact ⟨p1.symm, p2.symm⟩
end Go.Proofs.YtihadabaehcmiaaDoor
