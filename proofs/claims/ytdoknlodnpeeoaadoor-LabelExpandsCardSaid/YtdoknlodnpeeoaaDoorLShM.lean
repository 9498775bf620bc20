/- The runs of consecutive numbers, whole and with a hole. -/
import Derived.Test.YtdoknlodnpeeoaaDoorLRRM
namespace Go.Proofs.YtdoknlodnpeeoaaDoor
open Go Go.RowKit Go.Lib

theorem ints5_app (a b : List Nat) : ints5 (a ++ b) = ints5 a ++ ints5 b := List.map_append
theorem ints5_cons (x : Nat) (l : List Nat) : ints5 (x :: l) = (x : Int) :: ints5 l := rfl
theorem ints5_len (l : List Nat) : (ints5 l).length = l.length := List.length_map _
theorem consL_upto : ∀ (m a : Nat) (r : List Int), (∀ y s, r = y :: s → y ≠ ((a + m + 1 : Nat) : Int)) → consL (a : Int) (ints5 (uptoL (a + 1) m) ++ r) = m
  | 0, a, r, h => by
    have : ints5 (uptoL (a + 1) 0) = [] := rfl
    rw [this, List.nil_append]
    rcases r with _ | ⟨y, s⟩
    · rfl
    · unfold consL
      rw [if_neg]
      have := h y s rfl
      omega
  | m + 1, a, r, h => by
    rw [uptoL_cons, ints5_cons, List.cons_append]
    unfold consL
    rw [if_pos (by omega), consL_upto m (a + 1) r fun y s e => by
      have := h y s e
      omega]
theorem setB_upto : ∀ (m a : Nat) (y : Int) (r : List Int), y ≤ (a : Int) → a + m + 1 ≤ 1000 → setB 1000 y (ints5 (uptoL a (m + 1)) ++ r) = setB 1000 ((a + m + 1 : Nat) : Int) r
  | 0, a, y, r, h, h2 => by
    show setB 1000 y ((a : Int) :: r) = _
    conv => lhs; unfold setB
    rw [if_neg (by omega), if_neg (by omega)]
    rfl
  | m + 1, a, y, r, h, h2 => by
    rw [uptoL_cons, ints5_cons, List.cons_append]
    conv => lhs; unfold setB
    rw [if_neg (by omega), if_neg (by omega), show (a : Int) + 1 = ((a + 1 : Nat) : Int) by omega, setB_upto m (a + 1) _ r (Int.le_refl _) (by omega)]
    congr 1
    omega
theorem runsG_group (f m a : Nat) (r : List Int) (h : ∀ y s, r = y :: s → y ≠ ((a + m + 1 : Nat) : Int)) : runsG (f + 1) (ints5 (uptoL a (m + 1)) ++ r) = strB (groupL a (a + m)) :: runsG f r := by
  have hl : (ints5 (uptoL (a + 1) m)).length = m := by rw [ints5_len, uptoL_len]
  rw [uptoL_cons, ints5_cons, List.cons_append]
  conv => lhs; unfold runsG
  rw [consL_upto m a r h, Int.toNat_natCast]
  congr 2
  exact List.drop_left' hl
theorem allT (a m : Nat) : runsT (ints5 (uptoL a (m + 1))) = strB (groupL a (a + m)) := by
  have hl : (ints5 (uptoL a (m + 1))).length = m + 1 := by rw [ints5_len, uptoL_len]
  have h := runsG_group m m a [] (fun y s e => by cases e)
  rw [List.append_nil, runsG_nil] at h
  unfold runsT
  rw [hl, h]
  show strB (Lib.join ([strB (groupL a (a + m))].map (·.data.toList)) [44, 32]) = _
  rw [List.map_cons, List.map_nil, Lib.join_one, data_strB]
theorem partT (a j p : Nat) : runsT (ints5 (uptoL a (j + 1) ++ uptoL (a + j + 2) (p + 1))) = strB (groupL a (a + j) ++ 44 :: 32 :: groupL (a + j + 2) (a + j + 2 + p)) := by
  have hl : (ints5 (uptoL a (j + 1) ++ uptoL (a + j + 2) (p + 1))).length = (j + p + 1) + 1 := by rw [ints5_len, List.length_append, uptoL_len, uptoL_len]; omega
  have h1 := runsG_group (j + p + 1) j a (ints5 (uptoL (a + j + 2) (p + 1))) (fun y s e => by
    rw [uptoL_cons, ints5_cons] at e
    injection e with e _
    omega)
  have h2 := runsG_group (j + p) p (a + j + 2) [] (fun y s e => by cases e)
  rw [List.append_nil, runsG_nil] at h2
  rw [h2] at h1
  unfold runsT
  rw [hl, ints5_app, h1]
  show strB (Lib.join ([strB (groupL a (a + j)), strB (groupL (a + j + 2) (a + j + 2 + p))].map (·.data.toList)) [44, 32]) = _
  rw [List.map_cons, List.map_cons, List.map_nil, Lib.join_cons, joinTail_cons5, data_strB, data_strB]
  have : Lib.joinTail [44, 32] [] = [] := rfl
  rw [this, List.append_nil]
theorem allB (a m : Nat) (h1 : 1 ≤ a) (h : a + m + 1 ≤ 1000) : setB 1000 1 (ints5 (uptoL a (m + 1))) = true := by
  have := setB_upto m a 1 [] (by omega) h
  rw [List.append_nil] at this
  rw [this]; rfl
theorem partB (a j p : Nat) (h1 : 1 ≤ a) (h : a + j + 2 + p + 1 ≤ 1000) : setB 1000 1 (ints5 (uptoL a (j + 1) ++ uptoL (a + j + 2) (p + 1))) = true := by
  rw [ints5_app, setB_upto j a 1 _ (by omega) (by omega)]
  have := setB_upto p (a + j + 2) ((a + j + 1 : Nat) : Int) [] (by omega) h
  rw [List.append_nil] at this
  rw [this]; rfl
/-- how many commas -/
def cnt44 : List UInt8 → Nat
  | [] => 0
  | c :: l => (if c.toNat = 44 then 1 else 0) + cnt44 l
theorem cnt_cons (c : UInt8) (l : List UInt8) : cnt44 (c :: l) = (if c.toNat = 44 then 1 else 0) + cnt44 l := rfl
theorem cnt_app : ∀ (l m : List UInt8), cnt44 (l ++ m) = cnt44 l + cnt44 m
  | [], m => by rw [List.nil_append]; exact (Nat.zero_add _).symm
  | c :: l, m => by
    rw [List.cons_append, cnt_cons, cnt_cons, cnt_app l m]; omega
theorem cnt_no : ∀ (l : List UInt8), (∀ c ∈ l, c ≠ 44) → cnt44 l = 0
  | [], _ => rfl
  | c :: l, h => by
    have h1 := h c List.mem_cons_self
    have h2 : ¬c.toNat = 44 := fun e => h1 (UInt8.toNat_inj.1 (by show c.toNat = 44; exact e))
    rw [cnt_cons, cnt_no l fun x hx => h x (List.mem_cons_of_mem _ hx), if_neg h2]
theorem cnt_part (a b c d : Nat) : cnt44 (groupL a b ++ 44 :: 32 :: groupL c d) = 1 := by
  rw [cnt_app, cnt_no _ (groupL_no44 a b)]
  rw [cnt_cons, cnt_cons, cnt_no _ (groupL_no44 c d)]
  rfl
/-- the part without the number k behind a -/
def partU (a k i : Nat) : List Nat := if i ≤ k then uptoL a i else uptoL a k ++ uptoL (a + k + 1) (i - k - 1)
theorem partU_le {a k i : Nat} : (partU a k i).length ≤ i := by
  unfold partU
  split
  · rw [uptoL_len]; omega
  · rw [List.length_append, uptoL_len, uptoL_len]; omega
theorem partU_ne {a k i : Nat} (h : i ≠ k) : partU a k (i + 1) = partU a k i ++ [a + i] := by
  unfold partU
  by_cases h1 : i ≤ k
  · rw [if_pos (by omega), if_pos h1]; rfl
  · rw [if_neg (by omega), if_neg h1, List.append_assoc, show i + 1 - k - 1 = (i - k - 1) + 1 by omega]
    congr 1
    show uptoL (a + k + 1) (i - k - 1) ++ [a + k + 1 + (i - k - 1)] = _
    rw [show a + k + 1 + (i - k - 1) = a + i by omega]
theorem partU_eq {a k : Nat} : partU a k (k + 1) = partU a k k := by
  unfold partU
  rw [if_neg (by omega), if_pos (Nat.le_refl _), show k + 1 - k - 1 = 0 by omega]
  exact List.append_nil _
end Go.Proofs.YtdoknlodnpeeoaaDoor
