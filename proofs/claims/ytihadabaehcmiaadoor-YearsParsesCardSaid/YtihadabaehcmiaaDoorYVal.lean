/- Validity of years: the program's and the reference's. -/
import Derived.Test.YtihadabaehcmiaaDoorYA
import Derived.Test.YtihadabaehcmiaaDoorChecked
import Derived.Deep.QuietTactic
import Derived.BigQuiet
import Derived.Outline
namespace Go.Proofs.YtihadabaehcmiaaDoor
open Go Go.RowKit

/-- years are valid -/
def yB (a b : Int) : Bool := decide (-9999 ≤ a ∧ a ≤ b ∧ b ≤ 9999)
theorem yB_true {a b : Int} : yB a b = true ↔ -9999 ≤ a ∧ a ≤ b ∧ b ≤ 9999 := by unfold yB; exact decide_eq_true_iff
theorem yB_false {a b : Int} : yB a b = false ↔ ¬(-9999 ≤ a ∧ a ≤ b ∧ b ≤ 9999) := by unfold yB; exact decide_eq_false_iff_not
theorem yB_one {v : Bool} {a b : Int} (hv : yB a b = v) : (v = true ∧ -9999 ≤ a ∧ a ≤ b ∧ b ≤ 9999) ∨ (v = false ∧ ¬(-9999 ≤ a ∧ a ≤ b ∧ b ≤ 9999)) := by
  cases v with
  | true => exact Or.inl ⟨rfl, yB_true.1 hv⟩
  | false => exact Or.inr ⟨rfl, yB_false.1 hv⟩

set_option maxHeartbeats 1000000 in
theorem valid_any (a b : Int) (w : World) (v : Bool) (hv : yB a b = v) :
    Calls Tryd.prog 17 #[.agg #[.int .i64 a, .int .i64 b]] w fun e w' => e = .returned (.bool v) ∧ Below w.heap.size w w' := by
  rcases yB_one hv with ⟨rfl, h1, h2, h3⟩ | ⟨rfl, h⟩
  · clear hv
    go_enter Tryd.func17, Tryd.ntmps17
    go_wp2
    go_ret
    exact ⟨rfl, (Below.refl _ _).alloc (Nat.le_refl _) _⟩
  · clear hv
    by_cases h1 : -9999 ≤ a
    · by_cases h2 : a ≤ b
      · have h3 : decide (b ≤ 9999) = false := decide_eq_false (by omega)
        clear h
        go_enter Tryd.func17, Tryd.ntmps17
        go_wp2
        go_ret
        exact ⟨rfl, (Below.refl _ _).alloc (Nat.le_refl _) _⟩
      · have h2 : decide (a ≤ b) = false := decide_eq_false (by omega)
        clear h
        go_enter Tryd.func17, Tryd.ntmps17
        go_wp2
        go_ret
        exact ⟨rfl, (Below.refl _ _).alloc (Nat.le_refl _) _⟩
    · have h1 : decide (-9999 ≤ a) = false := decide_eq_false (by omega)
      clear h
      go_enter Tryd.func17, Tryd.ntmps17
      go_wp2
      go_ret
      exact ⟨rfl, (Below.refl _ _).alloc (Nat.le_refl _) _⟩

set_option maxHeartbeats 1000000 in
theorem size_any (n : Int) (w : World) (v : Bool) (hv : decide (-9999 ≤ n ∧ n ≤ 9999) = v) :
    Calls Tryd.prog 49 #[.int .i64 n, .int .i64 9999] w fun e w' => e = .returned (.bool v) ∧ w = w' := by
  by_cases h1 : -9999 ≤ n
  · by_cases h2 : n ≤ 9999
    · obtain rfl : v = true := by rw [← hv]; simp [h1, h2]
      clear hv
      go_enter Tryd.func49, Tryd.ntmps49
      go_wp2
      go_ret
      exact ⟨rfl, rfl⟩
    · obtain rfl : v = false := by rw [← hv]; simp [h2]
      have h2 : decide (n ≤ 9999) = false := decide_eq_false (by omega)
      clear hv
      go_enter Tryd.func49, Tryd.ntmps49
      go_wp2
      go_ret
      exact ⟨rfl, rfl⟩
  · obtain rfl : v = false := by rw [← hv]; simp [h1]
    have h1 : decide (-9999 ≤ n) = false := decide_eq_false (by omega)
    clear hv
    go_enter Tryd.func49, Tryd.ntmps49
    go_wp2
    go_ret
    exact ⟨rfl, rfl⟩

set_option maxHeartbeats 1000000 in
theorem byears_any (a b : Int) (w : World) (v : Bool) (hv : yB a b = v) :
    Calls Tryd.prog 32 #[.agg #[.int .i64 a, .int .i64 b]] w fun e w' => e = .returned (.bool v) ∧ Below w.heap.size w w' := by
  rcases yB_one hv with ⟨rfl, h1, h2, h3⟩ | ⟨rfl, h⟩
  · clear hv
    go_enter Tryd.func32, Tryd.ntmps32
    go_wp2_with (go_at_call 49; refine (size_any _ _ true (by simp; omega)).mono ?_; rintro e w' ⟨rfl, rfl⟩)
    go_ret
    exact ⟨rfl, (Below.refl _ _).alloc (Nat.le_refl _) _⟩
  · clear hv
    by_cases h2 : a ≤ b
    · by_cases h1 : -9999 ≤ a
      · by_cases h4 : a ≤ 9999
        · have h3 : 9999 < b := by omega
          clear h
          go_enter Tryd.func32, Tryd.ntmps32
          go_wp2_with fail
          refine (size_any _ _ true (by simp; omega)).mono ?_; rintro e w' ⟨rfl, rfl⟩
          go_wp2_with fail
          refine (size_any _ _ false (by simp; omega)).mono ?_; rintro e w' ⟨rfl, rfl⟩
          go_wp2
          go_ret
          exact ⟨rfl, (Below.refl _ _).alloc (Nat.le_refl _) _⟩
        · clear h
          go_enter Tryd.func32, Tryd.ntmps32
          go_wp2_with fail
          refine (size_any _ _ false (by simp; omega)).mono ?_; rintro e w' ⟨rfl, rfl⟩
          go_wp2
          go_ret
          exact ⟨rfl, (Below.refl _ _).alloc (Nat.le_refl _) _⟩
      · clear h
        go_enter Tryd.func32, Tryd.ntmps32
        go_wp2_with fail
        refine (size_any _ _ false (by simp; omega)).mono ?_; rintro e w' ⟨rfl, rfl⟩
        go_wp2
        go_ret
        exact ⟨rfl, (Below.refl _ _).alloc (Nat.le_refl _) _⟩
    · have h2 : decide (a ≤ b) = false := decide_eq_false (by omega)
      clear h
      go_enter Tryd.func32, Tryd.ntmps32
      go_wp2
      go_ret
      exact ⟨rfl, (Below.refl _ _).alloc (Nat.le_refl _) _⟩

set_option maxHeartbeats 1000000 in
theorem rvalid_any (a b : Int) (w : World) (v : Bool) (hv : yB a b = v) :
    Calls Tryd.prog 18 #[.agg #[.int .i64 a, .int .i64 b]] w fun e w' => e = .returned (.bool v) ∧ Below w.heap.size w w' := by
  have HV := hide hv
  clear hv
  go_enter Tryd.func18, Tryd.ntmps18
  go_wp2_with fail
  refine (byears_any a b _ v HV.out).mono ?_
  rintro e w1 ⟨rfl, hb⟩
  go_wp2
  go_ret
  exact ⟨rfl, ((Below.refl _ _).alloc (Nat.le_refl _) _).trans (hb.mono (by simp))⟩

set_option maxHeartbeats 1000000 in
theorem length_any (a b : Int) (w : World) (v : Bool) (hv : yB a b = v) :
    Calls Tryd.prog 19 #[.agg #[.int .i64 a, .int .i64 b]] w fun e w' => e = .returned (.int .i64 (if v then b - a + 1 else 0)) ∧ Below w.heap.size w w' := by
  have HV := hide hv
  rcases yB_one hv with ⟨rfl, h1, h2, h3⟩ | ⟨rfl, h⟩
  · clear hv
    go_enter Tryd.func19, Tryd.ntmps19
    go_wp2_with fail
    refine (valid_any a b _ true HV.out).mono ?_
    rintro e w1 ⟨rfl, hb⟩
    obtain ⟨hc, hf⟩ := bcell hb
    go_wp2
    go_ret
    exact ⟨rfl, ((Below.refl _ _).alloc (Nat.le_refl _) _).trans (hb.mono (by simp))⟩
  · clear hv h
    go_enter Tryd.func19, Tryd.ntmps19
    go_wp2_with fail
    refine (valid_any a b _ false HV.out).mono ?_
    rintro e w1 ⟨rfl, hb⟩
    go_wp2
    go_ret
    exact ⟨rfl, ((Below.refl _ _).alloc (Nat.le_refl _) _).trans (hb.mono (by simp))⟩
set_option maxHeartbeats 1000000 in
theorem rlength_any (a b : Int) (w : World) (v : Bool) (hv : yB a b = v) :
    Calls Tryd.prog 20 #[.agg #[.int .i64 a, .int .i64 b]] w fun e w' => e = .returned (.int .i64 (if v then b - a + 1 else 0)) ∧ Below w.heap.size w w' := by
  have HV := hide hv
  rcases yB_one hv with ⟨rfl, h1, h2, h3⟩ | ⟨rfl, h⟩
  · clear hv
    go_enter Tryd.func20, Tryd.ntmps20
    go_wp2_with fail
    refine (rvalid_any a b _ true HV.out).mono ?_
    rintro e w1 ⟨rfl, hb⟩
    obtain ⟨hc, hf⟩ := bcell hb
    go_wp2
    go_ret
    exact ⟨rfl, ((Below.refl _ _).alloc (Nat.le_refl _) _).trans (hb.mono (by simp))⟩
  · clear hv h
    go_enter Tryd.func20, Tryd.ntmps20
    go_wp2_with fail
    refine (rvalid_any a b _ false HV.out).mono ?_
    rintro e w1 ⟨rfl, hb⟩
    go_wp2
    go_ret
    exact ⟨rfl, ((Below.refl _ _).alloc (Nat.le_refl _) _).trans (hb.mono (by simp))⟩
end Go.Proofs.YtihadabaehcmiaaDoor
