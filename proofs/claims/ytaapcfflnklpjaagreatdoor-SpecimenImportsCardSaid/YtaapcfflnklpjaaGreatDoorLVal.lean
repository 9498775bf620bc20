/- Validity of labels: the program's and the reference's. -/
import Derived.Test.YtaapcfflnklpjaaGreatDoorYA
import Derived.Test.YtaapcfflnklpjaaGreatDoorChecked
import Derived.Deep.QuietTactic
import Derived.BigQuiet
import Derived.Outline
namespace Go.Proofs.YtaapcfflnklpjaaGreatDoor
open Go Go.RowKit

/-- a label is valid -/
def lB (s n t : Int) : Bool := decide ((s = 0 ∨ s = 1) ∧ (1 ≤ n ∧ n ≤ 999) ∧ 0 ≤ t ∧ t ≤ 9)
theorem lB_true {s n t : Int} : lB s n t = true ↔ (s = 0 ∨ s = 1) ∧ (1 ≤ n ∧ n ≤ 999) ∧ 0 ≤ t ∧ t ≤ 9 := by unfold lB; exact decide_eq_true_iff
theorem lB_false {s n t : Int} : lB s n t = false ↔ ¬((s = 0 ∨ s = 1) ∧ (1 ≤ n ∧ n ≤ 999) ∧ 0 ≤ t ∧ t ≤ 9) := by unfold lB; exact decide_eq_false_iff_not
theorem lB_one {v : Bool} {s n t : Int} (hv : lB s n t = v) : (v = true ∧ (s = 0 ∨ s = 1) ∧ (1 ≤ n ∧ n ≤ 999) ∧ 0 ≤ t ∧ t ≤ 9) ∨ (v = false ∧ ¬((s = 0 ∨ s = 1) ∧ (1 ≤ n ∧ n ≤ 999) ∧ 0 ≤ t ∧ t ≤ 9)) := by
  cases v with
  | true => exact Or.inl ⟨rfl, lB_true.1 hv⟩
  | false => exact Or.inr ⟨rfl, lB_false.1 hv⟩

set_option maxHeartbeats 1000000 in
theorem isnum_any (n : Int) (w : World) (v : Bool) (hv : decide (1 ≤ n ∧ n ≤ 999) = v) :
    Calls Tryz.prog 97 #[.int .i64 n] w fun e w' => e = .returned (.bool v) ∧ w = w' := by
  by_cases h1 : 1 ≤ n
  · by_cases h2 : n ≤ 999
    · obtain rfl : v = true := by rw [← hv]; exact decide_eq_true ⟨h1, h2⟩
      have d1 : decide (1 ≤ n) = true := decide_eq_true h1
      have d2 : decide (n ≤ 999) = true := decide_eq_true h2
      clear hv
      go_enter Tryz.func97, Tryz.ntmps97
      go_wp2
      go_ret
      exact ⟨rfl, rfl⟩
    · obtain rfl : v = false := by rw [← hv]; exact decide_eq_false fun h => h2 h.2
      have d1 : decide (1 ≤ n) = true := decide_eq_true h1
      have d2 : decide (n ≤ 999) = false := decide_eq_false h2
      clear hv
      go_enter Tryz.func97, Tryz.ntmps97
      go_wp2
      go_ret
      exact ⟨rfl, rfl⟩
  · obtain rfl : v = false := by rw [← hv]; exact decide_eq_false fun h => h1 h.1
    have d1 : decide (1 ≤ n) = false := decide_eq_false h1
    clear hv
    go_enter Tryz.func97, Tryz.ntmps97
    go_wp2
    go_ret
    exact ⟨rfl, rfl⟩
set_option maxHeartbeats 1000000 in
theorem in_any (a l h : Int) (w : World) (v : Bool) (hv : decide (l ≤ a ∧ a ≤ h) = v) :
    Calls Tryz.prog 75 #[.int .i64 a, .int .i64 l, .int .i64 h] w fun e w' => e = .returned (.bool v) ∧ w = w' := by
  by_cases h1 : l ≤ a
  · by_cases h2 : a ≤ h
    · obtain rfl : v = true := by rw [← hv]; exact decide_eq_true ⟨h1, h2⟩
      have d1 : decide (l ≤ a) = true := decide_eq_true h1
      have d2 : decide (a ≤ h) = true := decide_eq_true h2
      clear hv
      go_enter Tryz.func75, Tryz.ntmps75
      go_wp2
      go_ret
      exact ⟨rfl, rfl⟩
    · obtain rfl : v = false := by rw [← hv]; exact decide_eq_false fun h => h2 h.2
      have d1 : decide (l ≤ a) = true := decide_eq_true h1
      have d2 : decide (a ≤ h) = false := decide_eq_false h2
      clear hv
      go_enter Tryz.func75, Tryz.ntmps75
      go_wp2
      go_ret
      exact ⟨rfl, rfl⟩
  · obtain rfl : v = false := by rw [← hv]; exact decide_eq_false fun h => h1 h.1
    have d1 : decide (l ≤ a) = false := decide_eq_false h1
    clear hv
    go_enter Tryz.func75, Tryz.ntmps75
    go_wp2
    go_ret
    exact ⟨rfl, rfl⟩
set_option maxHeartbeats 1000000 in
theorem num_any (n : Int) (w : World) (v : Bool) (hv : decide (1 ≤ n ∧ n ≤ 999) = v) :
    Calls Tryz.prog 74 #[.int .i64 n] w fun e w' => e = .returned (.bool v) ∧ w = w' := by
  go_enter Tryz.func74, Tryz.ntmps74
  go_wp2_with fail
  refine (in_any n 1 999 _ v hv).mono ?_
  rintro e w1 ⟨rfl, rfl⟩
  go_wp2
  go_ret
  exact ⟨rfl, rfl⟩
set_option maxHeartbeats 1000000 in
theorem valid_s (s n t : Int) (w : World) (h0 : s ≠ 0) (h1 : s ≠ 1) :
    Calls Tryz.prog 61 #[.agg #[.int .i64 s, .int .i64 n, .int .i64 t]] w fun e w' => e = .returned (.bool false) ∧ Below w.heap.size w w' := by
  have e0 : (s == 0) = false := beq_eq_false_iff_ne.2 h0
  have e1 : (s == 1) = false := beq_eq_false_iff_ne.2 h1
  go_enter Tryz.func61, Tryz.ntmps61
  go_wp2
  go_ret
  exact ⟨rfl, (Below.refl _ _).alloc (Nat.le_refl _) _⟩
set_option maxHeartbeats 1000000 in
theorem valid_n0 (n t : Int) (w : World) (h : ¬(1 ≤ n ∧ n ≤ 999)) :
    Calls Tryz.prog 61 #[.agg #[.int .i64 0, .int .i64 n, .int .i64 t]] w fun e w' => e = .returned (.bool false) ∧ Below w.heap.size w w' := by
  have HN := hide (show decide (1 ≤ n ∧ n ≤ 999) = false from decide_eq_false h)
  clear h
  go_enter Tryz.func61, Tryz.ntmps61
  go_wp2_with fail
  refine (isnum_any n _ false HN.out).mono ?_
  rintro e w1 ⟨rfl, rfl⟩
  go_wp2
  go_ret
  exact ⟨rfl, (Below.refl _ _).alloc (Nat.le_refl _) _⟩
set_option maxHeartbeats 1000000 in
theorem valid_m0 (n t : Int) (w : World) (h : 1 ≤ n ∧ n ≤ 999) (ht : ¬ 0 ≤ t) :
    Calls Tryz.prog 61 #[.agg #[.int .i64 0, .int .i64 n, .int .i64 t]] w fun e w' => e = .returned (.bool false) ∧ Below w.heap.size w w' := by
  have HN := hide (show decide (1 ≤ n ∧ n ≤ 999) = true from decide_eq_true h)
  clear h
  have d1 : decide (0 ≤ t) = false := decide_eq_false ht
  go_enter Tryz.func61, Tryz.ntmps61
  go_wp2_with fail
  refine (isnum_any n _ true HN.out).mono ?_
  rintro e w1 ⟨rfl, rfl⟩
  go_wp2
  go_ret
  exact ⟨rfl, (Below.refl _ _).alloc (Nat.le_refl _) _⟩
set_option maxHeartbeats 1000000 in
theorem valid_b0 (n t : Int) (w : World) (h : 1 ≤ n ∧ n ≤ 999) (h0 : 0 ≤ t) (ht : ¬ t ≤ 9) :
    Calls Tryz.prog 61 #[.agg #[.int .i64 0, .int .i64 n, .int .i64 t]] w fun e w' => e = .returned (.bool false) ∧ Below w.heap.size w w' := by
  have HN := hide (show decide (1 ≤ n ∧ n ≤ 999) = true from decide_eq_true h)
  clear h
  have d1 : decide (0 ≤ t) = true := decide_eq_true h0
  have d2 : decide (t ≤ 9) = false := decide_eq_false ht
  go_enter Tryz.func61, Tryz.ntmps61
  go_wp2_with fail
  refine (isnum_any n _ true HN.out).mono ?_
  rintro e w1 ⟨rfl, rfl⟩
  go_wp2
  go_ret
  exact ⟨rfl, (Below.refl _ _).alloc (Nat.le_refl _) _⟩
set_option maxHeartbeats 1000000 in
theorem valid_y0 (n t : Int) (w : World) (h : 1 ≤ n ∧ n ≤ 999) (h0 : 0 ≤ t) (ht : t ≤ 9) :
    Calls Tryz.prog 61 #[.agg #[.int .i64 0, .int .i64 n, .int .i64 t]] w fun e w' => e = .returned (.bool true) ∧ Below w.heap.size w w' := by
  have HN := hide (show decide (1 ≤ n ∧ n ≤ 999) = true from decide_eq_true h)
  clear h
  have d1 : decide (0 ≤ t) = true := decide_eq_true h0
  have d2 : decide (t ≤ 9) = true := decide_eq_true ht
  go_enter Tryz.func61, Tryz.ntmps61
  go_wp2_with fail
  refine (isnum_any n _ true HN.out).mono ?_
  rintro e w1 ⟨rfl, rfl⟩
  go_wp2
  go_ret
  exact ⟨rfl, (Below.refl _ _).alloc (Nat.le_refl _) _⟩
set_option maxHeartbeats 1000000 in
theorem valid_n1 (n t : Int) (w : World) (h : ¬(1 ≤ n ∧ n ≤ 999)) :
    Calls Tryz.prog 61 #[.agg #[.int .i64 1, .int .i64 n, .int .i64 t]] w fun e w' => e = .returned (.bool false) ∧ Below w.heap.size w w' := by
  have HN := hide (show decide (1 ≤ n ∧ n ≤ 999) = false from decide_eq_false h)
  clear h
  go_enter Tryz.func61, Tryz.ntmps61
  go_wp2_with fail
  refine (isnum_any n _ false HN.out).mono ?_
  rintro e w1 ⟨rfl, rfl⟩
  go_wp2
  go_ret
  exact ⟨rfl, (Below.refl _ _).alloc (Nat.le_refl _) _⟩
set_option maxHeartbeats 1000000 in
theorem valid_m1 (n t : Int) (w : World) (h : 1 ≤ n ∧ n ≤ 999) (ht : ¬ 0 ≤ t) :
    Calls Tryz.prog 61 #[.agg #[.int .i64 1, .int .i64 n, .int .i64 t]] w fun e w' => e = .returned (.bool false) ∧ Below w.heap.size w w' := by
  have HN := hide (show decide (1 ≤ n ∧ n ≤ 999) = true from decide_eq_true h)
  clear h
  have d1 : decide (0 ≤ t) = false := decide_eq_false ht
  go_enter Tryz.func61, Tryz.ntmps61
  go_wp2_with fail
  refine (isnum_any n _ true HN.out).mono ?_
  rintro e w1 ⟨rfl, rfl⟩
  go_wp2
  go_ret
  exact ⟨rfl, (Below.refl _ _).alloc (Nat.le_refl _) _⟩
set_option maxHeartbeats 1000000 in
theorem valid_b1 (n t : Int) (w : World) (h : 1 ≤ n ∧ n ≤ 999) (h0 : 0 ≤ t) (ht : ¬ t ≤ 9) :
    Calls Tryz.prog 61 #[.agg #[.int .i64 1, .int .i64 n, .int .i64 t]] w fun e w' => e = .returned (.bool false) ∧ Below w.heap.size w w' := by
  have HN := hide (show decide (1 ≤ n ∧ n ≤ 999) = true from decide_eq_true h)
  clear h
  have d1 : decide (0 ≤ t) = true := decide_eq_true h0
  have d2 : decide (t ≤ 9) = false := decide_eq_false ht
  go_enter Tryz.func61, Tryz.ntmps61
  go_wp2_with fail
  refine (isnum_any n _ true HN.out).mono ?_
  rintro e w1 ⟨rfl, rfl⟩
  go_wp2
  go_ret
  exact ⟨rfl, (Below.refl _ _).alloc (Nat.le_refl _) _⟩
set_option maxHeartbeats 1000000 in
theorem valid_y1 (n t : Int) (w : World) (h : 1 ≤ n ∧ n ≤ 999) (h0 : 0 ≤ t) (ht : t ≤ 9) :
    Calls Tryz.prog 61 #[.agg #[.int .i64 1, .int .i64 n, .int .i64 t]] w fun e w' => e = .returned (.bool true) ∧ Below w.heap.size w w' := by
  have HN := hide (show decide (1 ≤ n ∧ n ≤ 999) = true from decide_eq_true h)
  clear h
  have d1 : decide (0 ≤ t) = true := decide_eq_true h0
  have d2 : decide (t ≤ 9) = true := decide_eq_true ht
  go_enter Tryz.func61, Tryz.ntmps61
  go_wp2_with fail
  refine (isnum_any n _ true HN.out).mono ?_
  rintro e w1 ⟨rfl, rfl⟩
  go_wp2
  go_ret
  exact ⟨rfl, (Below.refl _ _).alloc (Nat.le_refl _) _⟩
theorem valid_any (s n t : Int) (w : World) (v : Bool) (hv : lB s n t = v) :
    Calls Tryz.prog 61 #[.agg #[.int .i64 s, .int .i64 n, .int .i64 t]] w fun e w' => e = .returned (.bool v) ∧ Below w.heap.size w w' := by
  rcases lB_one hv with ⟨rfl, hs, hn, h0, ht⟩ | ⟨rfl, h⟩
  · rcases hs with rfl | rfl
    · exact valid_y0 n t w hn h0 ht
    · exact valid_y1 n t w hn h0 ht
  · by_cases hs0 : s = 0
    · subst hs0
      by_cases hn : 1 ≤ n ∧ n ≤ 999
      · by_cases h0 : 0 ≤ t
        · exact valid_b0 n t w hn h0 fun ht => h ⟨Or.inl rfl, hn, h0, ht⟩
        · exact valid_m0 n t w hn h0
      · exact valid_n0 n t w hn
    · by_cases hs1 : s = 1
      · subst hs1
        by_cases hn : 1 ≤ n ∧ n ≤ 999
        · by_cases h0 : 0 ≤ t
          · exact valid_b1 n t w hn h0 fun ht => h ⟨Or.inr rfl, hn, h0, ht⟩
          · exact valid_m1 n t w hn h0
        · exact valid_n1 n t w hn
      · exact valid_s s n t w hs0 hs1
set_option maxHeartbeats 1000000 in
theorem blab_s (s n t : Int) (w : World) (hs : ¬(0 ≤ s ∧ s ≤ 1)) :
    Calls Tryz.prog 104 #[.agg #[.int .i64 s, .int .i64 n, .int .i64 t]] w fun e w' => e = .returned (.bool false) ∧ Below w.heap.size w w' := by
  have HS := hide (show decide (0 ≤ s ∧ s ≤ 1) = false from decide_eq_false hs)
  clear hs
  go_enter Tryz.func104, Tryz.ntmps104
  go_wp2_with fail
  refine (in_any s 0 1 _ false HS.out).mono ?_
  rintro e w1 ⟨rfl, rfl⟩
  go_wp2
  go_ret
  exact ⟨rfl, (Below.refl _ _).alloc (Nat.le_refl _) _⟩
set_option maxHeartbeats 1000000 in
theorem blab_n (s n t : Int) (w : World) (hs : 0 ≤ s ∧ s ≤ 1) (h : ¬(1 ≤ n ∧ n ≤ 999)) :
    Calls Tryz.prog 104 #[.agg #[.int .i64 s, .int .i64 n, .int .i64 t]] w fun e w' => e = .returned (.bool false) ∧ Below w.heap.size w w' := by
  have HS := hide (show decide (0 ≤ s ∧ s ≤ 1) = true from decide_eq_true hs)
  clear hs
  have HN := hide (show decide (1 ≤ n ∧ n ≤ 999) = false from decide_eq_false h)
  clear h
  go_enter Tryz.func104, Tryz.ntmps104
  go_wp2_with fail
  refine (in_any s 0 1 _ true HS.out).mono ?_
  rintro e w1 ⟨rfl, rfl⟩
  go_wp2_with fail
  refine (num_any n _ false HN.out).mono ?_
  rintro e w1 ⟨rfl, rfl⟩
  go_wp2
  go_ret
  exact ⟨rfl, (Below.refl _ _).alloc (Nat.le_refl _) _⟩
set_option maxHeartbeats 1000000 in
theorem blab_false (s n t : Int) (w : World) (hs : 0 ≤ s ∧ s ≤ 1) (h : 1 ≤ n ∧ n ≤ 999) (ht : ¬(0 ≤ t ∧ t ≤ 9)) :
    Calls Tryz.prog 104 #[.agg #[.int .i64 s, .int .i64 n, .int .i64 t]] w fun e w' => e = .returned (.bool false) ∧ Below w.heap.size w w' := by
  have HS := hide (show decide (0 ≤ s ∧ s ≤ 1) = true from decide_eq_true hs)
  clear hs
  have HN := hide (show decide (1 ≤ n ∧ n ≤ 999) = true from decide_eq_true h)
  clear h
  have HT := hide (show decide (0 ≤ t ∧ t ≤ 9) = false from decide_eq_false ht)
  clear ht
  go_enter Tryz.func104, Tryz.ntmps104
  go_wp2_with fail
  refine (in_any s 0 1 _ true HS.out).mono ?_
  rintro e w1 ⟨rfl, rfl⟩
  go_wp2_with fail
  refine (num_any n _ true HN.out).mono ?_
  rintro e w1 ⟨rfl, rfl⟩
  go_wp2_with fail
  refine (in_any t 0 9 _ false HT.out).mono ?_
  rintro e w1 ⟨rfl, rfl⟩
  go_wp2
  go_ret
  exact ⟨rfl, (Below.refl _ _).alloc (Nat.le_refl _) _⟩
set_option maxHeartbeats 1000000 in
theorem blab_true (s n t : Int) (w : World) (hs : 0 ≤ s ∧ s ≤ 1) (h : 1 ≤ n ∧ n ≤ 999) (ht : (0 ≤ t ∧ t ≤ 9)) :
    Calls Tryz.prog 104 #[.agg #[.int .i64 s, .int .i64 n, .int .i64 t]] w fun e w' => e = .returned (.bool true) ∧ Below w.heap.size w w' := by
  have HS := hide (show decide (0 ≤ s ∧ s ≤ 1) = true from decide_eq_true hs)
  clear hs
  have HN := hide (show decide (1 ≤ n ∧ n ≤ 999) = true from decide_eq_true h)
  clear h
  have HT := hide (show decide (0 ≤ t ∧ t ≤ 9) = true from decide_eq_true ht)
  clear ht
  go_enter Tryz.func104, Tryz.ntmps104
  go_wp2_with fail
  refine (in_any s 0 1 _ true HS.out).mono ?_
  rintro e w1 ⟨rfl, rfl⟩
  go_wp2_with fail
  refine (num_any n _ true HN.out).mono ?_
  rintro e w1 ⟨rfl, rfl⟩
  go_wp2_with fail
  refine (in_any t 0 9 _ true HT.out).mono ?_
  rintro e w1 ⟨rfl, rfl⟩
  go_wp2
  go_ret
  exact ⟨rfl, (Below.refl _ _).alloc (Nat.le_refl _) _⟩
theorem blab_any (s n t : Int) (w : World) (v : Bool) (hv : lB s n t = v) :
    Calls Tryz.prog 104 #[.agg #[.int .i64 s, .int .i64 n, .int .i64 t]] w fun e w' => e = .returned (.bool v) ∧ Below w.heap.size w w' := by
  rcases lB_one hv with ⟨rfl, hs, hn, ht⟩ | ⟨rfl, h⟩
  · exact blab_true s n t w (by omega) hn ht
  · by_cases hs : 0 ≤ s ∧ s ≤ 1
    · by_cases hn : 1 ≤ n ∧ n ≤ 999
      · exact blab_false s n t w hs hn fun ht => h ⟨by omega, hn, ht⟩
      · exact blab_n s n t w hs hn
    · exact blab_s s n t w hs
set_option maxHeartbeats 1000000 in
theorem rvalid_any (s n t : Int) (w : World) (v : Bool) (hv : lB s n t = v) :
    Calls Tryz.prog 77 #[.agg #[.int .i64 s, .int .i64 n, .int .i64 t]] w fun e w' => e = .returned (.bool v) ∧ Below w.heap.size w w' := by
  have HV := hide hv
  clear hv
  go_enter Tryz.func77, Tryz.ntmps77
  go_wp2_with fail
  refine (blab_any s n t _ v HV.out).mono ?_
  rintro e w1 ⟨rfl, hb⟩
  go_wp2
  go_ret
  exact ⟨rfl, Below.trans ((Below.refl _ _).alloc (Nat.le_refl _) _) (hb.mono (by simp))⟩
end Go.Proofs.YtaapcfflnklpjaaGreatDoor
