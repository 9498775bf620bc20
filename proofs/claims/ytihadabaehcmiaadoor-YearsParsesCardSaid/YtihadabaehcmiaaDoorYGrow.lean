/- Grow: the program's and the reference's. -/
import Derived.Test.YtihadabaehcmiaaDoorYVal
namespace Go.Proofs.YtihadabaehcmiaaDoor
open Go Go.RowKit

set_option maxHeartbeats 1000000 in
theorem grow_one (a b n : Int) (w : World) (h1 : yB a b = false) :
    Calls Tryd.prog 27 #[.agg #[.int .i64 a, .int .i64 b], .int .i64 n] w fun e w' => e = .returned (.tuple #[.agg #[.int .i64 0, .int .i64 0], .int .i64 1]) ∧ Below w.heap.size w w' := by
  have H1 := hide h1
  clear h1
  go_enter Tryd.func27, Tryd.ntmps27
  go_wp2_with fail
  refine (valid_any _ _ _ false H1.out).mono ?_
  rintro e w1 ⟨rfl, hb1⟩
  obtain ⟨hc1, hf1⟩ := bcell hb1
  have z10 : w.heap.size < w1.heap.size := by have := hb1.size; simp at this; omega
  have z11 : w.heap.size + 1 < w1.heap.size := by have := hb1.size; simp at this; omega
  go_wp2
  refine bodyPost_ret (v := .tuple #[.agg #[.int .i64 0, .int .i64 0], .int .i64 1]) ?_ rfl ⟨rfl, ?_⟩
  · simp [results, Tryd.results27, go_sem, *]
    try omega
  · exact ((((((Below.refl _ _).alloc (Nat.le_refl _) _).alloc (by simp) _).trans (hb1.mono (by simp <;> omega))).setCell (by simp <;> omega) _).setCell (by simp <;> omega) _)
set_option maxHeartbeats 1000000 in
theorem grow_neg (a b n : Int) (w : World) (h1 : yB a b = true) (h2 : decide (n < 0) = true) :
    Calls Tryd.prog 27 #[.agg #[.int .i64 a, .int .i64 b], .int .i64 n] w fun e w' => e = .returned (.tuple #[.agg #[.int .i64 0, .int .i64 0], .int .i64 2]) ∧ Below w.heap.size w w' := by
  obtain ⟨j1, j2, j3⟩ := yB_true.1 h1
  have H1 := hide h1
  clear h1
  go_enter Tryd.func27, Tryd.ntmps27
  go_wp2_with fail
  refine (valid_any _ _ _ true H1.out).mono ?_
  rintro e w1 ⟨rfl, hb1⟩
  obtain ⟨hc1, hf1⟩ := bcell hb1
  have z10 : w.heap.size < w1.heap.size := by have := hb1.size; simp at this; omega
  have z11 : w.heap.size + 1 < w1.heap.size := by have := hb1.size; simp at this; omega
  go_wp2
  all_goals
    refine bodyPost_ret (v := .tuple #[.agg #[.int .i64 0, .int .i64 0], .int .i64 2]) ?_ rfl ⟨rfl, ?_⟩
    · simp [results, Tryd.results27, go_sem, *]
      try omega
    · exact ((((((Below.refl _ _).alloc (Nat.le_refl _) _).alloc (by simp) _).trans (hb1.mono (by simp <;> omega))).setCell (by simp <;> omega) _).setCell (by simp <;> omega) _)
set_option maxHeartbeats 1000000 in
theorem grow_big (a b n : Int) (w : World) (h1 : yB a b = true) (h2 : 0 ≤ n) (h3 : a + 9999 < n ∨ 9999 - b < n) :
    Calls Tryd.prog 27 #[.agg #[.int .i64 a, .int .i64 b], .int .i64 n] w fun e w' => e = .returned (.tuple #[.agg #[.int .i64 0, .int .i64 0], .int .i64 2]) ∧ Below w.heap.size w w' := by
  obtain ⟨j1, j2, j3⟩ := yB_true.1 h1
  have h2' : decide (n < 0) = false := decide_eq_false (by omega)
  have H1 := hide h1
  have H3 := hide h3
  clear h1 h3
  go_enter Tryd.func27, Tryd.ntmps27
  go_wp2_with fail
  refine (valid_any _ _ _ true H1.out).mono ?_
  rintro e w1 ⟨rfl, hb1⟩
  obtain ⟨hc1, hf1⟩ := bcell hb1
  have z10 : w.heap.size < w1.heap.size := by have := hb1.size; simp at this; omega
  have z11 : w.heap.size + 1 < w1.heap.size := by have := hb1.size; simp at this; omega
  go_wp2_with fail
  all_goals
    have h3 := H3.out
    first
      | (exfalso; omega)
      | (skip
         refine bodyPost_ret (v := .tuple #[.agg #[.int .i64 0, .int .i64 0], .int .i64 2]) ?_ rfl ⟨rfl, ?_⟩
         · simp [results, Tryd.results27, go_sem, *]
           try omega
         · exact ((((((Below.refl _ _).alloc (Nat.le_refl _) _).alloc (by simp) _).trans (hb1.mono (by simp <;> omega))).setCell (by simp <;> omega) _).setCell (by simp <;> omega) _))
set_option maxHeartbeats 1000000 in
theorem grow_yes (a b n : Int) (w : World) (h1 : yB a b = true) (h2 : 0 ≤ n) (h3 : n ≤ a + 9999) (h4 : n ≤ 9999 - b) :
    Calls Tryd.prog 27 #[.agg #[.int .i64 a, .int .i64 b], .int .i64 n] w fun e w' => e = .returned (.tuple #[.agg #[.int .i64 (a - n), .int .i64 (b + n)], .int .i64 0]) ∧ Below w.heap.size w w' := by
  obtain ⟨j1, j2, j3⟩ := yB_true.1 h1
  have h2' : decide (n < 0) = false := decide_eq_false (by omega)
  have H1 := hide h1
  clear h1
  go_enter Tryd.func27, Tryd.ntmps27
  go_wp2_with fail
  refine (valid_any _ _ _ true H1.out).mono ?_
  rintro e w1 ⟨rfl, hb1⟩
  obtain ⟨hc1, hf1⟩ := bcell hb1
  have z10 : w.heap.size < w1.heap.size := by have := hb1.size; simp at this; omega
  have z11 : w.heap.size + 1 < w1.heap.size := by have := hb1.size; simp at this; omega
  go_wp2_with fail
  all_goals
    first
      | (exfalso; omega)
      | (skip
         refine bodyPost_ret (v := .tuple #[.agg #[.int .i64 (a - n), .int .i64 (b + n)], .int .i64 0]) ?_ rfl ⟨rfl, ?_⟩
         · simp [results, Tryd.results27, go_sem, *]
           try omega
         · exact ((((((Below.refl _ _).alloc (Nat.le_refl _) _).alloc (by simp) _).trans (hb1.mono (by simp <;> omega))).setCell (by simp <;> omega) _).setCell (by simp <;> omega) _))
set_option maxHeartbeats 1000000 in
theorem rgrow_one (a b n : Int) (w : World) (h1 : yB a b = false) :
    Calls Tryd.prog 28 #[.agg #[.int .i64 a, .int .i64 b], .int .i64 n] w fun e w' => e = .returned (.tuple #[.agg #[.int .i64 0, .int .i64 0], .int .i64 1]) ∧ Below w.heap.size w w' := by
  have H1 := hide h1
  clear h1
  go_enter Tryd.func28, Tryd.ntmps28
  go_wp2_with fail
  refine (rvalid_any _ _ _ false H1.out).mono ?_
  rintro e w1 ⟨rfl, hb1⟩
  obtain ⟨hc1, hf1⟩ := bcell hb1
  have z10 : w.heap.size < w1.heap.size := by have := hb1.size; simp at this; omega
  have z11 : w.heap.size + 1 < w1.heap.size := by have := hb1.size; simp at this; omega
  go_wp2
  refine bodyPost_ret (v := .tuple #[.agg #[.int .i64 0, .int .i64 0], .int .i64 1]) ?_ rfl ⟨rfl, ?_⟩
  · simp [results, Tryd.results28, go_sem, *]
    try omega
  · exact ((((((Below.refl _ _).alloc (Nat.le_refl _) _).alloc (by simp) _).trans (hb1.mono (by simp <;> omega))).setCell (by simp <;> omega) _).setCell (by simp <;> omega) _)
set_option maxHeartbeats 1000000 in
theorem rgrow_neg (a b n : Int) (w : World) (h1 : yB a b = true) (h2 : decide (n < 0) = true) :
    Calls Tryd.prog 28 #[.agg #[.int .i64 a, .int .i64 b], .int .i64 n] w fun e w' => e = .returned (.tuple #[.agg #[.int .i64 0, .int .i64 0], .int .i64 2]) ∧ Below w.heap.size w w' := by
  obtain ⟨j1, j2, j3⟩ := yB_true.1 h1
  have H1 := hide h1
  clear h1
  go_enter Tryd.func28, Tryd.ntmps28
  go_wp2_with fail
  refine (rvalid_any _ _ _ true H1.out).mono ?_
  rintro e w1 ⟨rfl, hb1⟩
  obtain ⟨hc1, hf1⟩ := bcell hb1
  have z10 : w.heap.size < w1.heap.size := by have := hb1.size; simp at this; omega
  have z11 : w.heap.size + 1 < w1.heap.size := by have := hb1.size; simp at this; omega
  go_wp2
  all_goals
    refine bodyPost_ret (v := .tuple #[.agg #[.int .i64 0, .int .i64 0], .int .i64 2]) ?_ rfl ⟨rfl, ?_⟩
    · simp [results, Tryd.results28, go_sem, *]
      try omega
    · exact ((((((Below.refl _ _).alloc (Nat.le_refl _) _).alloc (by simp) _).trans (hb1.mono (by simp <;> omega))).setCell (by simp <;> omega) _).setCell (by simp <;> omega) _)
set_option maxHeartbeats 1000000 in
theorem rgrow_huge (a b n : Int) (w : World) (h1 : yB a b = true) (h2 : 20000 < n) :
    Calls Tryd.prog 28 #[.agg #[.int .i64 a, .int .i64 b], .int .i64 n] w fun e w' => e = .returned (.tuple #[.agg #[.int .i64 0, .int .i64 0], .int .i64 2]) ∧ Below w.heap.size w w' := by
  obtain ⟨j1, j2, j3⟩ := yB_true.1 h1
  have h2' : decide (n < 0) = false := decide_eq_false (by omega)
  have h2'' : decide (20000 < n) = true := decide_eq_true (by omega)
  have H1 := hide h1
  clear h1
  go_enter Tryd.func28, Tryd.ntmps28
  go_wp2_with fail
  refine (rvalid_any _ _ _ true H1.out).mono ?_
  rintro e w1 ⟨rfl, hb1⟩
  obtain ⟨hc1, hf1⟩ := bcell hb1
  have z10 : w.heap.size < w1.heap.size := by have := hb1.size; simp at this; omega
  have z11 : w.heap.size + 1 < w1.heap.size := by have := hb1.size; simp at this; omega
  go_wp2
  refine bodyPost_ret (v := .tuple #[.agg #[.int .i64 0, .int .i64 0], .int .i64 2]) ?_ rfl ⟨rfl, ?_⟩
  · simp [results, Tryd.results28, go_sem, *]
    try omega
  · exact ((((((Below.refl _ _).alloc (Nat.le_refl _) _).alloc (by simp) _).trans (hb1.mono (by simp <;> omega))).setCell (by simp <;> omega) _).setCell (by simp <;> omega) _)
set_option maxHeartbeats 1000000 in
theorem rgrow_big (a b n : Int) (w : World) (h1 : yB a b = true) (h2 : 0 ≤ n) (hn : n ≤ 20000) (h3 : yB (a - n) (b + n) = false) :
    Calls Tryd.prog 28 #[.agg #[.int .i64 a, .int .i64 b], .int .i64 n] w fun e w' => e = .returned (.tuple #[.agg #[.int .i64 0, .int .i64 0], .int .i64 2]) ∧ Below w.heap.size w w' := by
  obtain ⟨j1, j2, j3⟩ := yB_true.1 h1
  have h2' : decide (n < 0) = false := decide_eq_false (by omega)
  have h2'' : decide (20000 < n) = false := decide_eq_false (by omega)
  have H1 := hide h1
  have H3 := hide h3
  clear h1 h3
  go_enter Tryd.func28, Tryd.ntmps28
  go_wp2_with fail
  refine (rvalid_any _ _ _ true H1.out).mono ?_
  rintro e w1 ⟨rfl, hb1⟩
  obtain ⟨hc1, hf1⟩ := bcell hb1
  have z10 : w.heap.size < w1.heap.size := by have := hb1.size; simp at this; omega
  have z11 : w.heap.size + 1 < w1.heap.size := by have := hb1.size; simp at this; omega
  go_wp2_with fail
  refine (rvalid_any _ _ _ false H3.out).mono ?_
  rintro e w2 ⟨rfl, hb2⟩
  obtain ⟨hc2, hf2⟩ := bcell hb2
  have z20 : w.heap.size < w2.heap.size := by have := hb2.size; omega
  have z21 : w.heap.size + 1 < w2.heap.size := by have := hb2.size; omega
  go_wp2
  refine bodyPost_ret (v := .tuple #[.agg #[.int .i64 0, .int .i64 0], .int .i64 2]) ?_ rfl ⟨rfl, ?_⟩
  · simp [results, Tryd.results28, go_sem, *]
    try omega
  · exact (((((((Below.refl _ _).alloc (Nat.le_refl _) _).alloc (by simp) _).trans (hb1.mono (by simp <;> omega))).trans (hb2.mono (by omega))).setCell (by simp <;> omega) _).setCell (by simp <;> omega) _)
set_option maxHeartbeats 1000000 in
theorem rgrow_yes (a b n : Int) (w : World) (h1 : yB a b = true) (h2 : 0 ≤ n) (hn : n ≤ 20000) (h3 : yB (a - n) (b + n) = true) :
    Calls Tryd.prog 28 #[.agg #[.int .i64 a, .int .i64 b], .int .i64 n] w fun e w' => e = .returned (.tuple #[.agg #[.int .i64 (a - n), .int .i64 (b + n)], .int .i64 0]) ∧ Below w.heap.size w w' := by
  obtain ⟨j1, j2, j3⟩ := yB_true.1 h1
  have h2' : decide (n < 0) = false := decide_eq_false (by omega)
  have h2'' : decide (20000 < n) = false := decide_eq_false (by omega)
  have H1 := hide h1
  have H3 := hide h3
  clear h1 h3
  go_enter Tryd.func28, Tryd.ntmps28
  go_wp2_with fail
  refine (rvalid_any _ _ _ true H1.out).mono ?_
  rintro e w1 ⟨rfl, hb1⟩
  obtain ⟨hc1, hf1⟩ := bcell hb1
  have z10 : w.heap.size < w1.heap.size := by have := hb1.size; simp at this; omega
  have z11 : w.heap.size + 1 < w1.heap.size := by have := hb1.size; simp at this; omega
  go_wp2_with fail
  refine (rvalid_any _ _ _ true H3.out).mono ?_
  rintro e w2 ⟨rfl, hb2⟩
  obtain ⟨hc2, hf2⟩ := bcell hb2
  have z20 : w.heap.size < w2.heap.size := by have := hb2.size; omega
  have z21 : w.heap.size + 1 < w2.heap.size := by have := hb2.size; omega
  go_wp2
  refine bodyPost_ret (v := .tuple #[.agg #[.int .i64 (a - n), .int .i64 (b + n)], .int .i64 0]) ?_ rfl ⟨rfl, ?_⟩
  · simp [results, Tryd.results28, go_sem, *]
    try omega
  · exact (((((((Below.refl _ _).alloc (Nat.le_refl _) _).alloc (by simp) _).trans (hb1.mono (by simp <;> omega))).trans (hb2.mono (by omega))).setCell (by simp <;> omega) _).setCell (by simp <;> omega) _)
/-- what Grow returns -/
def grw (a b n : Int) : Int × Int × Int := if yB a b = false then (0, 0, 1) else if 0 ≤ n ∧ -9999 ≤ a - n ∧ b + n ≤ 9999 then (a - n, b + n, 0) else (0, 0, 2)
theorem grow_any (a b n : Int) (w : World) (x y z : Int) (h : grw a b n = (x, y, z)) :
    Calls Tryd.prog 27 #[.agg #[.int .i64 a, .int .i64 b], .int .i64 n] w fun e w' => e = .returned (.tuple #[.agg #[.int .i64 x, .int .i64 y], .int .i64 z]) ∧ Below w.heap.size w w' := by
  unfold grw at h
  by_cases h1 : yB a b = false
  · rw [if_pos h1] at h; cases h; exact grow_one a b n w h1
  · rw [if_neg h1] at h
    have h1 : yB a b = true := by simpa using h1
    have j := yB_true.1 h1
    by_cases h2 : 0 ≤ n ∧ -9999 ≤ a - n ∧ b + n ≤ 9999
    · rw [if_pos h2] at h; cases h; exact grow_yes a b n w h1 h2.1 (by omega) (by omega)
    · rw [if_neg h2] at h; cases h
      by_cases h3 : n < 0
      · exact grow_neg a b n w h1 (decide_eq_true h3)
      · exact grow_big a b n w h1 (by omega) (by omega)
theorem rgrow_any (a b n : Int) (w : World) (x y z : Int) (h : grw a b n = (x, y, z)) :
    Calls Tryd.prog 28 #[.agg #[.int .i64 a, .int .i64 b], .int .i64 n] w fun e w' => e = .returned (.tuple #[.agg #[.int .i64 x, .int .i64 y], .int .i64 z]) ∧ Below w.heap.size w w' := by
  unfold grw at h
  by_cases h1 : yB a b = false
  · rw [if_pos h1] at h; cases h; exact rgrow_one a b n w h1
  · rw [if_neg h1] at h
    have h1 : yB a b = true := by simpa using h1
    have j := yB_true.1 h1
    by_cases h2 : 0 ≤ n ∧ -9999 ≤ a - n ∧ b + n ≤ 9999
    · rw [if_pos h2] at h; cases h; exact rgrow_yes a b n w h1 h2.1 (by omega) (yB_true.2 (by omega))
    · rw [if_neg h2] at h; cases h
      by_cases h3 : n < 0
      · exact rgrow_neg a b n w h1 (decide_eq_true h3)
      · by_cases h4 : 20000 < n
        · exact rgrow_huge a b n w h1 h4
        · exact rgrow_big a b n w h1 (by omega) (by omega) (yB_false.2 (by omega))
end Go.Proofs.YtihadabaehcmiaaDoor
