/- Meet, Hull, Grow: the program's and the reference's. -/
import Derived.Test.YtihadabaehcmiaaDoorYVal
namespace Go.Proofs.YtihadabaehcmiaaDoor
open Go Go.RowKit

set_option maxHeartbeats 2000000 in
theorem meet_yes (a b c d : Int) (w : World) (h1 : yB a b = true) (h2 : yB c d = true) (h3 : max a c ≤ min b d) :
    Calls Tryd.prog 13 #[.agg #[.int .i64 a, .int .i64 b], .agg #[.int .i64 c, .int .i64 d]] w fun e w' => e = .returned (.tuple #[.agg #[.int .i64 (max a c), .int .i64 (min b d)], .bool true]) ∧ Below w.heap.size w w' := by
  have H1 := hide h1
  have H2 := hide h2
  clear h1 h2
  go_enter Tryd.func13, Tryd.ntmps13
  have j1 := yB_true.1 H1.out
  have j2 := yB_true.1 H2.out
  go_wp2_with fail
  all_goals
    refine (valid_any _ _ _ true H1.out).mono ?_
    rintro e w1 ⟨rfl, hb1⟩
    obtain ⟨hc1, hf1⟩ := bcell hb1
    have z10 : w.heap.size < w1.heap.size := by have := hb1.size; simp at this; omega
    have z11 : w.heap.size + 1 < w1.heap.size := by have := hb1.size; simp at this; omega
    have z12 : w.heap.size + 1 + 1 < w1.heap.size := by have := hb1.size; simp at this; omega
    have z13 : w.heap.size + 1 + 1 + 1 < w1.heap.size := by have := hb1.size; simp at this; omega
    go_wp2_with fail
    refine (valid_any _ _ _ true H2.out).mono ?_
    rintro e w2 ⟨rfl, hb2⟩
    obtain ⟨hc2, hf2⟩ := bcell hb2
    have z20 : w.heap.size < w2.heap.size := by have := hb2.size; omega
    have z21 : w.heap.size + 1 < w2.heap.size := by have := hb2.size; omega
    have z22 : w.heap.size + 1 + 1 < w2.heap.size := by have := hb2.size; omega
    have z23 : w.heap.size + 1 + 1 + 1 < w2.heap.size := by have := hb2.size; omega
    go_wp2_with fail
    refine (valid_any _ _ _ true (yB_true.2 (by omega))).mono ?_
    rintro e w3 ⟨rfl, hb3⟩
    obtain ⟨hc3, hf3⟩ := bcell hb3
    have z30 : w.heap.size < w3.heap.size := by have := hb3.size; omega
    have z31 : w.heap.size + 1 < w3.heap.size := by have := hb3.size; omega
    have z32 : w.heap.size + 1 + 1 < w3.heap.size := by have := hb3.size; omega
    have z33 : w.heap.size + 1 + 1 + 1 < w3.heap.size := by have := hb3.size; omega
    go_wp2
    refine bodyPost_ret (v := .tuple #[.agg #[.int .i64 (max a c), .int .i64 (min b d)], .bool true]) ?_ rfl ⟨rfl, ?_⟩
    · simp [results, Tryd.results13, go_sem, *]
      try omega
    · exact ((((((((((Below.refl _ _).alloc (Nat.le_refl _) _).alloc (by simp) _).alloc (by simp <;> omega) _).alloc (by simp <;> omega) _).trans (hb1.mono (by simp <;> omega))).trans (hb2.mono (by omega))).trans (hb3.mono (by omega))).setCell (by simp <;> omega) _).setCell (by simp <;> omega) _)
set_option maxHeartbeats 2000000 in
theorem meet_none (a b c d : Int) (w : World) (h1 : yB a b = true) (h2 : yB c d = true) (h3 : min b d < max a c) :
    Calls Tryd.prog 13 #[.agg #[.int .i64 a, .int .i64 b], .agg #[.int .i64 c, .int .i64 d]] w fun e w' => e = .returned (.tuple #[.agg #[.int .i64 0, .int .i64 0], .bool false]) ∧ Below w.heap.size w w' := by
  have H1 := hide h1
  have H2 := hide h2
  clear h1 h2
  go_enter Tryd.func13, Tryd.ntmps13
  have j1 := yB_true.1 H1.out
  have j2 := yB_true.1 H2.out
  go_wp2_with fail
  all_goals
    refine (valid_any _ _ _ true H1.out).mono ?_
    rintro e w1 ⟨rfl, hb1⟩
    obtain ⟨hc1, hf1⟩ := bcell hb1
    have z10 : w.heap.size < w1.heap.size := by have := hb1.size; simp at this; omega
    have z11 : w.heap.size + 1 < w1.heap.size := by have := hb1.size; simp at this; omega
    have z12 : w.heap.size + 1 + 1 < w1.heap.size := by have := hb1.size; simp at this; omega
    have z13 : w.heap.size + 1 + 1 + 1 < w1.heap.size := by have := hb1.size; simp at this; omega
    go_wp2_with fail
    refine (valid_any _ _ _ true H2.out).mono ?_
    rintro e w2 ⟨rfl, hb2⟩
    obtain ⟨hc2, hf2⟩ := bcell hb2
    have z20 : w.heap.size < w2.heap.size := by have := hb2.size; omega
    have z21 : w.heap.size + 1 < w2.heap.size := by have := hb2.size; omega
    have z22 : w.heap.size + 1 + 1 < w2.heap.size := by have := hb2.size; omega
    have z23 : w.heap.size + 1 + 1 + 1 < w2.heap.size := by have := hb2.size; omega
    go_wp2_with fail
    refine (valid_any _ _ _ false (yB_false.2 (by omega))).mono ?_
    rintro e w3 ⟨rfl, hb3⟩
    obtain ⟨hc3, hf3⟩ := bcell hb3
    have z30 : w.heap.size < w3.heap.size := by have := hb3.size; omega
    have z31 : w.heap.size + 1 < w3.heap.size := by have := hb3.size; omega
    have z32 : w.heap.size + 1 + 1 < w3.heap.size := by have := hb3.size; omega
    have z33 : w.heap.size + 1 + 1 + 1 < w3.heap.size := by have := hb3.size; omega
    go_wp2
    refine bodyPost_ret (v := .tuple #[.agg #[.int .i64 0, .int .i64 0], .bool false]) ?_ rfl ⟨rfl, ?_⟩
    · simp [results, Tryd.results13, go_sem, *]
      try omega
    · exact ((((((((((Below.refl _ _).alloc (Nat.le_refl _) _).alloc (by simp) _).alloc (by simp <;> omega) _).alloc (by simp <;> omega) _).trans (hb1.mono (by simp <;> omega))).trans (hb2.mono (by omega))).trans (hb3.mono (by omega))).setCell (by simp <;> omega) _).setCell (by simp <;> omega) _)
set_option maxHeartbeats 2000000 in
theorem meet_two (a b c d : Int) (w : World) (h1 : yB a b = true) (h2 : yB c d = false) :
    Calls Tryd.prog 13 #[.agg #[.int .i64 a, .int .i64 b], .agg #[.int .i64 c, .int .i64 d]] w fun e w' => e = .returned (.tuple #[.agg #[.int .i64 0, .int .i64 0], .bool false]) ∧ Below w.heap.size w w' := by
  have H1 := hide h1
  have H2 := hide h2
  clear h1 h2
  go_enter Tryd.func13, Tryd.ntmps13
  go_wp2_with fail
  all_goals
    refine (valid_any _ _ _ true H1.out).mono ?_
    rintro e w1 ⟨rfl, hb1⟩
    obtain ⟨hc1, hf1⟩ := bcell hb1
    have z10 : w.heap.size < w1.heap.size := by have := hb1.size; simp at this; omega
    have z11 : w.heap.size + 1 < w1.heap.size := by have := hb1.size; simp at this; omega
    have z12 : w.heap.size + 1 + 1 < w1.heap.size := by have := hb1.size; simp at this; omega
    have z13 : w.heap.size + 1 + 1 + 1 < w1.heap.size := by have := hb1.size; simp at this; omega
    go_wp2_with fail
    refine (valid_any _ _ _ false H2.out).mono ?_
    rintro e w2 ⟨rfl, hb2⟩
    obtain ⟨hc2, hf2⟩ := bcell hb2
    have z20 : w.heap.size < w2.heap.size := by have := hb2.size; omega
    have z21 : w.heap.size + 1 < w2.heap.size := by have := hb2.size; omega
    have z22 : w.heap.size + 1 + 1 < w2.heap.size := by have := hb2.size; omega
    have z23 : w.heap.size + 1 + 1 + 1 < w2.heap.size := by have := hb2.size; omega
    go_wp2
    refine bodyPost_ret (v := .tuple #[.agg #[.int .i64 0, .int .i64 0], .bool false]) ?_ rfl ⟨rfl, ?_⟩
    · simp [results, Tryd.results13, go_sem, *]
      try omega
    · exact (((((((((Below.refl _ _).alloc (Nat.le_refl _) _).alloc (by simp) _).alloc (by simp <;> omega) _).alloc (by simp <;> omega) _).trans (hb1.mono (by simp <;> omega))).trans (hb2.mono (by omega))).setCell (by simp <;> omega) _).setCell (by simp <;> omega) _)
set_option maxHeartbeats 2000000 in
theorem meet_one (a b c d : Int) (w : World) (h1 : yB a b = false) :
    Calls Tryd.prog 13 #[.agg #[.int .i64 a, .int .i64 b], .agg #[.int .i64 c, .int .i64 d]] w fun e w' => e = .returned (.tuple #[.agg #[.int .i64 0, .int .i64 0], .bool false]) ∧ Below w.heap.size w w' := by
  have H1 := hide h1
  clear h1
  go_enter Tryd.func13, Tryd.ntmps13
  go_wp2_with fail
  all_goals
    refine (valid_any _ _ _ false H1.out).mono ?_
    rintro e w1 ⟨rfl, hb1⟩
    obtain ⟨hc1, hf1⟩ := bcell hb1
    have z10 : w.heap.size < w1.heap.size := by have := hb1.size; simp at this; omega
    have z11 : w.heap.size + 1 < w1.heap.size := by have := hb1.size; simp at this; omega
    have z12 : w.heap.size + 1 + 1 < w1.heap.size := by have := hb1.size; simp at this; omega
    have z13 : w.heap.size + 1 + 1 + 1 < w1.heap.size := by have := hb1.size; simp at this; omega
    go_wp2
    refine bodyPost_ret (v := .tuple #[.agg #[.int .i64 0, .int .i64 0], .bool false]) ?_ rfl ⟨rfl, ?_⟩
    · simp [results, Tryd.results13, go_sem, *]
      try omega
    · exact ((((((((Below.refl _ _).alloc (Nat.le_refl _) _).alloc (by simp) _).alloc (by simp <;> omega) _).alloc (by simp <;> omega) _).trans (hb1.mono (by simp <;> omega))).setCell (by simp <;> omega) _).setCell (by simp <;> omega) _)
set_option maxHeartbeats 2000000 in
theorem rmeet_yes (a b c d : Int) (w : World) (h1 : yB a b = true) (h2 : yB c d = true) (h3 : max a c ≤ min b d) :
    Calls Tryd.prog 14 #[.agg #[.int .i64 a, .int .i64 b], .agg #[.int .i64 c, .int .i64 d]] w fun e w' => e = .returned (.tuple #[.agg #[.int .i64 (max a c), .int .i64 (min b d)], .bool true]) ∧ Below w.heap.size w w' := by
  have H1 := hide h1
  have H2 := hide h2
  clear h1 h2
  go_enter Tryd.func14, Tryd.ntmps14
  have j1 := yB_true.1 H1.out
  have j2 := yB_true.1 H2.out
  go_wp2_with fail
  all_goals
    refine (rvalid_any _ _ _ true H1.out).mono ?_
    rintro e w1 ⟨rfl, hb1⟩
    obtain ⟨hc1, hf1⟩ := bcell hb1
    have z10 : w.heap.size < w1.heap.size := by have := hb1.size; simp at this; omega
    have z11 : w.heap.size + 1 < w1.heap.size := by have := hb1.size; simp at this; omega
    have z12 : w.heap.size + 1 + 1 < w1.heap.size := by have := hb1.size; simp at this; omega
    have z13 : w.heap.size + 1 + 1 + 1 < w1.heap.size := by have := hb1.size; simp at this; omega
    go_wp2_with fail
    refine (rvalid_any _ _ _ true H2.out).mono ?_
    rintro e w2 ⟨rfl, hb2⟩
    obtain ⟨hc2, hf2⟩ := bcell hb2
    have z20 : w.heap.size < w2.heap.size := by have := hb2.size; omega
    have z21 : w.heap.size + 1 < w2.heap.size := by have := hb2.size; omega
    have z22 : w.heap.size + 1 + 1 < w2.heap.size := by have := hb2.size; omega
    have z23 : w.heap.size + 1 + 1 + 1 < w2.heap.size := by have := hb2.size; omega
    go_wp2
    refine bodyPost_ret (v := .tuple #[.agg #[.int .i64 (max a c), .int .i64 (min b d)], .bool true]) ?_ rfl ⟨rfl, ?_⟩
    · simp [results, Tryd.results14, go_sem, *]
      try omega
    · exact (((((((((Below.refl _ _).alloc (Nat.le_refl _) _).alloc (by simp) _).alloc (by simp <;> omega) _).alloc (by simp <;> omega) _).trans (hb1.mono (by simp <;> omega))).trans (hb2.mono (by omega))).setCell (by simp <;> omega) _).setCell (by simp <;> omega) _)
set_option maxHeartbeats 2000000 in
theorem rmeet_none (a b c d : Int) (w : World) (h1 : yB a b = true) (h2 : yB c d = true) (h3 : min b d < max a c) :
    Calls Tryd.prog 14 #[.agg #[.int .i64 a, .int .i64 b], .agg #[.int .i64 c, .int .i64 d]] w fun e w' => e = .returned (.tuple #[.agg #[.int .i64 0, .int .i64 0], .bool false]) ∧ Below w.heap.size w w' := by
  have H1 := hide h1
  have H2 := hide h2
  clear h1 h2
  go_enter Tryd.func14, Tryd.ntmps14
  have j1 := yB_true.1 H1.out
  have j2 := yB_true.1 H2.out
  go_wp2_with fail
  all_goals
    refine (rvalid_any _ _ _ true H1.out).mono ?_
    rintro e w1 ⟨rfl, hb1⟩
    obtain ⟨hc1, hf1⟩ := bcell hb1
    have z10 : w.heap.size < w1.heap.size := by have := hb1.size; simp at this; omega
    have z11 : w.heap.size + 1 < w1.heap.size := by have := hb1.size; simp at this; omega
    have z12 : w.heap.size + 1 + 1 < w1.heap.size := by have := hb1.size; simp at this; omega
    have z13 : w.heap.size + 1 + 1 + 1 < w1.heap.size := by have := hb1.size; simp at this; omega
    go_wp2_with fail
    refine (rvalid_any _ _ _ true H2.out).mono ?_
    rintro e w2 ⟨rfl, hb2⟩
    obtain ⟨hc2, hf2⟩ := bcell hb2
    have z20 : w.heap.size < w2.heap.size := by have := hb2.size; omega
    have z21 : w.heap.size + 1 < w2.heap.size := by have := hb2.size; omega
    have z22 : w.heap.size + 1 + 1 < w2.heap.size := by have := hb2.size; omega
    have z23 : w.heap.size + 1 + 1 + 1 < w2.heap.size := by have := hb2.size; omega
    go_wp2
    refine bodyPost_ret (v := .tuple #[.agg #[.int .i64 0, .int .i64 0], .bool false]) ?_ rfl ⟨rfl, ?_⟩
    · simp [results, Tryd.results14, go_sem, *]
      try omega
    · exact (((((((((Below.refl _ _).alloc (Nat.le_refl _) _).alloc (by simp) _).alloc (by simp <;> omega) _).alloc (by simp <;> omega) _).trans (hb1.mono (by simp <;> omega))).trans (hb2.mono (by omega))).setCell (by simp <;> omega) _).setCell (by simp <;> omega) _)
set_option maxHeartbeats 2000000 in
theorem rmeet_two (a b c d : Int) (w : World) (h1 : yB a b = true) (h2 : yB c d = false) :
    Calls Tryd.prog 14 #[.agg #[.int .i64 a, .int .i64 b], .agg #[.int .i64 c, .int .i64 d]] w fun e w' => e = .returned (.tuple #[.agg #[.int .i64 0, .int .i64 0], .bool false]) ∧ Below w.heap.size w w' := by
  have H1 := hide h1
  have H2 := hide h2
  clear h1 h2
  go_enter Tryd.func14, Tryd.ntmps14
  go_wp2_with fail
  all_goals
    refine (rvalid_any _ _ _ true H1.out).mono ?_
    rintro e w1 ⟨rfl, hb1⟩
    obtain ⟨hc1, hf1⟩ := bcell hb1
    have z10 : w.heap.size < w1.heap.size := by have := hb1.size; simp at this; omega
    have z11 : w.heap.size + 1 < w1.heap.size := by have := hb1.size; simp at this; omega
    have z12 : w.heap.size + 1 + 1 < w1.heap.size := by have := hb1.size; simp at this; omega
    have z13 : w.heap.size + 1 + 1 + 1 < w1.heap.size := by have := hb1.size; simp at this; omega
    go_wp2_with fail
    refine (rvalid_any _ _ _ false H2.out).mono ?_
    rintro e w2 ⟨rfl, hb2⟩
    obtain ⟨hc2, hf2⟩ := bcell hb2
    have z20 : w.heap.size < w2.heap.size := by have := hb2.size; omega
    have z21 : w.heap.size + 1 < w2.heap.size := by have := hb2.size; omega
    have z22 : w.heap.size + 1 + 1 < w2.heap.size := by have := hb2.size; omega
    have z23 : w.heap.size + 1 + 1 + 1 < w2.heap.size := by have := hb2.size; omega
    go_wp2
    refine bodyPost_ret (v := .tuple #[.agg #[.int .i64 0, .int .i64 0], .bool false]) ?_ rfl ⟨rfl, ?_⟩
    · simp [results, Tryd.results14, go_sem, *]
      try omega
    · exact (((((((((Below.refl _ _).alloc (Nat.le_refl _) _).alloc (by simp) _).alloc (by simp <;> omega) _).alloc (by simp <;> omega) _).trans (hb1.mono (by simp <;> omega))).trans (hb2.mono (by omega))).setCell (by simp <;> omega) _).setCell (by simp <;> omega) _)
set_option maxHeartbeats 2000000 in
theorem rmeet_one (a b c d : Int) (w : World) (h1 : yB a b = false) :
    Calls Tryd.prog 14 #[.agg #[.int .i64 a, .int .i64 b], .agg #[.int .i64 c, .int .i64 d]] w fun e w' => e = .returned (.tuple #[.agg #[.int .i64 0, .int .i64 0], .bool false]) ∧ Below w.heap.size w w' := by
  have H1 := hide h1
  clear h1
  go_enter Tryd.func14, Tryd.ntmps14
  go_wp2_with fail
  all_goals
    refine (rvalid_any _ _ _ false H1.out).mono ?_
    rintro e w1 ⟨rfl, hb1⟩
    obtain ⟨hc1, hf1⟩ := bcell hb1
    have z10 : w.heap.size < w1.heap.size := by have := hb1.size; simp at this; omega
    have z11 : w.heap.size + 1 < w1.heap.size := by have := hb1.size; simp at this; omega
    have z12 : w.heap.size + 1 + 1 < w1.heap.size := by have := hb1.size; simp at this; omega
    have z13 : w.heap.size + 1 + 1 + 1 < w1.heap.size := by have := hb1.size; simp at this; omega
    go_wp2
    refine bodyPost_ret (v := .tuple #[.agg #[.int .i64 0, .int .i64 0], .bool false]) ?_ rfl ⟨rfl, ?_⟩
    · simp [results, Tryd.results14, go_sem, *]
      try omega
    · exact ((((((((Below.refl _ _).alloc (Nat.le_refl _) _).alloc (by simp) _).alloc (by simp <;> omega) _).alloc (by simp <;> omega) _).trans (hb1.mono (by simp <;> omega))).setCell (by simp <;> omega) _).setCell (by simp <;> omega) _)
set_option maxHeartbeats 2000000 in
theorem hull_yes (a b c d : Int) (w : World) (h1 : yB a b = true) (h2 : yB c d = true) :
    Calls Tryd.prog 15 #[.agg #[.int .i64 a, .int .i64 b], .agg #[.int .i64 c, .int .i64 d]] w fun e w' => e = .returned (.tuple #[.agg #[.int .i64 (min a c), .int .i64 (max b d)], .int .i64 0]) ∧ Below w.heap.size w w' := by
  have H1 := hide h1
  have H2 := hide h2
  clear h1 h2
  go_enter Tryd.func15, Tryd.ntmps15
  go_wp2_with fail
  refine (valid_any _ _ _ true H1.out).mono ?_
  rintro e w1 ⟨rfl, hb1⟩
  obtain ⟨hc1, hf1⟩ := bcell hb1
  have z10 : w.heap.size < w1.heap.size := by have := hb1.size; simp at this; omega
  have z11 : w.heap.size + 1 < w1.heap.size := by have := hb1.size; simp at this; omega
  have z12 : w.heap.size + 1 + 1 < w1.heap.size := by have := hb1.size; simp at this; omega
  go_wp2_with fail
  refine (valid_any _ _ _ true H2.out).mono ?_
  rintro e w2 ⟨rfl, hb2⟩
  obtain ⟨hc2, hf2⟩ := bcell hb2
  have z20 : w.heap.size < w2.heap.size := by have := hb2.size; omega
  have z21 : w.heap.size + 1 < w2.heap.size := by have := hb2.size; omega
  have z22 : w.heap.size + 1 + 1 < w2.heap.size := by have := hb2.size; omega
  go_wp2
  all_goals
    refine bodyPost_ret (v := .tuple #[.agg #[.int .i64 (min a c), .int .i64 (max b d)], .int .i64 0]) ?_ rfl ⟨rfl, ?_⟩
    · simp [results, Tryd.results15, go_sem, *]
      try omega
    · exact ((((((((Below.refl _ _).alloc (Nat.le_refl _) _).alloc (by simp) _).alloc (by simp <;> omega) _).trans (hb1.mono (by simp <;> omega))).trans (hb2.mono (by omega))).setCell (by simp <;> omega) _).setCell (by simp <;> omega) _)
set_option maxHeartbeats 2000000 in
theorem hull_two (a b c d : Int) (w : World) (h1 : yB a b = true) (h2 : yB c d = false) :
    Calls Tryd.prog 15 #[.agg #[.int .i64 a, .int .i64 b], .agg #[.int .i64 c, .int .i64 d]] w fun e w' => e = .returned (.tuple #[.agg #[.int .i64 0, .int .i64 0], .int .i64 1]) ∧ Below w.heap.size w w' := by
  have H1 := hide h1
  have H2 := hide h2
  clear h1 h2
  go_enter Tryd.func15, Tryd.ntmps15
  go_wp2_with fail
  refine (valid_any _ _ _ true H1.out).mono ?_
  rintro e w1 ⟨rfl, hb1⟩
  obtain ⟨hc1, hf1⟩ := bcell hb1
  have z10 : w.heap.size < w1.heap.size := by have := hb1.size; simp at this; omega
  have z11 : w.heap.size + 1 < w1.heap.size := by have := hb1.size; simp at this; omega
  have z12 : w.heap.size + 1 + 1 < w1.heap.size := by have := hb1.size; simp at this; omega
  go_wp2_with fail
  refine (valid_any _ _ _ false H2.out).mono ?_
  rintro e w2 ⟨rfl, hb2⟩
  obtain ⟨hc2, hf2⟩ := bcell hb2
  have z20 : w.heap.size < w2.heap.size := by have := hb2.size; omega
  have z21 : w.heap.size + 1 < w2.heap.size := by have := hb2.size; omega
  have z22 : w.heap.size + 1 + 1 < w2.heap.size := by have := hb2.size; omega
  go_wp2
  refine bodyPost_ret (v := .tuple #[.agg #[.int .i64 0, .int .i64 0], .int .i64 1]) ?_ rfl ⟨rfl, ?_⟩
  · simp [results, Tryd.results15, go_sem, *]
    try omega
  · exact ((((((((Below.refl _ _).alloc (Nat.le_refl _) _).alloc (by simp) _).alloc (by simp <;> omega) _).trans (hb1.mono (by simp <;> omega))).trans (hb2.mono (by omega))).setCell (by simp <;> omega) _).setCell (by simp <;> omega) _)
set_option maxHeartbeats 2000000 in
theorem hull_one (a b c d : Int) (w : World) (h1 : yB a b = false) :
    Calls Tryd.prog 15 #[.agg #[.int .i64 a, .int .i64 b], .agg #[.int .i64 c, .int .i64 d]] w fun e w' => e = .returned (.tuple #[.agg #[.int .i64 0, .int .i64 0], .int .i64 1]) ∧ Below w.heap.size w w' := by
  have H1 := hide h1
  clear h1
  go_enter Tryd.func15, Tryd.ntmps15
  go_wp2_with fail
  refine (valid_any _ _ _ false H1.out).mono ?_
  rintro e w1 ⟨rfl, hb1⟩
  obtain ⟨hc1, hf1⟩ := bcell hb1
  have z10 : w.heap.size < w1.heap.size := by have := hb1.size; simp at this; omega
  have z11 : w.heap.size + 1 < w1.heap.size := by have := hb1.size; simp at this; omega
  have z12 : w.heap.size + 1 + 1 < w1.heap.size := by have := hb1.size; simp at this; omega
  go_wp2
  refine bodyPost_ret (v := .tuple #[.agg #[.int .i64 0, .int .i64 0], .int .i64 1]) ?_ rfl ⟨rfl, ?_⟩
  · simp [results, Tryd.results15, go_sem, *]
    try omega
  · exact (((((((Below.refl _ _).alloc (Nat.le_refl _) _).alloc (by simp) _).alloc (by simp <;> omega) _).trans (hb1.mono (by simp <;> omega))).setCell (by simp <;> omega) _).setCell (by simp <;> omega) _)
set_option maxHeartbeats 2000000 in
theorem rhull_yes (a b c d : Int) (w : World) (h1 : yB a b = true) (h2 : yB c d = true) :
    Calls Tryd.prog 16 #[.agg #[.int .i64 a, .int .i64 b], .agg #[.int .i64 c, .int .i64 d]] w fun e w' => e = .returned (.tuple #[.agg #[.int .i64 (min a c), .int .i64 (max b d)], .int .i64 0]) ∧ Below w.heap.size w w' := by
  have H1 := hide h1
  have H2 := hide h2
  clear h1 h2
  go_enter Tryd.func16, Tryd.ntmps16
  go_wp2_with fail
  refine (rvalid_any _ _ _ true H1.out).mono ?_
  rintro e w1 ⟨rfl, hb1⟩
  obtain ⟨hc1, hf1⟩ := bcell hb1
  have z10 : w.heap.size < w1.heap.size := by have := hb1.size; simp at this; omega
  have z11 : w.heap.size + 1 < w1.heap.size := by have := hb1.size; simp at this; omega
  have z12 : w.heap.size + 1 + 1 < w1.heap.size := by have := hb1.size; simp at this; omega
  go_wp2_with fail
  refine (rvalid_any _ _ _ true H2.out).mono ?_
  rintro e w2 ⟨rfl, hb2⟩
  obtain ⟨hc2, hf2⟩ := bcell hb2
  have z20 : w.heap.size < w2.heap.size := by have := hb2.size; omega
  have z21 : w.heap.size + 1 < w2.heap.size := by have := hb2.size; omega
  have z22 : w.heap.size + 1 + 1 < w2.heap.size := by have := hb2.size; omega
  go_wp2
  all_goals
    refine bodyPost_ret (v := .tuple #[.agg #[.int .i64 (min a c), .int .i64 (max b d)], .int .i64 0]) ?_ rfl ⟨rfl, ?_⟩
    · simp [results, Tryd.results16, go_sem, *]
      try omega
    · exact ((((((((Below.refl _ _).alloc (Nat.le_refl _) _).alloc (by simp) _).alloc (by simp <;> omega) _).trans (hb1.mono (by simp <;> omega))).trans (hb2.mono (by omega))).setCell (by simp <;> omega) _).setCell (by simp <;> omega) _)
set_option maxHeartbeats 2000000 in
theorem rhull_two (a b c d : Int) (w : World) (h1 : yB a b = true) (h2 : yB c d = false) :
    Calls Tryd.prog 16 #[.agg #[.int .i64 a, .int .i64 b], .agg #[.int .i64 c, .int .i64 d]] w fun e w' => e = .returned (.tuple #[.agg #[.int .i64 0, .int .i64 0], .int .i64 1]) ∧ Below w.heap.size w w' := by
  have H1 := hide h1
  have H2 := hide h2
  clear h1 h2
  go_enter Tryd.func16, Tryd.ntmps16
  go_wp2_with fail
  refine (rvalid_any _ _ _ true H1.out).mono ?_
  rintro e w1 ⟨rfl, hb1⟩
  obtain ⟨hc1, hf1⟩ := bcell hb1
  have z10 : w.heap.size < w1.heap.size := by have := hb1.size; simp at this; omega
  have z11 : w.heap.size + 1 < w1.heap.size := by have := hb1.size; simp at this; omega
  have z12 : w.heap.size + 1 + 1 < w1.heap.size := by have := hb1.size; simp at this; omega
  go_wp2_with fail
  refine (rvalid_any _ _ _ false H2.out).mono ?_
  rintro e w2 ⟨rfl, hb2⟩
  obtain ⟨hc2, hf2⟩ := bcell hb2
  have z20 : w.heap.size < w2.heap.size := by have := hb2.size; omega
  have z21 : w.heap.size + 1 < w2.heap.size := by have := hb2.size; omega
  have z22 : w.heap.size + 1 + 1 < w2.heap.size := by have := hb2.size; omega
  go_wp2
  refine bodyPost_ret (v := .tuple #[.agg #[.int .i64 0, .int .i64 0], .int .i64 1]) ?_ rfl ⟨rfl, ?_⟩
  · simp [results, Tryd.results16, go_sem, *]
    try omega
  · exact ((((((((Below.refl _ _).alloc (Nat.le_refl _) _).alloc (by simp) _).alloc (by simp <;> omega) _).trans (hb1.mono (by simp <;> omega))).trans (hb2.mono (by omega))).setCell (by simp <;> omega) _).setCell (by simp <;> omega) _)
set_option maxHeartbeats 2000000 in
theorem rhull_one (a b c d : Int) (w : World) (h1 : yB a b = false) :
    Calls Tryd.prog 16 #[.agg #[.int .i64 a, .int .i64 b], .agg #[.int .i64 c, .int .i64 d]] w fun e w' => e = .returned (.tuple #[.agg #[.int .i64 0, .int .i64 0], .int .i64 1]) ∧ Below w.heap.size w w' := by
  have H1 := hide h1
  clear h1
  go_enter Tryd.func16, Tryd.ntmps16
  go_wp2_with fail
  refine (rvalid_any _ _ _ false H1.out).mono ?_
  rintro e w1 ⟨rfl, hb1⟩
  obtain ⟨hc1, hf1⟩ := bcell hb1
  have z10 : w.heap.size < w1.heap.size := by have := hb1.size; simp at this; omega
  have z11 : w.heap.size + 1 < w1.heap.size := by have := hb1.size; simp at this; omega
  have z12 : w.heap.size + 1 + 1 < w1.heap.size := by have := hb1.size; simp at this; omega
  go_wp2
  refine bodyPost_ret (v := .tuple #[.agg #[.int .i64 0, .int .i64 0], .int .i64 1]) ?_ rfl ⟨rfl, ?_⟩
  · simp [results, Tryd.results16, go_sem, *]
    try omega
  · exact (((((((Below.refl _ _).alloc (Nat.le_refl _) _).alloc (by simp) _).alloc (by simp <;> omega) _).trans (hb1.mono (by simp <;> omega))).setCell (by simp <;> omega) _).setCell (by simp <;> omega) _)
end Go.Proofs.YtihadabaehcmiaaDoor
