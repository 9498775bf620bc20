/- The reference's functions of layer 3 where they have an error, or nothing to reckon. -/
import Derived.Test.YtjmiaodjapclbaaDoorHFall
namespace Go.Proofs.YtjmiaodjapclbaaDoor
open Go Go.RowKit

theorem hfall_err_0 (i j : Int) (w : World) (_h0 : i < 0) : Calls Tryd.prog 16 #[.int .i64 i, .int .i64 j] w (GivesNE 0 2 w) := by
  have d0 : decide (i < 0) = true := by simp; omega
  clear _h0
  go_enter Tryd.func16, Tryd.ntmps16
  go_wp2_with fail
  generalize hW : w.alloc _ = W
  obtain ⟨hbW, bR, -⟩ := boxesA1 hW
  clear hW
  have k0 := bR.cell
  refine bodyPost_ret (v := .tuple #[.agg #[.slice none 0 0], .int .i64 2]) (by simp [results, Tryd.results16, go_sem, k0]) rfl ?_
  exact ⟨none, 0, 0, rfl, RL.nil_, by omega, by simp [maxLen], hbW⟩
theorem hfall_err_1 (i j : Int) (w : World) (_h0 : ¬(i < 0)) (_h1 : 200 < i) : Calls Tryd.prog 16 #[.int .i64 i, .int .i64 j] w (GivesNE 0 2 w) := by
  have d0 : decide (i < 0) = false := by simp; omega
  have d1 : decide ((200 : Int) < i) = true := by simp; omega
  clear _h0 _h1
  go_enter Tryd.func16, Tryd.ntmps16
  go_wp2_with fail
  generalize hW : w.alloc _ = W
  obtain ⟨hbW, bR, -⟩ := boxesA1 hW
  clear hW
  have k0 := bR.cell
  refine bodyPost_ret (v := .tuple #[.agg #[.slice none 0 0], .int .i64 2]) (by simp [results, Tryd.results16, go_sem, k0]) rfl ?_
  exact ⟨none, 0, 0, rfl, RL.nil_, by omega, by simp [maxLen], hbW⟩
theorem hfall_err_2 (i j : Int) (w : World) (_h0 : ¬(i < 0)) (_h1 : ¬(200 < i)) (_h2 : j < 0) : Calls Tryd.prog 16 #[.int .i64 i, .int .i64 j] w (GivesNE 0 2 w) := by
  have d0 : decide (i < 0) = false := by simp; omega
  have d1 : decide ((200 : Int) < i) = false := by simp; omega
  have d2 : decide (j < 0) = true := by simp; omega
  clear _h0 _h1 _h2
  go_enter Tryd.func16, Tryd.ntmps16
  go_wp2_with fail
  generalize hW : w.alloc _ = W
  obtain ⟨hbW, bR, -⟩ := boxesA1 hW
  clear hW
  have k0 := bR.cell
  refine bodyPost_ret (v := .tuple #[.agg #[.slice none 0 0], .int .i64 2]) (by simp [results, Tryd.results16, go_sem, k0]) rfl ?_
  exact ⟨none, 0, 0, rfl, RL.nil_, by omega, by simp [maxLen], hbW⟩
theorem hfall_err_3 (i j : Int) (w : World) (_h0 : ¬(i < 0)) (_h1 : ¬(200 < i)) (_h2 : ¬(j < 0)) (_h3 : 200 < j) : Calls Tryd.prog 16 #[.int .i64 i, .int .i64 j] w (GivesNE 0 2 w) := by
  have d0 : decide (i < 0) = false := by simp; omega
  have d1 : decide ((200 : Int) < i) = false := by simp; omega
  have d2 : decide (j < 0) = false := by simp; omega
  have d3 : decide ((200 : Int) < j) = true := by simp; omega
  clear _h0 _h1 _h2 _h3
  go_enter Tryd.func16, Tryd.ntmps16
  go_wp2_with fail
  generalize hW : w.alloc _ = W
  obtain ⟨hbW, bR, -⟩ := boxesA1 hW
  clear hW
  have k0 := bR.cell
  refine bodyPost_ret (v := .tuple #[.agg #[.slice none 0 0], .int .i64 2]) (by simp [results, Tryd.results16, go_sem, k0]) rfl ?_
  exact ⟨none, 0, 0, rfl, RL.nil_, by omega, by simp [maxLen], hbW⟩
theorem hfall_err (i j : Int) (w : World) (h : ¬((0 ≤ i ∧ i ≤ 200) ∧ 0 ≤ j ∧ j ≤ 200)) : Calls Tryd.prog 16 #[.int .i64 i, .int .i64 j] w (GivesNE 0 2 w) := by
  by_cases h0 : i < 0
  · exact hfall_err_0 i j w h0
  · skip
    by_cases h1 : 200 < i
    · exact hfall_err_1 i j w h0 h1
    · skip
      by_cases h2 : j < 0
      · exact hfall_err_2 i j w h0 h1 h2
      · skip
        exact hfall_err_3 i j w h0 h1 h2 (by omega)
theorem hsur_err_0 (i j : Int) (w : World) (_h0 : i < 0) : Calls Tryd.prog 23 #[.int .i64 i, .int .i64 j] w (GivesNE 0 2 w) := by
  have d0 : decide (i < 0) = true := by simp; omega
  clear _h0
  go_enter Tryd.func23, Tryd.ntmps23
  go_wp2_with fail
  generalize hW : w.alloc _ = W
  obtain ⟨hbW, bR, -⟩ := boxesA1 hW
  clear hW
  have k0 := bR.cell
  refine bodyPost_ret (v := .tuple #[.agg #[.slice none 0 0], .int .i64 2]) (by simp [results, Tryd.results23, go_sem, k0]) rfl ?_
  exact ⟨none, 0, 0, rfl, RL.nil_, by omega, by simp [maxLen], hbW⟩
theorem hsur_err_1 (i j : Int) (w : World) (_h0 : ¬(i < 0)) (_h1 : 64 < i) : Calls Tryd.prog 23 #[.int .i64 i, .int .i64 j] w (GivesNE 0 2 w) := by
  have d0 : decide (i < 0) = false := by simp; omega
  have d1 : decide ((64 : Int) < i) = true := by simp; omega
  clear _h0 _h1
  go_enter Tryd.func23, Tryd.ntmps23
  go_wp2_with fail
  generalize hW : w.alloc _ = W
  obtain ⟨hbW, bR, -⟩ := boxesA1 hW
  clear hW
  have k0 := bR.cell
  refine bodyPost_ret (v := .tuple #[.agg #[.slice none 0 0], .int .i64 2]) (by simp [results, Tryd.results23, go_sem, k0]) rfl ?_
  exact ⟨none, 0, 0, rfl, RL.nil_, by omega, by simp [maxLen], hbW⟩
theorem hsur_err_2 (i j : Int) (w : World) (_h0 : ¬(i < 0)) (_h1 : ¬(64 < i)) (_h2 : j < 0) : Calls Tryd.prog 23 #[.int .i64 i, .int .i64 j] w (GivesNE 0 2 w) := by
  have d0 : decide (i < 0) = false := by simp; omega
  have d1 : decide ((64 : Int) < i) = false := by simp; omega
  have d2 : decide (j < 0) = true := by simp; omega
  clear _h0 _h1 _h2
  go_enter Tryd.func23, Tryd.ntmps23
  go_wp2_with fail
  generalize hW : w.alloc _ = W
  obtain ⟨hbW, bR, -⟩ := boxesA1 hW
  clear hW
  have k0 := bR.cell
  refine bodyPost_ret (v := .tuple #[.agg #[.slice none 0 0], .int .i64 2]) (by simp [results, Tryd.results23, go_sem, k0]) rfl ?_
  exact ⟨none, 0, 0, rfl, RL.nil_, by omega, by simp [maxLen], hbW⟩
theorem hsur_err_3 (i j : Int) (w : World) (_h0 : ¬(i < 0)) (_h1 : ¬(64 < i)) (_h2 : ¬(j < 0)) (_h3 : 64 < j) : Calls Tryd.prog 23 #[.int .i64 i, .int .i64 j] w (GivesNE 0 2 w) := by
  have d0 : decide (i < 0) = false := by simp; omega
  have d1 : decide ((64 : Int) < i) = false := by simp; omega
  have d2 : decide (j < 0) = false := by simp; omega
  have d3 : decide ((64 : Int) < j) = true := by simp; omega
  clear _h0 _h1 _h2 _h3
  go_enter Tryd.func23, Tryd.ntmps23
  go_wp2_with fail
  generalize hW : w.alloc _ = W
  obtain ⟨hbW, bR, -⟩ := boxesA1 hW
  clear hW
  have k0 := bR.cell
  refine bodyPost_ret (v := .tuple #[.agg #[.slice none 0 0], .int .i64 2]) (by simp [results, Tryd.results23, go_sem, k0]) rfl ?_
  exact ⟨none, 0, 0, rfl, RL.nil_, by omega, by simp [maxLen], hbW⟩
theorem hsur_err (i j : Int) (w : World) (h : ¬((0 ≤ i ∧ i ≤ 64) ∧ 0 ≤ j ∧ j ≤ 64)) : Calls Tryd.prog 23 #[.int .i64 i, .int .i64 j] w (GivesNE 0 2 w) := by
  by_cases h0 : i < 0
  · exact hsur_err_0 i j w h0
  · skip
    by_cases h1 : 64 < i
    · exact hsur_err_1 i j w h0 h1
    · skip
      by_cases h2 : j < 0
      · exact hsur_err_2 i j w h0 h1 h2
      · skip
        exact hsur_err_3 i j w h0 h1 h2 (by omega)
theorem hbin_err_0 (i j : Int) (w : World) (_h0 : i < 0) : Calls Tryd.prog 19 #[.int .i64 i, .int .i64 j] w (GivesNE 0 2 w) := by
  have d0 : decide (i < 0) = true := by simp; omega
  clear _h0
  go_enter Tryd.func19, Tryd.ntmps19
  go_wp2_with fail
  generalize hW : w.alloc _ = W
  obtain ⟨hbW, bR, -⟩ := boxesA1 hW
  clear hW
  have k0 := bR.cell
  refine bodyPost_ret (v := .tuple #[.agg #[.slice none 0 0], .int .i64 2]) (by simp [results, Tryd.results19, go_sem, k0]) rfl ?_
  exact ⟨none, 0, 0, rfl, RL.nil_, by omega, by simp [maxLen], hbW⟩
theorem hbin_err_1 (i j : Int) (w : World) (_h0 : ¬(i < 0)) (_h1 : 300 < i) : Calls Tryd.prog 19 #[.int .i64 i, .int .i64 j] w (GivesNE 0 2 w) := by
  have d0 : decide (i < 0) = false := by simp; omega
  have d1 : decide ((300 : Int) < i) = true := by simp; omega
  clear _h0 _h1
  go_enter Tryd.func19, Tryd.ntmps19
  go_wp2_with fail
  generalize hW : w.alloc _ = W
  obtain ⟨hbW, bR, -⟩ := boxesA1 hW
  clear hW
  have k0 := bR.cell
  refine bodyPost_ret (v := .tuple #[.agg #[.slice none 0 0], .int .i64 2]) (by simp [results, Tryd.results19, go_sem, k0]) rfl ?_
  exact ⟨none, 0, 0, rfl, RL.nil_, by omega, by simp [maxLen], hbW⟩
theorem hbin_err (i j : Int) (w : World) (h : ¬(0 ≤ i ∧ i ≤ 300)) : Calls Tryd.prog 19 #[.int .i64 i, .int .i64 j] w (GivesNE 0 2 w) := by
  by_cases h0 : i < 0
  · exact hbin_err_0 i j w h0
  · skip
    exact hbin_err_1 i j w h0 (by omega)
theorem hstir_err_0 (i j : Int) (w : World) (_h0 : i < 0) : Calls Tryd.prog 21 #[.int .i64 i, .int .i64 j] w (GivesNE 0 2 w) := by
  have d0 : decide (i < 0) = true := by simp; omega
  clear _h0
  go_enter Tryd.func21, Tryd.ntmps21
  go_wp2_with fail
  generalize hW : w.alloc _ = W
  obtain ⟨hbW, bR, -⟩ := boxesA1 hW
  clear hW
  have k0 := bR.cell
  refine bodyPost_ret (v := .tuple #[.agg #[.slice none 0 0], .int .i64 2]) (by simp [results, Tryd.results21, go_sem, k0]) rfl ?_
  exact ⟨none, 0, 0, rfl, RL.nil_, by omega, by simp [maxLen], hbW⟩
theorem hstir_err_1 (i j : Int) (w : World) (_h0 : ¬(i < 0)) (_h1 : 64 < i) : Calls Tryd.prog 21 #[.int .i64 i, .int .i64 j] w (GivesNE 0 2 w) := by
  have d0 : decide (i < 0) = false := by simp; omega
  have d1 : decide ((64 : Int) < i) = true := by simp; omega
  clear _h0 _h1
  go_enter Tryd.func21, Tryd.ntmps21
  go_wp2_with fail
  generalize hW : w.alloc _ = W
  obtain ⟨hbW, bR, -⟩ := boxesA1 hW
  clear hW
  have k0 := bR.cell
  refine bodyPost_ret (v := .tuple #[.agg #[.slice none 0 0], .int .i64 2]) (by simp [results, Tryd.results21, go_sem, k0]) rfl ?_
  exact ⟨none, 0, 0, rfl, RL.nil_, by omega, by simp [maxLen], hbW⟩
theorem hstir_err (i j : Int) (w : World) (h : ¬(0 ≤ i ∧ i ≤ 64)) : Calls Tryd.prog 21 #[.int .i64 i, .int .i64 j] w (GivesNE 0 2 w) := by
  by_cases h0 : i < 0
  · exact hstir_err_0 i j w h0
  · skip
    exact hstir_err_1 i j w h0 (by omega)
theorem hbell_err_0 (i : Int) (w : World) (_h0 : i < 0) : Calls Tryd.prog 25 #[.int .i64 i] w (GivesNE 0 2 w) := by
  have d0 : decide (i < 0) = true := by simp; omega
  clear _h0
  go_enter Tryd.func25, Tryd.ntmps25
  go_wp2_with fail
  generalize hW : w.alloc _ = W
  obtain ⟨hbW, bR, -⟩ := boxesA1 hW
  clear hW
  have k0 := bR.cell
  refine bodyPost_ret (v := .tuple #[.agg #[.slice none 0 0], .int .i64 2]) (by simp [results, Tryd.results25, go_sem, k0]) rfl ?_
  exact ⟨none, 0, 0, rfl, RL.nil_, by omega, by simp [maxLen], hbW⟩
theorem hbell_err_1 (i : Int) (w : World) (_h0 : ¬(i < 0)) (_h1 : 64 < i) : Calls Tryd.prog 25 #[.int .i64 i] w (GivesNE 0 2 w) := by
  have d0 : decide (i < 0) = false := by simp; omega
  have d1 : decide ((64 : Int) < i) = true := by simp; omega
  clear _h0 _h1
  go_enter Tryd.func25, Tryd.ntmps25
  go_wp2_with fail
  generalize hW : w.alloc _ = W
  obtain ⟨hbW, bR, -⟩ := boxesA1 hW
  clear hW
  have k0 := bR.cell
  refine bodyPost_ret (v := .tuple #[.agg #[.slice none 0 0], .int .i64 2]) (by simp [results, Tryd.results25, go_sem, k0]) rfl ?_
  exact ⟨none, 0, 0, rfl, RL.nil_, by omega, by simp [maxLen], hbW⟩
theorem hbell_err (i : Int) (w : World) (h : ¬(0 ≤ i ∧ i ≤ 64)) : Calls Tryd.prog 25 #[.int .i64 i] w (GivesNE 0 2 w) := by
  by_cases h0 : i < 0
  · exact hbell_err_0 i w h0
  · skip
    exact hbell_err_1 i w h0 (by omega)
theorem hbin_no_0 (n : Nat) (j : Int) (w : World) (hn : n ≤ 300) (_h0 : j < 0) : Calls Tryd.prog 19 #[.int .i64 (n : Int), .int .i64 j] w (GivesNE 0 0 w) := by
  have d0 : decide (((n : Nat) : Int) < 0) = false := by simp
  have d1 : decide ((300 : Int) < (n : Int)) = false := by simp; omega
  have d2 : decide (j < 0) = true := by simp; omega
  clear _h0
  go_enter Tryd.func19, Tryd.ntmps19
  go_wp2_with fail
  generalize hW : w.alloc _ = W
  obtain ⟨hbW, bR, -⟩ := boxesA1 hW
  clear hW
  have k0 := bR.cell
  refine bodyPost_ret (v := .tuple #[.agg #[.slice none 0 0], .int .i64 0]) (by simp [results, Tryd.results19, go_sem, k0]) rfl ?_
  exact ⟨none, 0, 0, rfl, RL.nil_, by omega, by simp [maxLen], hbW⟩
theorem hbin_no_1 (n : Nat) (j : Int) (w : World) (hn : n ≤ 300) (_h0 : ¬(j < 0)) (_h1 : (n : Int) < j) : Calls Tryd.prog 19 #[.int .i64 (n : Int), .int .i64 j] w (GivesNE 0 0 w) := by
  have d0 : decide (((n : Nat) : Int) < 0) = false := by simp
  have d1 : decide ((300 : Int) < (n : Int)) = false := by simp; omega
  have d2 : decide (j < 0) = false := by simp; omega
  have d3 : decide ((n : Int) < j) = true := by simp; omega
  clear _h0 _h1
  go_enter Tryd.func19, Tryd.ntmps19
  go_wp2_with fail
  generalize hW : w.alloc _ = W
  obtain ⟨hbW, bR, -⟩ := boxesA1 hW
  clear hW
  have k0 := bR.cell
  refine bodyPost_ret (v := .tuple #[.agg #[.slice none 0 0], .int .i64 0]) (by simp [results, Tryd.results19, go_sem, k0]) rfl ?_
  exact ⟨none, 0, 0, rfl, RL.nil_, by omega, by simp [maxLen], hbW⟩
theorem hbin_no (n : Nat) (j : Int) (w : World) (hn : n ≤ 300) (h : ¬(0 ≤ j ∧ j ≤ n)) : Calls Tryd.prog 19 #[.int .i64 (n : Int), .int .i64 j] w (GivesNE 0 0 w) := by
  by_cases h0 : j < 0
  · exact hbin_no_0 n j w hn h0
  · skip
    exact hbin_no_1 n j w hn h0 (by omega)
theorem hstir_no_0 (n : Nat) (j : Int) (w : World) (hn : n ≤ 64) (_h0 : j < 0) : Calls Tryd.prog 21 #[.int .i64 (n : Int), .int .i64 j] w (GivesNE 0 0 w) := by
  have d0 : decide (((n : Nat) : Int) < 0) = false := by simp
  have d1 : decide ((64 : Int) < (n : Int)) = false := by simp; omega
  have d2 : decide (j < 0) = true := by simp; omega
  clear _h0
  go_enter Tryd.func21, Tryd.ntmps21
  go_wp2_with fail
  generalize hW : w.alloc _ = W
  obtain ⟨hbW, bR, -⟩ := boxesA1 hW
  clear hW
  have k0 := bR.cell
  refine bodyPost_ret (v := .tuple #[.agg #[.slice none 0 0], .int .i64 0]) (by simp [results, Tryd.results21, go_sem, k0]) rfl ?_
  exact ⟨none, 0, 0, rfl, RL.nil_, by omega, by simp [maxLen], hbW⟩
theorem hstir_no_1 (n : Nat) (j : Int) (w : World) (hn : n ≤ 64) (_h0 : ¬(j < 0)) (_h1 : (n : Int) < j) : Calls Tryd.prog 21 #[.int .i64 (n : Int), .int .i64 j] w (GivesNE 0 0 w) := by
  have d0 : decide (((n : Nat) : Int) < 0) = false := by simp
  have d1 : decide ((64 : Int) < (n : Int)) = false := by simp; omega
  have d2 : decide (j < 0) = false := by simp; omega
  have d3 : decide ((n : Int) < j) = true := by simp; omega
  clear _h0 _h1
  go_enter Tryd.func21, Tryd.ntmps21
  go_wp2_with fail
  generalize hW : w.alloc _ = W
  obtain ⟨hbW, bR, -⟩ := boxesA1 hW
  clear hW
  have k0 := bR.cell
  refine bodyPost_ret (v := .tuple #[.agg #[.slice none 0 0], .int .i64 0]) (by simp [results, Tryd.results21, go_sem, k0]) rfl ?_
  exact ⟨none, 0, 0, rfl, RL.nil_, by omega, by simp [maxLen], hbW⟩
theorem hstir_no (n : Nat) (j : Int) (w : World) (hn : n ≤ 64) (h : ¬(0 ≤ j ∧ j ≤ n)) : Calls Tryd.prog 21 #[.int .i64 (n : Int), .int .i64 j] w (GivesNE 0 0 w) := by
  by_cases h0 : j < 0
  · exact hstir_no_0 n j w hn h0
  · skip
    exact hstir_no_1 n j w hn h0 (by omega)
theorem hfall_gt_0 (n k : Nat) (w : World) (hn : n ≤ 200) (hk : k ≤ 200) (_h0 : n < k) : Calls Tryd.prog 16 #[.int .i64 (n : Int), .int .i64 (k : Int)] w (GivesNE 0 0 w) := by
  have d0 : decide (((n : Nat) : Int) < 0) = false := by simp
  have d1 : decide ((200 : Int) < (n : Int)) = false := by simp; omega
  have d2 : decide (((k : Nat) : Int) < 0) = false := by simp
  have d3 : decide ((200 : Int) < (k : Int)) = false := by simp; omega
  have d4 : decide ((n : Int) < (k : Int)) = true := by simp; omega

  go_enter Tryd.func16, Tryd.ntmps16
  go_wp2_with fail
  generalize hW : w.alloc _ = W
  obtain ⟨hbW, bR, -⟩ := boxesA1 hW
  clear hW
  have k0 := bR.cell
  refine bodyPost_ret (v := .tuple #[.agg #[.slice none 0 0], .int .i64 0]) (by simp [results, Tryd.results16, go_sem, k0]) rfl ?_
  exact ⟨none, 0, 0, rfl, RL.nil_, by omega, by simp [maxLen], hbW⟩
theorem hfall_gt (n k : Nat) (w : World) (hn : n ≤ 200) (hk : k ≤ 200) (h : n < k) : Calls Tryd.prog 16 #[.int .i64 (n : Int), .int .i64 (k : Int)] w (GivesNE 0 0 w) := by
  exact hfall_gt_0 n k w hn hk  (by omega)
end Go.Proofs.YtjmiaodjapclbaaDoor
