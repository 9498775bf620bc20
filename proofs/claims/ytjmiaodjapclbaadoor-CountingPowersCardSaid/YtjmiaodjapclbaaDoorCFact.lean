/- The contracts of counting.Factorial, Falling. -/
import Derived.Test.YtjmiaodjapclbaaDoorCProd
namespace Go.Proofs.YtjmiaodjapclbaaDoor
open Go Go.RowKit

section
variable (w : World)
theorem cfact_err (i : Int) (h : ¬(0 ≤ i ∧ i ≤ 200)) : Calls Tryd.prog 13 #[.int .i64 i] w (GivesNE 0 2 w) := by
  have H := hide h
  clear h
  go_enter Tryd.func13, Tryd.ntmps13
  go_wp2_with fail
  generalize hW : w.alloc _ = W
  obtain ⟨hbW, bR, -⟩ := boxesA1 hW
  clear hW
  refine (within_any i 200 _ false ⟨fun h => absurd h H.out, fun h => by cases h⟩).mono ?_
  rintro e w1 ⟨rfl, rfl⟩
  have g0 := bR.cell
  have f0 := bR.frozen 0
  have b3 := bR.put (.slice none 0 0)
  go_wp2_with fail
  have k0 := b3.cell
  refine bodyPost_ret (v := .tuple #[.agg #[.slice none 0 0], .int .i64 2]) (by simp [results, Tryd.results13, go_sem, k0]) rfl ?_
  exact ⟨none, 0, 0, rfl, RL.nil_, by omega, by simp [maxLen], hbW.setCell (Nat.le_refl _) _⟩
theorem cfact_ok (n : Nat) (h : n ≤ 200) (T : Nat) (hT : prodf 1 n = T) : Calls Tryd.prog 13 #[.int .i64 (n : Int)] w (GivesNE T 0 w) := by
  have HT := hide hT
  clear hT
  go_enter Tryd.func13, Tryd.ntmps13
  go_wp2_with fail
  generalize hW : w.alloc _ = W
  obtain ⟨hbW, bR, -⟩ := boxesA1 hW
  clear hW
  refine (within_any n 200 _ true ⟨fun _ => rfl, fun _ => ⟨by omega, by omega⟩⟩).mono ?_
  rintro e w1 ⟨rfl, rfl⟩
  go_wp2_with fail
  refine (cprod_any 1 n (by omega) (by omega) n (by omega) _ T HT.out).mono fun e w2 h => ?_
  obtain ⟨A2, n2, c2, rfl, h2, hb2⟩ := GivesN.cn h
  clear h
  have hbA := hbW.trans (hb2.mono hbW.size)
  have bR := bR.below' hb2
  have g0 := bR.cell
  have f0 := bR.frozen 0
  have h3 := h2.far (i := 0) bR noInt1 (.slice A2 n2 c2)
  have b3 := bR.put (.slice A2 n2 c2)
  go_wp2_with fail
  have k0 := b3.cell
  refine bodyPost_ret (v := .tuple #[.agg #[.slice A2 n2 c2], .int .i64 0]) (by simp [results, Tryd.results13, go_sem, k0]) rfl ?_
  exact ⟨A2, n2, c2, rfl, h3.1, h3.2.1, h3.2.2, hbA.setCell (Nat.le_refl _) _⟩
theorem cfall_err (i j : Int) (h : ¬((0 ≤ i ∧ i ≤ 200) ∧ 0 ≤ j ∧ j ≤ 200)) : Calls Tryd.prog 15 #[.int .i64 i, .int .i64 j] w (GivesNE 0 2 w) := by
  have H := hide h
  clear h
  go_enter Tryd.func15, Tryd.ntmps15
  go_wp2_with fail
  generalize hW : w.alloc _ = W
  obtain ⟨hbW, bR, -⟩ := boxesA1 hW
  clear hW
  have g0 := bR.cell
  have f0 := bR.frozen 0
  have b3 := bR.put (.slice none 0 0)
  by_cases hi : 0 ≤ i ∧ i ≤ 200
  · have H2 := hide (show ¬(0 ≤ j ∧ j ≤ 200) from fun h => H.out ⟨hi, h⟩)
    have H1 := hide hi
    clear hi
    refine (within_any i 200 _ true ⟨fun _ => rfl, fun _ => H1.out⟩).mono ?_
    rintro e w1 ⟨rfl, rfl⟩
    go_wp2_with fail
    refine (within_any j 200 _ false ⟨fun h => absurd h H2.out, fun h => by cases h⟩).mono ?_
    rintro e w2 ⟨rfl, rfl⟩
    go_wp2_with fail
    have k0 := b3.cell
    refine bodyPost_ret (v := .tuple #[.agg #[.slice none 0 0], .int .i64 2]) (by simp [results, Tryd.results15, go_sem, k0]) rfl ?_
    exact ⟨none, 0, 0, rfl, RL.nil_, by omega, by simp [maxLen], hbW.setCell (Nat.le_refl _) _⟩
  · have H1 := hide hi
    clear hi
    refine (within_any i 200 _ false ⟨fun h => absurd h H1.out, fun h => by cases h⟩).mono ?_
    rintro e w1 ⟨rfl, rfl⟩
    go_wp2_with fail
    have k0 := b3.cell
    refine bodyPost_ret (v := .tuple #[.agg #[.slice none 0 0], .int .i64 2]) (by simp [results, Tryd.results15, go_sem, k0]) rfl ?_
    exact ⟨none, 0, 0, rfl, RL.nil_, by omega, by simp [maxLen], hbW.setCell (Nat.le_refl _) _⟩
theorem cfall_ok (n k : Nat) (hn : n ≤ 200) (hk : k ≤ 200) (T : Nat) (hT : falr n k = T) : Calls Tryd.prog 15 #[.int .i64 (n : Int), .int .i64 (k : Int)] w (GivesNE T 0 w) := by
  have HT := hide hT
  clear hT
  go_enter Tryd.func15, Tryd.ntmps15
  go_wp2_with fail
  generalize hW : w.alloc _ = W
  obtain ⟨hbW, bR, -⟩ := boxesA1 hW
  clear hW
  refine (within_any n 200 _ true ⟨fun _ => rfl, fun _ => ⟨by omega, by omega⟩⟩).mono ?_
  rintro e w1 ⟨rfl, rfl⟩
  go_wp2_with fail
  refine (within_any k 200 _ true ⟨fun _ => rfl, fun _ => ⟨by omega, by omega⟩⟩).mono ?_
  rintro e w2 ⟨rfl, rfl⟩
  by_cases hkn : n < k
  · have d1 : decide ((n : Int) < (k : Int)) = true := by simp; omega
    have HT := hide ((falr_zero hkn).symm.trans HT.out)
    go_wp2_with fail
    refine (of_zero _).mono fun e w3 h => ?_
    obtain ⟨A2, n2, c2, rfl, h2, hb2⟩ := GivesN.cn h
    clear h
    have hbA := hbW.trans (hb2.mono hbW.size)
    have bR := bR.below' hb2
    have g0 := bR.cell
    have f0 := bR.frozen 0
    have h3 := h2.far (i := 0) bR noInt1 (.slice A2 n2 c2)
    have b3 := bR.put (.slice A2 n2 c2)
    go_wp2_with fail
    have k0 := b3.cell
    rw [← HT.out]
    refine bodyPost_ret (v := .tuple #[.agg #[.slice A2 n2 c2], .int .i64 0]) (by simp [results, Tryd.results15, go_sem, k0]) rfl ?_
    exact ⟨A2, n2, c2, rfl, h3.1, h3.2.1, h3.2.2, hbA.setCell (Nat.le_refl _) _⟩
  · have d1 : decide ((n : Int) < (k : Int)) = false := by simp; omega
    have HP := hide (show prodf (n - k + 1) k = T from by rw [← falr_prodf k n (by omega)]; exact HT.out)
    have hlo : (n : Int) - (k : Int) + 1 = ((n - k + 1 : Nat) : Int) := by omega
    obtain ⟨lo, hl⟩ : ∃ lo, n - k + 1 = lo := ⟨_, rfl⟩
    rw [hl] at hlo HP
    have HL := hide (show 1 ≤ lo ∧ lo + k = n + 1 from by omega)
    clear hl
    go_wp2_with fail
    refine (cprod_any lo k HL.out.1 (by have := HL.out; omega) n (by have := HL.out; omega) _ T HP.out).mono fun e w3 h => ?_
    obtain ⟨A2, n2, c2, rfl, h2, hb2⟩ := GivesN.cn h
    clear h
    have hbA := hbW.trans (hb2.mono hbW.size)
    have bR := bR.below' hb2
    have g0 := bR.cell
    have f0 := bR.frozen 0
    have h3 := h2.far (i := 0) bR noInt1 (.slice A2 n2 c2)
    have b3 := bR.put (.slice A2 n2 c2)
    go_wp2_with fail
    have k0 := b3.cell
    refine bodyPost_ret (v := .tuple #[.agg #[.slice A2 n2 c2], .int .i64 0]) (by simp [results, Tryd.results15, go_sem, k0]) rfl ?_
    exact ⟨A2, n2, c2, rfl, h3.1, h3.2.1, h3.2.2, hbA.setCell (Nat.le_refl _) _⟩
end
end Go.Proofs.YtjmiaodjapclbaaDoor
