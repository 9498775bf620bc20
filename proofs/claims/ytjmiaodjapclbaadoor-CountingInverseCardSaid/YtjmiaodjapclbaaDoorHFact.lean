/- The contracts of the reference's of, Factorial (layer 3). -/
import Derived.Test.YtjmiaodjapclbaaDoorCProd
import Derived.Test.YtjmiaodjapclbaaDoorRNat
import Derived.Test.YtjmiaodjapclbaaDoorROf
import Derived.Deep.RegionLaw
namespace Go.Proofs.YtjmiaodjapclbaaDoor
open Go Go.RowKit

theorem hof_any (k : Nat) (w : World) (hk : k < 9223372036854775808) : Calls Tryd.prog 42 #[.int .i64 (k : Int)] w (GivesN k w) := by
  obtain ⟨x, hx⟩ : ∃ x : Int, (k : Int) = x := ⟨_, rfl⟩
  have HX := hide hx
  have h1 : 0 ≤ x := by omega
  have h2 : x < 9223372036854775808 := by omega
  rw [hx]
  clear hx
  have hw : IntKind.u64.wrap x = x := IntWalk.u64_in (by omega) (by omega)
  go_enter Tryd.func42, Tryd.ntmps42
  go_wp2_with fail
  generalize hW : w.alloc _ = W
  obtain ⟨hbW, b0, -⟩ := boxes1 hW
  clear hW
  rw [← HX.out]
  refine (rof_any k _ (by omega)).mono ?_
  rintro e w1 ⟨A1, n1, c1, rfl, h1, hn1, hc1, hb1⟩
  have hbA := hbW.trans (hb1.mono hbW.size)
  have b0 := b0.below' hb1
  have g0 := b0.cell
  have f0 := b0.frozen 0
  go_wp2
  refine bodyPost_ret (v := .agg #[.slice A1 n1 c1]) (by simp [results, Tryd.results42, go_sem, (b0.put (.slice A1 n1 c1)).cell]) rfl ?_
  exact ⟨A1, n1, c1, rfl, h1.put (i := 0) b0 _, hn1, hc1, hbA.setCell (Nat.le_refl _) _⟩
theorem prodf_two (n : Nat) : prodf 2 (n - 1) = prodf 1 n := by
  cases n with
  | zero => rfl
  | succ m => rw [Nat.add_sub_cancel, prodf_front, Nat.one_mul]
theorem hfact_err (i : Int) (w : World) (h : ¬(0 ≤ i ∧ i ≤ 200)) : Calls Tryd.prog 14 #[.int .i64 i] w (GivesNE 0 2 w) := by
  by_cases h0 : i < 0
  · have d1 : decide (i < 0) = true := by simp [h0]
    clear h h0
    go_enter Tryd.func14, Tryd.ntmps14
    go_wp2_with fail
    generalize hW : w.alloc _ = W
    obtain ⟨hbW, bR, -⟩ := boxesA1 hW
    clear hW
    have k0 := bR.cell
    refine bodyPost_ret (v := .tuple #[.agg #[.slice none 0 0], .int .i64 2]) (by simp [results, Tryd.results14, go_sem, k0]) rfl ?_
    exact ⟨none, 0, 0, rfl, RL.nil_, by omega, by simp [maxLen], hbW⟩
  · have d1 : decide (i < 0) = false := by simp; omega
    have d2 : decide (200 < i) = true := by simp; omega
    clear h h0
    go_enter Tryd.func14, Tryd.ntmps14
    go_wp2_with fail
    generalize hW : w.alloc _ = W
    obtain ⟨hbW, bR, -⟩ := boxesA1 hW
    clear hW
    have k0 := bR.cell
    refine bodyPost_ret (v := .tuple #[.agg #[.slice none 0 0], .int .i64 2]) (by simp [results, Tryd.results14, go_sem, k0]) rfl ?_
    exact ⟨none, 0, 0, rfl, RL.nil_, by omega, by simp [maxLen], hbW⟩
set_option maxHeartbeats 2000000 in
theorem hfact_ok (n : Nat) (hn : n ≤ 200) (w : World) (T : Nat) (hT : prodf 1 n = T) : Calls Tryd.prog 14 #[.int .i64 (n : Int)] w (GivesNE T 0 w) := by
  have HT := hide hT
  have d1 : decide ((n : Int) < 0) = false := by simp
  have d2 : decide ((200 : Int) < (n : Int)) = false := by simp; omega
  clear hT
  obtain ⟨M, hM⟩ : ∃ M, M = 402 := ⟨_, rfl⟩
  go_enter Tryd.func14, Tryd.ntmps14
  go_wp2_with fail
  generalize hW : w.alloc _ = W
  obtain ⟨hbW, bR, -⟩ := boxesA1 hW
  clear hW
  refine (hof_any 1 _ (by omega)).mono fun e w1 h => ?_
  obtain ⟨A1, n1, c1, rfl, h1, hb1⟩ := GivesN.cn h
  clear h
  have hbA := hbW.trans (hb1.mono hbW.size)
  have bR := bR.below' hb1
  have HS := hide bR.lt
  clear hb1 hbW
  go_wp2_with fail
  generalize hW : w1.alloc _ = W1
  obtain ⟨hb, b4, -⟩ := boxesA1 hW
  clear hW
  have hbA := hbA.trans (hb.mono hbA.size)
  have bR := bR.below' hb
  have h1 := h1.below hb
  clear hb
  go_loopw [5] (fun t wr => ∃ j A m d, j ≤ n - 1 ∧ t = .int .i64 ((j + 2 : Nat) : Int) ∧ Below w.heap.size w wr ∧ Box wr w.heap.size #[.slice none 0 0] 25 ∧ Box wr w1.heap.size #[.slice A m d] 25 ∧ Cn wr A m d (prodf 2 j)) (fun t _ => n + 2 - (intOf t).toNat)
  case atStart => exact ⟨0, _, _, _, by omega, rfl, hbA, bR, b4, h1⟩
  case round =>
    obtain ⟨j, A, m, d, hj, rfl, hbA, bR, b4, h1⟩ := hrel
    by_cases hlt : j + 2 ≤ n
    · have d3 : decide (((j + 2 : Nat) : Int) ≤ (n : Int)) = true := by simp; omega
      have HQL := hide (show prodf 2 j < B9 ^ M from upB (prodf_lt 2 j (by omega)) (by omega))
      have HM := hide (show prodf 2 j * (j + 2) = prodf 2 (j + 1) from by
        show _ = prodf 2 j * (2 + j)
        rw [Nat.add_comm])
      obtain ⟨f, hf⟩ : ∃ f, j + 2 = f := ⟨_, rfl⟩
      rw [hf] at d3 HM
      rw [hf]
      have HF := hide hf
      have hfb : f ≤ 200 := by omega
      have d4 : f ≤ n := by omega
      clear hf
      have KF : Hid (∀ w', Below wr.heap.size wr w' → w'.cell? ⟨w1.heap.size, 0, none⟩ = some (.slice A m d) ∧ w'.frozen? ⟨w1.heap.size, 0, none⟩ = false) := fun w' h => ⟨(b4.below' h).cell, (b4.below' h).frozen 0⟩
      go_wp2_with fail
      have P0 : Below wr.heap.size wr wr.drew := (Below.refl _ _).drew
      obtain ⟨k0, -⟩ := KF.out _ P0
      go_region_law (first
        | (go_simp; go_at_call 42; (with_reducible refine (hof_any f _ (by omega)).mono ?_); rintro e w5 ⟨A5, n5, c5, rfl, r5, l5, m5, hb5⟩; have h5 : Cn w5 A5 n5 c5 f := ⟨r5, l5, m5⟩; have E5 := P0.trans (hb5.mono P0.size); obtain ⟨x0, -⟩ := KF.out _ E5)
        | (go_simp; go_at_call 43; (with_reducible refine (rmul_n (L := M) ((h1.below E5).nt HQL.out) ((h5.nt (L := 1) (Nat.lt_of_le_of_lt hfb (by decide))).up (by omega)) (by omega) _ HM.out).mono ?_); rintro e w6 ⟨A6, n6, c6, rfl, r6, l6, m6, hb6⟩; have h6 : Cn w6 A6 n6 c6 (prodf 2 (j + 1)) := ⟨r6, l6, m6⟩; have E6 := E5.trans (hb6.mono E5.size); obtain ⟨y0, e0⟩ := KF.out _ E6))
      all_goals
        have hS := HS.out
        have bR := bR.below' E6
        have b4 := b4.below' E6
        have hbA := hbA.trans (E6.mono hbA.size)
        have h6 := h6.far (i := 0) b4 noInt1 (.slice A6 n6 c6)
        have bR := bR.far (p := ⟨w1.heap.size, 0, none⟩) (by show w.heap.size ≠ w1.heap.size; omega) (.slice A6 n6 c6)
        have b4 := b4.put (.slice A6 n6 c6)
        have hbA : Below w.heap.size w (w6.setCell ⟨w1.heap.size, 0, none⟩ (.slice A6 n6 c6)) := hbA.setCell (by show w.heap.size ≤ w1.heap.size; omega) _
        clear E6 E5 P0 KF h1 h5 k0 x0 y0 e0 r5 l5 m5 r6 l6 m6 hb5 hb6
        generalize w6.setCell (⟨w1.heap.size, 0, none⟩ : Addr) (.slice A6 n6 c6) = w7 at *
        go_wp2
        go_roundw
        case measure => have := HF.out; simp [intOf]; omega
        case rel => exact ⟨j + 1, A6, n6, c6, by have := HF.out; omega, by rw [← HF.out]; go_num, hbA, bR, b4, h6⟩
    · have d3 : decide (((j + 2 : Nat) : Int) ≤ (n : Int)) = false := by simp; omega
      obtain rfl : j = n - 1 := by omega
      rw [prodf_two, HT.out] at h1
      have hS := HS.out
      have k0 := b4.cell
      have g0 := bR.cell
      have f0 := bR.frozen 0
      have h3 := h1.far (i := 0) bR noInt1 (.slice A m d)
      have b3 := bR.put (.slice A m d)
      go_wp2_with fail
      have k1 := b3.cell
      refine bodyPost_ret (v := .tuple #[.agg #[.slice A m d], .int .i64 0]) (by simp [results, Tryd.results14, go_sem, k1]) rfl ?_
      exact ⟨A, m, d, rfl, h3.1, h3.2.1, h3.2.2, hbA.setCell (Nat.le_refl _) _⟩
end Go.Proofs.YtjmiaodjapclbaaDoor
