/- The contract of the reference's Falling (layer 3), k at most n. -/
import Derived.Test.YtjmiaodjapclbaaDoorHFact
namespace Go.Proofs.YtjmiaodjapclbaaDoor
open Go Go.RowKit

set_option maxHeartbeats 2000000 in
theorem hfall_ok (n k : Nat) (hn : n ≤ 200) (hk : k ≤ 200) (hkn : k ≤ n) (w : World) (T : Nat) (hT : falr n k = T) : Calls Tryd.prog 16 #[.int .i64 (n : Int), .int .i64 (k : Int)] w (GivesNE T 0 w) := by
  have HT := hide hT
  have d1 : decide ((n : Int) < 0) = false := by simp
  have d2 : decide ((200 : Int) < (n : Int)) = false := by simp; omega
  have d3 : decide ((k : Int) < 0) = false := by simp
  have d4 : decide ((200 : Int) < (k : Int)) = false := by simp; omega
  have d5 : decide ((n : Int) < (k : Int)) = false := by simp; omega
  have d6 : ¬ n < k := by omega
  clear hT
  obtain ⟨M, hM⟩ : ∃ M, M = 402 := ⟨_, rfl⟩
  go_enter Tryd.func16, Tryd.ntmps16
  go_wp2_with fail
  generalize hW : w.alloc _ = W
  obtain ⟨hbW, bR, -⟩ := boxesA1 hW
  clear hW
  refine (hof_any 1 _ (by omega)).mono fun e w1 h => ?_
  obtain ⟨A1, n1, c1, rfl, h1, hb1⟩ := GivesN.cn h
  clear h
  have hbA := hbW.trans (hb1.mono hbW.size)
  have bR := bR.below' hb1
  have HS := hide bR.lt
  clear hb1 hbW
  go_wp2_with fail
  generalize hW : w1.alloc _ = W1
  obtain ⟨hb, b4, -⟩ := boxesA1 hW
  clear hW
  have hbA := hbA.trans (hb.mono hbA.size)
  have bR := bR.below' hb
  have h1 := h1.below hb
  clear hb
  go_loopw [7] (fun t wr => ∃ j A m d, j ≤ k ∧ t = .int .i64 ((j : Nat) : Int) ∧ Below w.heap.size w wr ∧ Box wr w.heap.size #[.slice none 0 0] 25 ∧ Box wr w1.heap.size #[.slice A m d] 25 ∧ Cn wr A m d (falr n j)) (fun t _ => k - (intOf t).toNat)
  case atStart => exact ⟨0, _, _, _, by omega, rfl, hbA, bR, b4, h1⟩
  case round =>
    obtain ⟨j, A, m, d, hj, rfl, hbA, bR, b4, h1⟩ := hrel
    by_cases hlt : j < k
    · have HQL := hide (show falr n j < B9 ^ M from by
        rw [falr_prodf j n (by omega)]
        exact upB (prodf_lt _ j (by omega)) (by omega))
      have hi : (n : Int) - (j : Int) = ((n - j : Nat) : Int) := by omega
      obtain ⟨f, hf⟩ : ∃ f, n - j = f := ⟨_, rfl⟩
      have HM := hide (show falr n j * f = falr n (j + 1) from by rw [← hf]; rfl)
      rw [hf] at hi
      have hfb : f ≤ 200 := by omega
      have hw : IntKind.i64.wrap (f : Int) = (f : Int) := IntWalk.i64_in _ (by omega)
      clear hf
      have KF : Hid (∀ w', Below wr.heap.size wr w' → w'.cell? ⟨w1.heap.size, 0, none⟩ = some (.slice A m d) ∧ w'.frozen? ⟨w1.heap.size, 0, none⟩ = false) := fun w' h => ⟨(b4.below' h).cell, (b4.below' h).frozen 0⟩
      go_wp2_with fail
      have P0 : Below wr.heap.size wr wr.drew := (Below.refl _ _).drew
      obtain ⟨k0, -⟩ := KF.out _ P0
      go_region_law (first
        | (go_simp; go_at_call 42; (with_reducible refine (hof_any f _ (by omega)).mono ?_); rintro e w5 ⟨A5, n5, c5, rfl, r5, l5, m5, hb5⟩; have h5 : Cn w5 A5 n5 c5 f := ⟨r5, l5, m5⟩; have E5 := P0.trans (hb5.mono P0.size); obtain ⟨x0, -⟩ := KF.out _ E5)
        | (go_simp; go_at_call 43; (with_reducible refine (rmul_n (L := M) ((h1.below E5).nt HQL.out) ((h5.nt (L := 1) (Nat.lt_of_le_of_lt hfb (by decide))).up (by omega)) (by omega) _ HM.out).mono ?_); rintro e w6 ⟨A6, n6, c6, rfl, r6, l6, m6, hb6⟩; have h6 : Cn w6 A6 n6 c6 (falr n (j + 1)) := ⟨r6, l6, m6⟩; have E6 := E5.trans (hb6.mono E5.size); obtain ⟨y0, e0⟩ := KF.out _ E6))
      all_goals
        have hS := HS.out
        have bR := bR.below' E6
        have b4 := b4.below' E6
        have hbA := hbA.trans (E6.mono hbA.size)
        have h6 := h6.far (i := 0) b4 noInt1 (.slice A6 n6 c6)
        have bR := bR.far (p := ⟨w1.heap.size, 0, none⟩) (by show w.heap.size ≠ w1.heap.size; omega) (.slice A6 n6 c6)
        have b4 := b4.put (.slice A6 n6 c6)
        have hbA : Below w.heap.size w (w6.setCell ⟨w1.heap.size, 0, none⟩ (.slice A6 n6 c6)) := hbA.setCell (by show w.heap.size ≤ w1.heap.size; omega) _
        clear E6 E5 P0 KF h1 h5 k0 x0 y0 e0 r5 l5 m5 r6 l6 m6 hb5 hb6
        generalize w6.setCell (⟨w1.heap.size, 0, none⟩ : Addr) (.slice A6 n6 c6) = w7 at *
        go_wp2
        go_roundw
        case measure => simp [intOf]; omega
        case rel => exact ⟨j + 1, A6, n6, c6, by omega, by go_num, hbA, bR, b4, h6⟩
    · obtain rfl : j = k := by omega
      rw [HT.out] at h1
      have hS := HS.out
      have k0 := b4.cell
      have g0 := bR.cell
      have f0 := bR.frozen 0
      have h3 := h1.far (i := 0) bR noInt1 (.slice A m d)
      have b3 := bR.put (.slice A m d)
      go_wp2_with fail
      have k1 := b3.cell
      refine bodyPost_ret (v := .tuple #[.agg #[.slice A m d], .int .i64 0]) (by simp [results, Tryd.results16, go_sem, k1]) rfl ?_
      exact ⟨A, m, d, rfl, h3.1, h3.2.1, h3.2.2, hbA.setCell (Nat.le_refl _) _⟩
end Go.Proofs.YtjmiaodjapclbaaDoor
