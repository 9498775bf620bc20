/- The contracts of counting.within, product. -/
import Derived.Test.YtjmiaodjapclbaaDoorNatN
import Derived.Test.YtjmiaodjapclbaaDoorCCount
import Derived.Deep.RegionLaw
namespace Go.Proofs.YtjmiaodjapclbaaDoor
open Go Go.RowKit

theorem within_any (i l : Int) (w : World) (r : Bool) (hr : (0 ≤ i ∧ i ≤ l) ↔ r = true) : Calls Tryd.prog 40 #[.int .i64 i, .int .i64 l] w fun e w' => e = .returned (.bool r) ∧ w' = w := by
  have HR := hide hr
  clear hr
  by_cases h0 : 0 ≤ i
  · have d1 : decide (0 ≤ i) = true := by simp [h0]
    have d2 : decide (i ≤ l) = r := by
      have := HR.out
      rw [Bool.eq_iff_iff, decide_eq_true_iff, ← this]
      exact ⟨fun h => ⟨h0, h⟩, fun h => h.2⟩
    go_enter Tryd.func40, Tryd.ntmps40
    go_wp2
    go_ret
    exact ⟨rfl, rfl⟩
  · have d1 : decide (0 ≤ i) = false := by simp; omega
    obtain rfl : r = false := by
      rw [← Bool.not_eq_true, ← HR.out]
      exact fun h => h0 h.1
    go_enter Tryd.func40, Tryd.ntmps40
    go_wp2
    go_ret
    exact ⟨rfl, rfl⟩
theorem prodf_lt (low : Nat) : ∀ c, low + c ≤ 1000 → prodf low c < B9 ^ (c + 1)
  | 0, _ => by show 1 < B9 ^ 1; decide
  | c + 1, h => by
    have ih := prodf_lt low c (by omega)
    show prodf low c * (low + c) < B9 ^ (c + 1 + 1)
    rw [Nat.pow_succ]
    exact Nat.mul_lt_mul'' ih (by show low + c < 1000000000; omega)
set_option maxHeartbeats 4000000 in
theorem cprod_any (low c : Nat) (hl : 1 ≤ low) (hb : low + c ≤ 400) (high : Int) (hh : high + 1 = (low : Int) + c) (w : World) (T : Nat) (hT : prodf low c = T) :
    Calls Tryd.prog 41 #[.int .i64 (low : Int), .int .i64 high] w (GivesN T w) := by
  have HT := hide hT
  clear hT
  obtain ⟨M, hM⟩ : ∃ M, M = 402 := ⟨_, rfl⟩
  go_enter Tryd.func41, Tryd.ntmps41
  go_wp2_with fail
  generalize hW : w.alloc _ = W
  obtain ⟨hbW, bR, -⟩ := boxesA1 hW
  clear hW
  refine (of_one _).mono fun e w1 h => ?_
  obtain ⟨A1, n1, c1, rfl, h1, hb1⟩ := GivesN.cn h
  clear h
  have hbA := hbW.trans (hb1.mono hbW.size)
  have bR := bR.below' hb1
  have HS := hide bR.lt
  clear hb1 hbW
  go_wp2_with fail
  generalize hW : w1.alloc _ = W1
  obtain ⟨hb, b5, -⟩ := boxesA1 hW
  clear hW
  have hbA := hbA.trans (hb.mono hbA.size)
  have bR := bR.below' hb
  have h1 := h1.below hb
  clear hb
  go_loopw [6, 7, 8] (fun t6 t7 _ wr => ∃ i x q A n d, i ≤ c ∧ t6 = .int .u64 ((x : Nat) : Int) ∧ t7 = .int .i64 ((low + i : Nat) : Int) ∧ 0 < x ∧ x < 18446744073709551616 ∧ Hid (q * x = prodf low i) ∧ Below w.heap.size w wr ∧ Box wr w.heap.size #[.slice none 0 0] 25 ∧ Box wr w1.heap.size #[.slice A n d] 25 ∧ Cn wr A n d q) (fun _ t7 _ _ => low + c - (intOf t7).toNat)
  case atStart => exact ⟨0, 1, 1, _, _, _, by omega, rfl, by simp, by omega, by omega, hide rfl, hbA, bR, b5, h1⟩
  case round =>
    obtain ⟨i, x, q, A, n, d, hi, rfl, rfl, hx0, hx1, hqx, hbA, bR, b5, h1⟩ := hrel
    by_cases hlt : i < c
    · have d1 : decide (((low + i : Nat) : Int) ≤ high) = true := by simp; omega
      obtain ⟨f, hf⟩ : ∃ f, low + i = f := ⟨_, rfl⟩
      have hf0 : ¬ (f : Int) = 0 := by omega
      have hw : IntKind.u64.wrap (f : Int) = (f : Int) := IntWalk.u64_in _ (by omega)
      rw [hf] at d1
      rw [hf]
      have HF := hide hf
      have hfp : 0 < f := by omega
      have hfb : f ≤ 400 := by omega
      have HQL := hide (show q < B9 ^ M from by
        have h2 := prodf_lt low i (by omega)
        have h3 : q ≤ q * x := Nat.le_mul_of_pos_right q hx0
        rw [hqx.out] at h3
        exact upB (Nat.lt_of_le_of_lt h3 h2) (by omega))
      clear hf
      by_cases hov : 18446744073709551615 / f < x
      · have d2 : decide ((18446744073709551615 : Int) / (f : Int) < (x : Int)) = true := by
          simp
          have : ((18446744073709551615 / f : Nat) : Int) < (x : Int) := by omega
          rwa [Int.natCast_ediv] at this
        have HM := hide (show q * x * f = prodf low (i + 1) from by
          rw [hqx.out]
          show prodf low i * f = prodf low i * (low + i)
          rw [HF.out])
        have HX := hide hx1
        clear hov
        have KF : Hid (∀ w', Below wr.heap.size wr w' → w'.cell? ⟨w1.heap.size, 0, none⟩ = some (.slice A n d) ∧ w'.frozen? ⟨w1.heap.size, 0, none⟩ = false) := fun w' h => ⟨(b5.below' h).cell, (b5.below' h).frozen 0⟩
        go_wp2_with fail
        have P0 : Below wr.heap.size wr wr.drew := (Below.refl _ _).drew
        obtain ⟨k0, -⟩ := KF.out _ P0
        go_region_law (first
          | (go_simp; go_at_call 36; (with_reducible refine (of_any x _ HX.out).mono ?_); rintro e w5 ⟨A5, n5, c5, rfl, r5, l5, m5, hb5⟩; have h5 : Cn w5 A5 n5 c5 x := ⟨r5, l5, m5⟩; have E5 := P0.trans (hb5.mono P0.size); obtain ⟨x0, -⟩ := KF.out _ E5)
          | (go_simp; go_at_call 35; (with_reducible refine (mul_n (L := M) ((h1.below E5).nt HQL.out) ((h5.nt (L := 3) (Nat.lt_trans HX.out (by decide))).up (by omega)) (by omega) (q * x) rfl).mono ?_); rintro e w6 ⟨A6, n6, c6, rfl, r6, l6, m6, hb6⟩; have h6 : Cn w6 A6 n6 c6 (q * x) := ⟨r6, l6, m6⟩; have E6 := E5.trans (hb6.mono E5.size); obtain ⟨y0, e0⟩ := KF.out _ E6))
        all_goals
          have hS := HS.out
          have bR := bR.below' E6
          have b5 := b5.below' E6
          have hbA := hbA.trans (E6.mono hbA.size)
          have h6 := h6.far (i := 0) b5 noInt1 (.slice A6 n6 c6)
          have bR := bR.far (p := ⟨w1.heap.size, 0, none⟩) (by show w.heap.size ≠ w1.heap.size; omega) (.slice A6 n6 c6)
          have b5 := b5.put (.slice A6 n6 c6)
          have hbA : Below w.heap.size w (w6.setCell ⟨w1.heap.size, 0, none⟩ (.slice A6 n6 c6)) := hbA.setCell (by show w.heap.size ≤ w1.heap.size; omega) _
          clear E6 E5 P0 KF h1 h5 k0 x0 y0 e0 r5 l5 m5 r6 l6 m6 hb5 hb6
          generalize w6.setCell (⟨w1.heap.size, 0, none⟩ : Addr) (.slice A6 n6 c6) = w7 at *
          go_wp2
          go_roundw
          case measure => have := HF.out; simp [intOf]; omega
          case rel => exact ⟨i + 1, f, q * x, A6, n6, c6, by omega, by simp, by rw [← HF.out]; go_num, hfp, by omega, HM, hbA, bR, b5, h6⟩
      · have d2 : decide ((18446744073709551615 : Int) / (f : Int) < (x : Int)) = false := by
          simp
          have : (x : Int) ≤ ((18446744073709551615 / f : Nat) : Int) := by omega
          rwa [Int.natCast_ediv] at this
        have hxf : x * f ≤ 18446744073709551615 := by
          have h2 : x ≤ 18446744073709551615 / f := by omega
          exact (Nat.le_div_iff_mul_le hfp).1 h2
        have hwm : IntKind.u64.wrap ((x : Int) * (f : Int)) = ((x * f : Nat) : Int) := by
          rw [← Int.natCast_mul]
          exact IntWalk.u64_in _ (by omega)
        have HM := hide (show q * (x * f) = prodf low (i + 1) from by
          rw [← Nat.mul_assoc, hqx.out]
          show prodf low i * f = prodf low i * (low + i)
          rw [HF.out])
        have HXF := hide hxf
        clear hov hxf
        go_wp2_with fail
        go_roundw
        case measure => have := HF.out; simp [intOf]; omega
        case rel => exact ⟨i + 1, x * f, q, A, n, d, by omega, by simp, by rw [← HF.out]; go_num, Nat.mul_pos hx0 hfp, by have := HXF.out; omega, HM, hbA, bR, b5, h1⟩
    · obtain rfl : i = c := by omega
      have d1 : decide (((low + i : Nat) : Int) ≤ high) = false := by simp; omega
      have HQL := hide (show q < B9 ^ M from by
        have h2 := prodf_lt low i (by omega)
        have h3 : q ≤ q * x := Nat.le_mul_of_pos_right q hx0
        rw [hqx.out] at h3
        exact upB (Nat.lt_of_le_of_lt h3 h2) (by omega))
      have HX := hide hx1
      have HM := hide (show q * x = T from hqx.out.trans HT.out)
      have KF : Hid (∀ w', Below wr.heap.size wr w' → w'.cell? ⟨w1.heap.size, 0, none⟩ = some (.slice A n d) ∧ w'.cell? ⟨w.heap.size, 0, none⟩ = some (.slice none 0 0) ∧ w'.frozen? ⟨w.heap.size, 0, none⟩ = false) := fun w' h => ⟨(b5.below' h).cell, (bR.below' h).cell, (bR.below' h).frozen 0⟩
      go_wp2_with fail
      have P0 : Below wr.heap.size wr wr.drew := (Below.refl _ _).drew
      obtain ⟨k0, -, -⟩ := KF.out _ P0
      go_region_law (first
        | (go_simp; go_at_call 36; (with_reducible refine (of_any x _ HX.out).mono ?_); rintro e w5 ⟨A5, n5, c5, rfl, r5, l5, m5, hb5⟩; have h5 : Cn w5 A5 n5 c5 x := ⟨r5, l5, m5⟩; have E5 := P0.trans (hb5.mono P0.size); obtain ⟨x0, -, -⟩ := KF.out _ E5)
        | (go_simp; go_at_call 35; (with_reducible refine (mul_n (L := M) ((h1.below E5).nt HQL.out) ((h5.nt (L := 3) (Nat.lt_trans HX.out (by decide))).up (by omega)) (by omega) T HM.out).mono ?_); rintro e w6 ⟨A6, n6, c6, rfl, r6, l6, m6, hb6⟩; have h6 : Cn w6 A6 n6 c6 T := ⟨r6, l6, m6⟩; have E6 := E5.trans (hb6.mono E5.size); obtain ⟨y0, y1, e0⟩ := KF.out _ E6))
      all_goals
        have bR := bR.below' E6
        have hbA := hbA.trans (E6.mono hbA.size)
        have h6 := h6.far (i := 0) bR noInt1 (.slice A6 n6 c6)
        have b3 := bR.put (.slice A6 n6 c6)
        have hbZ : Below w.heap.size w (w6.setCell ⟨w.heap.size, 0, none⟩ (.slice A6 n6 c6)) := hbA.setCell (Nat.le_refl _) _
        clear E6 E5 P0 KF h1 h5 k0 x0 y0 y1 e0 r5 l5 m5 r6 l6 m6 hb5 hb6 bR hbA
        generalize w6.setCell (⟨w.heap.size, 0, none⟩ : Addr) (.slice A6 n6 c6) = w7 at *
        go_wp2
        have k0 := b3.cell
        refine bodyPost_ret (v := .agg #[.slice A6 n6 c6]) (by simp [results, Tryd.results41, go_sem, k0]) rfl ?_
        exact ⟨A6, n6, c6, rfl, h6.1, h6.2.1, h6.2.2, hbZ⟩
end Go.Proofs.YtjmiaodjapclbaaDoor
