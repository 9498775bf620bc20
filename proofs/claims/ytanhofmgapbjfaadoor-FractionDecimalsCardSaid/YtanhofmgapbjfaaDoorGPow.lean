/- The contract of the reference's power (of ten). -/
import Derived.Test.YtanhofmgapbjfaaDoorBaseI
import Derived.Deep.RegionLaw
import Derived.Deep.CutRange
namespace Go.Proofs.YtanhofmgapbjfaaDoor
open Go Go.RowKit

theorem tenB {k : Nat} (hk : k ≤ 20) : 10 ^ k < B9 ^ 3 := Nat.lt_of_le_of_lt (Nat.pow_le_pow_right (by decide) hk) (by decide)
theorem ht_nat {a i : Nat} (h : a < B9 ^ i) (hi : 1 ≤ i) : Ht ((a : Nat) : Rat) i := by
  have := Ht.int (k := (a : Int)) (i := i) (by simpa using h) hi
  rwa [Rat.intCast_natCast] at this
set_option maxHeartbeats 2000000 in
theorem gpow_f (k : Nat) (hk : k ≤ 20) (w : World) (r : Rat) (hr : ((10 ^ k : Nat) : Rat) = r) : Calls Tryd.prog 58 #[.int .i64 (k : Int)] w (GivesF r w) := by
  have HR := hide hr
  have Q1 := hide (show (((1 : Int) : Rat) / ((1 : Int) : Rat)) = ((10 ^ 0 : Nat) : Rat) from by decide +kernel)
  have Q2 := hide (show (((10 : Int) : Rat) / ((1 : Int) : Rat)) = 10 from by decide +kernel)
  have H10 := hide (show Ht 10 3 from by
    have : Ht ((10 : Nat) : Rat) 3 := ht_nat (by decide) (by omega)
    simpa using this)
  clear hr
  go_enter Tryd.func58, Tryd.ntmps58
  go_wp2_with fail
  generalize hW : w.alloc _ = W
  obtain ⟨hbW, bR, -⟩ := boxesA1 hW
  clear hW
  refine (gof_f 1 1 _ (by omega) (by omega) (by omega) (by omega) _ Q1.out).mono ?_
  rintro e w1 ⟨p1, A1, n1, c1, B1, m1, d1, rfl, h1, hb1⟩
  have hbA := hbW.trans (hb1.mono hbW.size)
  have bR := bR.below' hb1
  have HS := hide bR.lt
  clear hb1 hbW
  go_wp2_with fail
  generalize hW : w1.alloc _ = W1
  obtain ⟨hb, b3, -⟩ := boxesA1 hW
  clear hW
  have hbA := hbA.trans (hb.mono hbA.size)
  have bR := bR.below' hb
  have h1 := h1.below hb
  clear hb
  go_loopw [4] (fun t wr => ∃ i p A n c B m d, i ≤ k ∧ t = .int .i64 ((i : Nat) : Int) ∧ Below w.heap.size w wr ∧ Box wr w.heap.size #[.bool false, .slice none 0 0, .slice none 0 0] 26 ∧ Box wr w1.heap.size #[.bool p, .slice A n c, .slice B m d] 26 ∧ Fc wr p A n c B m d ((10 ^ i : Nat) : Rat)) (fun t _ => k - (intOf t).toNat)
  case atStart => exact ⟨0, _, _, _, _, _, _, _, by omega, rfl, hbA, bR, b3, h1⟩
  case round =>
    obtain ⟨i, p, A, n, c, B, m, d, hi, rfl, hbA, bR, b3, h1⟩ := hrel
    by_cases hlt : i < k
    · have HTi := hide (show Ht ((10 ^ i : Nat) : Rat) 3 from ht_nat (tenB (by omega)) (by omega))
      have HM := hide (show ((10 ^ i : Nat) : Rat) * 10 = ((10 ^ (i + 1) : Nat) : Rat) from by
        rw [Nat.pow_succ, Rat.natCast_mul]
        rfl)
      have KF : Hid (∀ w', Below wr.heap.size wr w' → w'.cell? ⟨w1.heap.size, 0, none⟩ = some (.bool p) ∧ w'.cell? ⟨w1.heap.size, 1, none⟩ = some (.slice A n c) ∧ w'.cell? ⟨w1.heap.size, 2, none⟩ = some (.slice B m d) ∧ w'.frozen? ⟨w1.heap.size, 0, none⟩ = false ∧ w'.frozen? ⟨w1.heap.size, 1, none⟩ = false ∧ w'.frozen? ⟨w1.heap.size, 2, none⟩ = false) := fun w' h =>
        ⟨(b3.below' h).at_ 0, (b3.below' h).at_ 1, (b3.below' h).at_ 2, (b3.below' h).frozen 0, (b3.below' h).frozen 1, (b3.below' h).frozen 2⟩
      go_wp2_with fail
      have P0 : Below wr.heap.size wr wr.drew := (Below.refl _ _).drew
      have hS := HS.out
      obtain ⟨k0, k1, k2, -⟩ := KF.out _ P0
      go_region_law (first
        | (go_simp; go_at_call 13; (with_reducible refine (gof_f 10 1 _ (by omega) (by omega) (by omega) (by omega) 10 Q2.out).mono ?_); rintro e w5 ⟨p5, A5, n5, c5, B5, m5, d5, rfl, h5, hb5⟩; have E5 := P0.trans (hb5.mono P0.size); obtain ⟨x0, x1, x2, -⟩ := KF.out _ E5)
        | (go_simp; go_at_call 25; (with_reducible refine (gmul_f (L := 3) (Fc.fr (h1.below E5) HTi.out) (h5.fr H10.out) (by omega) (by omega) _ HM.out).mono ?_); rintro e w6 ⟨p6, A6, n6, c6, B6, m6, d6, rfl, h6, hb6⟩; have E6 := E5.trans (hb6.mono E5.size); obtain ⟨y0, y1, y2, e0, e1, e2⟩ := KF.out _ E6))
      all_goals
        clear x0 x1 x2 y0 y1 y2 e0 e1 e2 k0 k1 k2
        have bR := bR.below' E6
        have b3 := b3.below' E6
        have hbA := hbA.trans (E6.mono hbA.size)
        clear E6 E5 P0 KF h1 h5 hb5 hb6
        generalize hW3 : ((w6.setCell _ _).setCell _ _).setCell _ _ = W3
        obtain ⟨b3, -, C3, B3, X3⟩ := put3 b3 hW3
        have bR := X3 _ _ _ (by omega) bR
        have h6 : Fc W3 p6 A6 n6 c6 B6 m6 d6 ((10 ^ (i + 1) : Nat) : Rat) := ⟨h6.1, C3 _ _ _ _ h6.2.1, C3 _ _ _ _ h6.2.2⟩
        have hbA := B3 _ _ hbA (by omega)
        clear hW3 C3 B3 X3
        go_wp2
        go_roundw
        case measure => simp [intOf]; omega
        case rel => exact ⟨i + 1, p6, A6, n6, c6, B6, m6, d6, by omega, by go_num, hbA, bR, b3, h6⟩
    · obtain rfl : i = k := by omega
      rw [HR.out] at h1
      have hS := HS.out
      have k0 : wr.cell? ⟨w1.heap.size, 0, none⟩ = some (.bool p) := b3.at_ 0
      have k1 : wr.cell? ⟨w1.heap.size, 1, none⟩ = some (.slice A n c) := b3.at_ 1
      have k2 : wr.cell? ⟨w1.heap.size, 2, none⟩ = some (.slice B m d) := b3.at_ 2
      have g0 : wr.cell? ⟨w.heap.size, 0, none⟩ = some (.bool false) := bR.at_ 0
      have g1 : wr.cell? ⟨w.heap.size, 1, none⟩ = some (.slice none 0 0) := bR.at_ 1
      have g2 : wr.cell? ⟨w.heap.size, 2, none⟩ = some (.slice none 0 0) := bR.at_ 2
      have f0 := bR.frozen 0
      have f1 := bR.frozen 1
      have f2 := bR.frozen 2
      go_wp2_with fail
      clear g0 g1 g2 f0 f1 f2 k0 k1 k2
      generalize hW3 : ((wr.setCell _ _).setCell _ _).setCell _ _ = W3
      obtain ⟨b3, -, C3, B3, -⟩ := put3 bR hW3
      clear hW3
      have k0 : W3.cell? ⟨w.heap.size, 0, none⟩ = some (.bool p) := b3.at_ 0
      have k1 : W3.cell? ⟨w.heap.size, 1, none⟩ = some (.slice A n c) := b3.at_ 1
      have k2 : W3.cell? ⟨w.heap.size, 2, none⟩ = some (.slice B m d) := b3.at_ 2
      refine bodyPost_ret (v := .agg #[.bool p, .slice A n c, .slice B m d]) (by simp [results, Tryd.results58, go_sem, k0, k1, k2]) rfl ?_
      exact ⟨_, _, _, _, _, _, _, rfl, ⟨h1.1, C3 _ _ _ _ h1.2.1, C3 _ _ _ _ h1.2.2⟩, B3 _ _ hbA (Nat.le_refl _)⟩
end Go.Proofs.YtanhofmgapbjfaaDoor
