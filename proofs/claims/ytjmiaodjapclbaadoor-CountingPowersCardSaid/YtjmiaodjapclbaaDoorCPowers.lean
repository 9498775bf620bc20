/- CountingPowers: the walk -/
import Derived.Test.YtjmiaodjapclbaaDoorCLaw
import Derived.Test.YtjmiaodjapclbaaDoorCMod
import Derived.Test.YtjmiaodjapclbaaDoorCSteps
import Derived.Test.YtjmiaodjapclbaaDoorCFact
import Derived.Test.YtjmiaodjapclbaaDoorPow
import Derived.Deep.RegionLaw
namespace Go.Proofs.YtjmiaodjapclbaaDoor
open Go Go.RowKit

theorem cpow {w : World} {A : Option Addr} {n c u N : Nat} (h : Cn w A n c u) (hu : u ≤ 39) (hN : N ≤ 24) : Calls Tryd.prog 37 #[.agg #[.slice A n c], .int .i64 (N : Int)] w (GivesNE (u ^ N) 0 w) := by
  obtain ⟨K, hK⟩ : ∃ K, K = 4000 := ⟨_, rfl⟩
  have h2 : ∀ v < 40, nd v ≤ 2 := by decide +kernel
  have h3 : nd u * N ≤ 2 * 24 := Nat.mul_le_mul (h2 u (by omega)) hN
  have hl : n ≤ 1 := len_le h.1.len (Nat.lt_of_le_of_lt hu (by decide))
  exact pow_ok A n c _ N w h.1 h.2.1 h.2.2 (by omega) (dig_u32 u) (by omega) (by rw [vd]; omega) _ (by rw [vd]) K hK (fun _ => by
    rw [vd]
    have : 10 ^ 2 ≤ 10 ^ K := Nat.pow_le_pow_right (by decide) (by omega)
    omega)
set_option maxHeartbeats 16000000 in
set_option maxRecDepth 100000 in
theorem cpowers_ok (i j : Int) (x n : Nat) (w : World) (HA : Hid (∀ w, Tab w → Calls Tryd.prog 12 #[] w fun e w' => e = .returned (.bool true) ∧ Below w.heap.size w w')) (hT : Tab w) (hx : x ≤ 39) (hn : n ≤ 24) (hi : i % 40 = (x : Int)) (hj : j % 25 = (n : Int)) : Calls Tryd.prog 10 #[.int .i64 i, .int .i64 j] w fun e w' => e = .returned (.bool true) ∧ Below w.heap.size w w' := by
  have HT := hide hT
  clear hT
  have HI := hide hi
  have HJ := hide hj
  have HBm : Below w.heap.size w w := Below.refl _ _
  clear hi hj
  have B6 : Hid (∀ q, stir n q < B9 ^ 65) := fun q => stir_lt n q (by omega)
  have B7 : Hid (∀ q, falr x q < B9 ^ 65) := by
    intro q
    by_cases h : q ≤ x
    · rw [falr_prodf q x h]; exact upB (prodf_lt _ q (by omega)) (by omega)
    · rw [falr_zero (by omega)]; exact Nat.pow_pos (by decide)
  have B8 : Hid (∀ q, stir n q * falr x q < B9 ^ 130) := fun q => mulB (B6.out q) (B7.out q)
  have BS : Hid (∀ q, q ≤ 65 → sumLt (fun q => stir n q * falr x q) q < B9 ^ 140) := fun q hq => upB (sumLt_lt B8.out (by omega)) (by omega)
  have K0 := hide (show IntKind.u64.wrap (x : Int) = (x : Int) from IntWalk.u64_in _ (by omega))
  go_enter Tryd.func10, Tryd.ntmps10
  go_wp2_with fail
  have hbA := HBm
  with_reducible refine (HA.out _ HT.out).mono ?_
  rintro e w1 ⟨rfl, hb⟩
  have hbA := hbA.trans (hb.mono hbA.size)
  clear hb
  go_wp2_with fail
  with_reducible refine (mod_any i 40 (by omega) (by omega) (x : Int) HI.out _).mono ?_
  rintro e wx ⟨rfl, rfl⟩
  go_wp2_with fail
  with_reducible refine (mod_any j 25 (by omega) (by omega) (n : Int) HJ.out _).mono ?_
  rintro e wx ⟨rfl, rfl⟩
  go_wp2_with fail
  with_reducible refine (of_zero _).mono ?_
  intro e w2 h
  obtain ⟨A2, n2, c2, rfl, x2, hb2⟩ := GivesN.cn h
  clear h
  have hbA := hbA.trans (hb2.mono hbA.size)
  clear hb2
  go_wp2_with fail
  have LW := hbA.size
  generalize hW : w2.alloc _ = w3
  obtain ⟨hb, b2, -⟩ := boxesA1 hW
  clear hW
  have hbA := hbA.trans (hb.mono hbA.size)
  have x2 := x2.below hb
  clear hb
  generalize w2.heap.size = g2 at *
  have HG := hide (show w.heap.size ≤ g2 from LW)
  clear LW 
  go_loopw [6, 7, 8, 9, 10] (fun v6 _ _ _ _ wr => ∃ (q : Nat) (A : Option Addr) (m d : Nat), q ≤ n + 1 ∧ v6 = .int .i64 ((q : Nat) : Int) ∧ Below w.heap.size w wr ∧ Box wr g2 #[.slice A m d] 25 ∧ Cn wr A m d (sumLt (fun q => stir n q * falr x q) q)) (fun v6 _ _ _ _ _ => n + 1 - (intOf v6).toNat)
  case atStart => exact ⟨0, _, _, _, by omega, rfl, hbA, b2, x2⟩
  case round =>
  obtain ⟨q, A2, n2, c2, hq, rfl, hbA, b2, x2⟩ := hrel
  by_cases hlt : q ≤ n
  · skip
    have HQ := hide (stI_nat n q)
    have HB := hide (BS.out q (by omega))
    have HB2 := hide (show stir n q < B9 ^ 140 from upB (B6.out q) (by omega))
    have HB3 := hide (show falr x q < B9 ^ 140 from upB (B7.out q) (by omega))
    have HB4 := hide (show stir n q * falr x q < B9 ^ 140 from upB (B8.out q) (by omega))
    go_wp2_with fail
    with_reducible refine (cstir_i _ _ n rfl (by omega) _ _ HQ.out).mono ?_
    intro e w4 h
    obtain ⟨A4, n4, c4, rfl, x4, hb4⟩ := GivesNE.cn h
    clear h
    have hbA := hbA.trans (hb4.mono hbA.size)
    have x2 := x2.below hb4
    have b2 := b2.below' hb4
    clear hb4
    go_wp2_with fail
    generalize hW : w4.alloc _ = w5
    obtain ⟨hb, b4, -⟩ := boxesA1 hW
    clear hW
    have hbA := hbA.trans (hb.mono hbA.size)
    have x2 := x2.below hb
    have x4 := x4.below hb
    have b2 := b2.below' hb
    clear hb
    generalize w4.heap.size = g4 at *
    with_reducible refine (cfall_ok _ x q (by omega) (by omega) _ rfl).mono ?_
    intro e w6 h
    obtain ⟨A6, n6, c6, rfl, x6, hb6⟩ := GivesNE.cn h
    clear h
    have hbA := hbA.trans (hb6.mono hbA.size)
    have x2 := x2.below hb6
    have x4 := x4.below hb6
    have b2 := b2.below' hb6
    have b4 := b4.below' hb6
    clear hb6
    go_wp2_with fail
    generalize hW : w6.alloc _ = w7
    obtain ⟨hb, b6, -⟩ := boxesA1 hW
    clear hW
    have hbA := hbA.trans (hb.mono hbA.size)
    have x2 := x2.below hb
    have x4 := x4.below hb
    have x6 := x6.below hb
    have b2 := b2.below' hb
    have b4 := b4.below' hb
    clear hb
    generalize w6.heap.size = g6 at *
    have KF : Hid (∀ w', Below w7.heap.size w7 w' → w'.cell? ⟨g2, 0, none⟩ = some (.slice A2 n2 c2) ∧ w'.cell? ⟨g4, 0, none⟩ = some (.slice A4 n4 c4) ∧ w'.cell? ⟨g6, 0, none⟩ = some (.slice A6 n6 c6) ∧ w'.frozen? ⟨g2, 0, none⟩ = false) := fun w' h => ⟨(b2.below' h).cell, (b4.below' h).cell, (b6.below' h).cell, (b2.below' h).frozen 0⟩
    have P0 : Below w7.heap.size w7 w7.drew := (Below.refl _ _).drew
    obtain ⟨k0, k1, k2, -⟩ := KF.out _ P0
    go_region_law (first
      | (go_simp; go_at_call 35; (with_reducible refine (mul_n (L := 140) ((x4.below P0).nt HB2.out) ((x6.below P0).nt HB3.out) (by omega) _ rfl).mono ?_); rintro e w61 ⟨A61, n61, c61, rfl, r61, l61, m61, hb61⟩; have h61 : Cn w61 A61 n61 c61 (stir n q * falr x q) := ⟨r61, l61, m61⟩; have E61 := P0.trans (hb61.mono P0.size); obtain ⟨y0, y1, y2, -⟩ := KF.out _ E61)
      | (go_simp; go_at_call 33; (with_reducible refine (add_n (L := 140) ((x2.below E61).nt HB.out) (h61.nt HB4.out) (by omega) (sumLt (fun q => stir n q * falr x q) (q + 1)) rfl).mono ?_); rintro e w62 ⟨A62, n62, c62, rfl, r62, l62, m62, hb62⟩; have x62 : Cn w62 A62 n62 c62 (sumLt (fun q => stir n q * falr x q) (q + 1)) := ⟨r62, l62, m62⟩; have E62 := E61.trans (hb62.mono E61.size); obtain ⟨z0, z1, z2, e0⟩ := KF.out _ E62))
    all_goals
      have b2 := b2.below' E62
      have hbA := hbA.trans (E62.mono hbA.size)
      have x62 := x62.far (i := 0) b2 noInt1 (.slice A62 n62 c62)
      have b2 := b2.put (.slice A62 n62 c62)
      have hbA : Below w.heap.size w (w62.setCell ⟨g2, 0, none⟩ (.slice A62 n62 c62)) := hbA.setCell HG.out _
      clear E61 E62 P0 KF h61 k0 k1 k2 y0 y1 y2 z0 z1 z2 e0 r61 l61 m61 r62 l62 m62 hb61 hb62 x4 x6 b4 b6
      generalize w62.setCell (⟨g2, 0, none⟩ : Addr) (.slice A62 n62 c62) = w63 at *
      go_wp2
      go_roundw
      case measure => simp [intOf]; omega
      case rel => exact ⟨q + 1, A62, n62, c62, by omega, by go_num, hbA, b2, x62⟩
  · skip
    obtain rfl : q = n + 1 := by omega
    rw [sumLt_to, pow_stir] at x2
    have BZ := hide (show x ^ n < B9 ^ 140 from by rw [← pow_stir, ← sumLt_to]; exact BS.out _ (by omega))
    have k0 := K0.out
    go_wp2_with fail
    with_reducible refine (of_any x _ (by omega)).mono ?_
    intro e w4 h
    obtain ⟨A4, n4, c4, rfl, x4, hb4⟩ := GivesN.cn h
    clear h
    have hbA := hbA.trans (hb4.mono hbA.size)
    have x2 := x2.below hb4
    have b2 := b2.below' hb4
    clear hb4
    go_wp2_with fail
    with_reducible refine (cpow x4 hx hn).mono ?_
    intro e w5 h
    obtain ⟨A5, n5, c5, rfl, x5, hb5⟩ := GivesNE.cn h
    clear h
    have hbA := hbA.trans (hb5.mono hbA.size)
    have x2 := x2.below hb5
    have x4 := x4.below hb5
    have b2 := b2.below' hb5
    clear hb5
    have k2 := b2.cell
    have l2 := b2.lt
    go_wp2_with fail
    clear k2 l2
    generalize hW : w5.alloc _ = w6
    obtain ⟨hb, b5, -⟩ := boxesA1 hW
    clear hW
    have hbA := hbA.trans (hb.mono hbA.size)
    have x2 := x2.below hb
    have x4 := x4.below hb
    have x5 := x5.below hb
    have b2 := b2.below' hb
    clear hb
    generalize w5.heap.size = g5 at *
    with_reducible refine (cmp_n (L := 140) (x2.nt BZ.out) (x5.nt BZ.out) (by omega) 0 (cmp_refl _)).mono ?_
    rintro e w7 ⟨rfl, hb⟩
    have hbA := hbA.trans (hb.mono hbA.size)
    have x2 := x2.below hb
    have x4 := x4.below hb
    have x5 := x5.below hb
    have b2 := b2.below' hb
    have b5 := b5.below' hb
    clear hb
    go_wp2_with fail
    go_ret
    exact ⟨rfl, hbA⟩
theorem cpowers_all (HA : Hid (∀ w, Tab w → Calls Tryd.prog 12 #[] w fun e w' => e = .returned (.bool true) ∧ Below w.heap.size w w')) (i j : Int) (w : World) (hT : Tab w) (_hi : -9223372036854775808 ≤ i ∧ i ≤ 9223372036854775807) (_hj : -9223372036854775808 ≤ j ∧ j ≤ 9223372036854775807) : Calls Tryd.prog 10 #[.int .i64 i, .int .i64 j] w fun e w' => e = .returned (.bool true) ∧ Below w.heap.size w w' := by
  have h1 := Int.emod_nonneg i (show (40 : Int) ≠ 0 by omega)
  have h2 := Int.emod_lt_of_pos i (show (0 : Int) < 40 by omega)
  have h3 := Int.emod_nonneg j (show (25 : Int) ≠ 0 by omega)
  have h4 := Int.emod_lt_of_pos j (show (0 : Int) < 25 by omega)
  exact cpowers_ok i j (i % 40).toNat (j % 25).toNat w HA hT (by omega) (by omega) (by omega) (by omega)
end Go.Proofs.YtjmiaodjapclbaaDoor
