/- coinageref02.Parse: walks, under the contracts of what it calls. -/
import Derived.Test.YtoeknkakdoemfaaGreatDoorZA
import Derived.Test.YtoeknkakdoemfaaGreatDoorRParse
import Derived.WalkSpells
namespace Go.Proofs.YtoeknkakdoemfaaGreatDoor
open Go Go.RowKit

set_option maxHeartbeats 4000000 in
set_option maxRecDepth 100000 in
theorem gp_myE1 (s : ByteArray) (K : Nat) (u v : Nat) (er : Int) (w : World) (hs : s.size ≤ 4000)
    (p1 : ∀ W : World, Calls Tryz.prog 46 #[.string ((s.extract 1 s.size).extract 0 K)] W (GivesNE u 3 W)) (p2 : ∀ W : World, Calls Tryz.prog 46 #[.string ((s.extract 1 s.size).extract (K + 1) (s.size - 1))] W (GivesNE v er W)) (q0 : 0 < s.size) (q1 : (((s[0]'q0).toNat : Int) == 45) = true) (hK : K < (s.extract 1 s.size).size) (hc : (((((s.extract 1 s.size))[K]'hK).toNat : Int) == 47) = true) (hb : ∀ (k : Nat) (h : k < K), (((((s.extract 1 s.size))[k]'(Nat.lt_trans h hK)).toNat : Int) == 47) = false) :
    Calls Tryz.prog 16 #[.string s] w (fun e w' => e = .returned (.tuple #[.agg #[.bool false, .slice none 0 0, .slice none 0 0], .int .i64 3]) ∧ Below w.heap.size w w') := by
  have P1 := hide p1
  have P2 := hide p2
  have HB := hide hb
  have d0 : decide (4000 < (s.size : Int)) = false := by simp; omega
  have HC := hide hc
  have zD : (s.extract 1 s.size).size = s.size - 1 := by rw [ByteArray.size_extract]; omega
  have hK2 : K < s.size - 1 := by rw [zD] at hK; exact hK
  have ZD := hide zD
  clear p1 p2 hb hc zD
  go_enter Tryz.func16, Tryz.ntmps16
  go_wp2_with fail
  go_loop [6, 7, 8] (fun a b i => ∃ k : Nat, k ≤ K ∧ a = .string (s.extract 1 s.size) ∧ b = .string ⟨#[49]⟩ ∧ i = .int .i64 (k : Int)) (fun _ _ i => K - (intOf i).toNat)
  case atStart => exact ⟨0, by omega, rfl, rfl, rfl⟩
  case round =>
    obtain ⟨k, hk, rfl, rfl, rfl⟩ := hrel
    by_cases hlt : k < K
    · have e47 := HB.out k hlt
      have hks : k < (s.size - 1) := by omega
      go_wp2_with fail
      go_round
      case rel => exact ⟨k + 1, by omega, rfl, rfl, by go_num⟩
      case measure => simp [intOf]; omega
    · obtain rfl : k = K := by omega
      have e47 := HC.out
      have hks : k < (s.size - 1) := by omega
      have kk0 : (0 : Int) ≤ (k : Int) := by omega
      have kk1 : (0 : Int) ≤ (k : Int) + 1 := by omega
      have kk2 : (k : Int) + 1 ≤ ((s.size - 1) : Nat) := by omega
      go_wp2_with fail
      go_region
      go_wp2_with fail
      generalize hW : (w.alloc _).drew = W
      obtain ⟨B, bR⟩ := boxZ hW
      clear hW
      refine (P1.out _).mono ?_
      rintro e w3 hg
      obtain ⟨A3, n3, c3, rfl, a3, hb⟩ := hg.cn
      have bR := bR.below' hb
      have B := B.trans (hb.mono B.size)
      clear hb hg
      go_wp2_with fail
      generalize hW : w3.alloc _ = W3
      obtain ⟨hb, bn, -⟩ := boxesA1 hW
      clear hW
      have bR := bR.below' hb
      have a3 := a3.below hb
      have B := B.trans (hb.mono B.size)
      clear hb
      generalize w3.heap.size = gn at *
      refine (P2.out _).mono ?_
      rintro e w4 hg
      obtain ⟨A4, n4, c4, rfl, a4, hb⟩ := hg.cn
      have bR := bR.below' hb
      have bn := bn.below' hb
      have a3 := a3.below hb
      have B := B.trans (hb.mono B.size)
      clear hb hg
      have g0 : w4.cell? ⟨w.heap.size, 0, none⟩ = some (.bool false) := bR.at_ 0
      have g1 : w4.cell? ⟨w.heap.size, 1, none⟩ = some (.slice none 0 0) := bR.at_ 1
      have g2 : w4.cell? ⟨w.heap.size, 2, none⟩ = some (.slice none 0 0) := bR.at_ 2
      have f0 := bR.frozen 0
      have f1 := bR.frozen 1
      have f2 := bR.frozen 2
      have gz := bR.lt
      go_wp2_with fail
      clear g0 g1 g2 f0 f1 f2
      generalize hW3 : ((World.setCell _ _ _).setCell _ _).setCell _ _ = W3
      obtain ⟨b3, -, C3, B4, -⟩ := put3 bR hW3
      clear hW3
      have B := B4 _ _ B (Nat.le_refl _)
      generalize hW : W3.alloc _ = W5
      obtain ⟨hb, -, -⟩ := boxesA1 hW
      clear hW
      have b3 := b3.below' hb
      have B := B.trans (hb.mono B.size)
      have k0 : W5.cell? ⟨w.heap.size, 0, none⟩ = some (.bool false) := b3.at_ 0
      have k1 : W5.cell? ⟨w.heap.size, 1, none⟩ = some (.slice none 0 0) := b3.at_ 1
      have k2 : W5.cell? ⟨w.heap.size, 2, none⟩ = some (.slice none 0 0) := b3.at_ 2
      refine bodyPost_ret (v := .tuple #[.agg #[.bool false, .slice none 0 0, .slice none 0 0], .int .i64 3]) (by simp [results, Tryz.results16, go_sem, k0, k1, k2]) rfl ?_
      exact ⟨rfl, B⟩
set_option maxHeartbeats 4000000 in
set_option maxRecDepth 100000 in
theorem gp_myE2 (s : ByteArray) (K : Nat) (u v : Nat) (w : World) (hs : s.size ≤ 4000)
    (p1 : ∀ W : World, Calls Tryz.prog 46 #[.string ((s.extract 1 s.size).extract 0 K)] W (GivesNE u 0 W)) (p2 : ∀ W : World, Calls Tryz.prog 46 #[.string ((s.extract 1 s.size).extract (K + 1) (s.size - 1))] W (GivesNE v 3 W)) (q0 : 0 < s.size) (q1 : (((s[0]'q0).toNat : Int) == 45) = true) (hK : K < (s.extract 1 s.size).size) (hc : (((((s.extract 1 s.size))[K]'hK).toNat : Int) == 47) = true) (hb : ∀ (k : Nat) (h : k < K), (((((s.extract 1 s.size))[k]'(Nat.lt_trans h hK)).toNat : Int) == 47) = false) :
    Calls Tryz.prog 16 #[.string s] w (fun e w' => e = .returned (.tuple #[.agg #[.bool false, .slice none 0 0, .slice none 0 0], .int .i64 3]) ∧ Below w.heap.size w w') := by
  have P1 := hide p1
  have P2 := hide p2
  have HB := hide hb
  have d0 : decide (4000 < (s.size : Int)) = false := by simp; omega
  have HC := hide hc
  have zD : (s.extract 1 s.size).size = s.size - 1 := by rw [ByteArray.size_extract]; omega
  have hK2 : K < s.size - 1 := by rw [zD] at hK; exact hK
  have ZD := hide zD
  clear p1 p2 hb hc zD
  go_enter Tryz.func16, Tryz.ntmps16
  go_wp2_with fail
  go_loop [6, 7, 8] (fun a b i => ∃ k : Nat, k ≤ K ∧ a = .string (s.extract 1 s.size) ∧ b = .string ⟨#[49]⟩ ∧ i = .int .i64 (k : Int)) (fun _ _ i => K - (intOf i).toNat)
  case atStart => exact ⟨0, by omega, rfl, rfl, rfl⟩
  case round =>
    obtain ⟨k, hk, rfl, rfl, rfl⟩ := hrel
    by_cases hlt : k < K
    · have e47 := HB.out k hlt
      have hks : k < (s.size - 1) := by omega
      go_wp2_with fail
      go_round
      case rel => exact ⟨k + 1, by omega, rfl, rfl, by go_num⟩
      case measure => simp [intOf]; omega
    · obtain rfl : k = K := by omega
      have e47 := HC.out
      have hks : k < (s.size - 1) := by omega
      have kk0 : (0 : Int) ≤ (k : Int) := by omega
      have kk1 : (0 : Int) ≤ (k : Int) + 1 := by omega
      have kk2 : (k : Int) + 1 ≤ ((s.size - 1) : Nat) := by omega
      go_wp2_with fail
      go_region
      go_wp2_with fail
      generalize hW : (w.alloc _).drew = W
      obtain ⟨B, bR⟩ := boxZ hW
      clear hW
      refine (P1.out _).mono ?_
      rintro e w3 hg
      obtain ⟨A3, n3, c3, rfl, a3, hb⟩ := hg.cn
      have bR := bR.below' hb
      have B := B.trans (hb.mono B.size)
      clear hb hg
      go_wp2_with fail
      generalize hW : w3.alloc _ = W3
      obtain ⟨hb, bn, -⟩ := boxesA1 hW
      clear hW
      have bR := bR.below' hb
      have a3 := a3.below hb
      have B := B.trans (hb.mono B.size)
      clear hb
      generalize w3.heap.size = gn at *
      refine (P2.out _).mono ?_
      rintro e w4 hg
      obtain ⟨A4, n4, c4, rfl, a4, hb⟩ := hg.cn
      have bR := bR.below' hb
      have bn := bn.below' hb
      have a3 := a3.below hb
      have B := B.trans (hb.mono B.size)
      clear hb hg
      have g0 : w4.cell? ⟨w.heap.size, 0, none⟩ = some (.bool false) := bR.at_ 0
      have g1 : w4.cell? ⟨w.heap.size, 1, none⟩ = some (.slice none 0 0) := bR.at_ 1
      have g2 : w4.cell? ⟨w.heap.size, 2, none⟩ = some (.slice none 0 0) := bR.at_ 2
      have f0 := bR.frozen 0
      have f1 := bR.frozen 1
      have f2 := bR.frozen 2
      have gz := bR.lt
      go_wp2_with fail
      clear g0 g1 g2 f0 f1 f2
      generalize hW3 : ((World.setCell _ _ _).setCell _ _).setCell _ _ = W3
      obtain ⟨b3, -, C3, B4, -⟩ := put3 bR hW3
      clear hW3
      have B := B4 _ _ B (Nat.le_refl _)
      generalize hW : W3.alloc _ = W5
      obtain ⟨hb, -, -⟩ := boxesA1 hW
      clear hW
      have b3 := b3.below' hb
      have B := B.trans (hb.mono B.size)
      have k0 : W5.cell? ⟨w.heap.size, 0, none⟩ = some (.bool false) := b3.at_ 0
      have k1 : W5.cell? ⟨w.heap.size, 1, none⟩ = some (.slice none 0 0) := b3.at_ 1
      have k2 : W5.cell? ⟨w.heap.size, 2, none⟩ = some (.slice none 0 0) := b3.at_ 2
      refine bodyPost_ret (v := .tuple #[.agg #[.bool false, .slice none 0 0, .slice none 0 0], .int .i64 3]) (by simp [results, Tryz.results16, go_sem, k0, k1, k2]) rfl ?_
      exact ⟨rfl, B⟩
set_option maxHeartbeats 4000000 in
set_option maxRecDepth 100000 in
theorem gp_myZ (s : ByteArray) (K : Nat) (u v : Nat) (w : World) (hs : s.size ≤ 4000)
    (p1 : ∀ W : World, Calls Tryz.prog 46 #[.string ((s.extract 1 s.size).extract 0 K)] W (GivesNE u 0 W)) (p2 : ∀ W : World, Calls Tryz.prog 46 #[.string ((s.extract 1 s.size).extract (K + 1) (s.size - 1))] W (GivesNE v 0 W)) (q0 : 0 < s.size) (q1 : (((s[0]'q0).toNat : Int) == 45) = true) (hK : K < (s.extract 1 s.size).size) (hc : (((((s.extract 1 s.size))[K]'hK).toNat : Int) == 47) = true) (hb : ∀ (k : Nat) (h : k < K), (((((s.extract 1 s.size))[k]'(Nat.lt_trans h hK)).toNat : Int) == 47) = false) (hu : u < B9 ^ 445) (hv : v < B9 ^ 445) (hz : v = 0) :
    Calls Tryz.prog 16 #[.string s] w (fun e w' => e = .returned (.tuple #[.agg #[.bool false, .slice none 0 0, .slice none 0 0], .int .i64 3]) ∧ Below w.heap.size w w') := by
  have P1 := hide p1
  have P2 := hide p2
  have HB := hide hb
  have d0 : decide (4000 < (s.size : Int)) = false := by simp; omega
  have HC := hide hc
  have zD : (s.extract 1 s.size).size = s.size - 1 := by rw [ByteArray.size_extract]; omega
  have hK2 : K < s.size - 1 := by rw [zD] at hK; exact hK
  have HU := hide hu
  have HV := hide hv
  have HZ := hide hz
  have ZD := hide zD
  clear p1 p2 hb hc hu hv hz zD
  go_enter Tryz.func16, Tryz.ntmps16
  go_wp2_with fail
  go_loop [6, 7, 8] (fun a b i => ∃ k : Nat, k ≤ K ∧ a = .string (s.extract 1 s.size) ∧ b = .string ⟨#[49]⟩ ∧ i = .int .i64 (k : Int)) (fun _ _ i => K - (intOf i).toNat)
  case atStart => exact ⟨0, by omega, rfl, rfl, rfl⟩
  case round =>
    obtain ⟨k, hk, rfl, rfl, rfl⟩ := hrel
    by_cases hlt : k < K
    · have e47 := HB.out k hlt
      have hks : k < (s.size - 1) := by omega
      go_wp2_with fail
      go_round
      case rel => exact ⟨k + 1, by omega, rfl, rfl, by go_num⟩
      case measure => simp [intOf]; omega
    · obtain rfl : k = K := by omega
      have e47 := HC.out
      have hks : k < (s.size - 1) := by omega
      have kk0 : (0 : Int) ≤ (k : Int) := by omega
      have kk1 : (0 : Int) ≤ (k : Int) + 1 := by omega
      have kk2 : (k : Int) + 1 ≤ ((s.size - 1) : Nat) := by omega
      go_wp2_with fail
      go_region
      go_wp2_with fail
      generalize hW : (w.alloc _).drew = W
      obtain ⟨B, bR⟩ := boxZ hW
      clear hW
      refine (P1.out _).mono ?_
      rintro e w3 hg
      obtain ⟨A3, n3, c3, rfl, a3, hb⟩ := hg.cn
      have bR := bR.below' hb
      have B := B.trans (hb.mono B.size)
      clear hb hg
      go_wp2_with fail
      generalize hW : w3.alloc _ = W3
      obtain ⟨hb, bn, -⟩ := boxesA1 hW
      clear hW
      have bR := bR.below' hb
      have a3 := a3.below hb
      have B := B.trans (hb.mono B.size)
      clear hb
      generalize w3.heap.size = gn at *
      refine (P2.out _).mono ?_
      rintro e w4 hg
      obtain ⟨A4, n4, c4, rfl, a4, hb⟩ := hg.cn
      have bR := bR.below' hb
      have bn := bn.below' hb
      have a3 := a3.below hb
      have B := B.trans (hb.mono B.size)
      clear hb hg
      go_wp2_with fail
      generalize hW : w4.alloc _ = W4
      obtain ⟨hb, bd, -⟩ := boxesA1 hW
      clear hW
      have bR := bR.below' hb
      have bn := bn.below' hb
      have a3 := a3.below hb
      have a4 := a4.below hb
      have B := B.trans (hb.mono B.size)
      clear hb
      generalize w4.heap.size = gd at *
      refine (gzero_any 445 (by omega) _ _ _ v _ (a4.nt HV.out) true (decide_eq_true HZ.out)).mono ?_
      rintro e w5 ⟨rfl, hb⟩
      have bR := bR.below' hb
      have bn := bn.below' hb
      have bd := bd.below' hb
      have a3 := a3.below hb
      have a4 := a4.below hb
      have B := B.trans (hb.mono B.size)
      clear hb
      have g0 : w5.cell? ⟨w.heap.size, 0, none⟩ = some (.bool false) := bR.at_ 0
      have g1 : w5.cell? ⟨w.heap.size, 1, none⟩ = some (.slice none 0 0) := bR.at_ 1
      have g2 : w5.cell? ⟨w.heap.size, 2, none⟩ = some (.slice none 0 0) := bR.at_ 2
      have f0 := bR.frozen 0
      have f1 := bR.frozen 1
      have f2 := bR.frozen 2
      have gz := bR.lt
      go_wp2_with fail
      clear g0 g1 g2 f0 f1 f2
      generalize hW3 : ((World.setCell _ _ _).setCell _ _).setCell _ _ = W3
      obtain ⟨b3, -, C3, B4, -⟩ := put3 bR hW3
      clear hW3
      have k0 : W3.cell? ⟨w.heap.size, 0, none⟩ = some (.bool false) := b3.at_ 0
      have k1 : W3.cell? ⟨w.heap.size, 1, none⟩ = some (.slice none 0 0) := b3.at_ 1
      have k2 : W3.cell? ⟨w.heap.size, 2, none⟩ = some (.slice none 0 0) := b3.at_ 2
      refine bodyPost_ret (v := .tuple #[.agg #[.bool false, .slice none 0 0, .slice none 0 0], .int .i64 3]) (by simp [results, Tryz.results16, go_sem, k0, k1, k2]) rfl ?_
      exact ⟨rfl, B4 _ _ B (by omega)⟩
set_option maxHeartbeats 4000000 in
set_option maxRecDepth 100000 in
theorem gp_myT (s : ByteArray) (K : Nat) (u v : Nat) (w : World) (hs : s.size ≤ 4000)
    (p1 : ∀ W : World, Calls Tryz.prog 46 #[.string ((s.extract 1 s.size).extract 0 K)] W (GivesNE u 0 W)) (p2 : ∀ W : World, Calls Tryz.prog 46 #[.string ((s.extract 1 s.size).extract (K + 1) (s.size - 1))] W (GivesNE v 0 W)) (q0 : 0 < s.size) (q1 : (((s[0]'q0).toNat : Int) == 45) = true) (hK : K < (s.extract 1 s.size).size) (hc : (((((s.extract 1 s.size))[K]'hK).toNat : Int) == 47) = true) (hb : ∀ (k : Nat) (h : k < K), (((((s.extract 1 s.size))[k]'(Nat.lt_trans h hK)).toNat : Int) == 47) = false) (hu : u < B9 ^ 445) (hv : v < B9 ^ 445) (hz : v ≠ 0) (r : Rat) (hr : qv true u v = r) (hS : qtext r = s) :
    Calls Tryz.prog 16 #[.string s] w (GivesFE r 0 w) := by
  have P1 := hide p1
  have P2 := hide p2
  have HB := hide hb
  have d0 : decide (4000 < (s.size : Int)) = false := by simp; omega
  have HC := hide hc
  have zD : (s.extract 1 s.size).size = s.size - 1 := by rw [ByteArray.size_extract]; omega
  have hK2 : K < s.size - 1 := by rw [zD] at hK; exact hK
  have HU := hide hu
  have HV := hide hv
  have HZ := hide hz
  have HR := hide hr
  have HS := hide hS
  have ZD := hide zD
  clear p1 p2 hb hc hu hv hz hr hS zD
  go_enter Tryz.func16, Tryz.ntmps16
  go_wp2_with fail
  go_loop [6, 7, 8] (fun a b i => ∃ k : Nat, k ≤ K ∧ a = .string (s.extract 1 s.size) ∧ b = .string ⟨#[49]⟩ ∧ i = .int .i64 (k : Int)) (fun _ _ i => K - (intOf i).toNat)
  case atStart => exact ⟨0, by omega, rfl, rfl, rfl⟩
  case round =>
    obtain ⟨k, hk, rfl, rfl, rfl⟩ := hrel
    by_cases hlt : k < K
    · have e47 := HB.out k hlt
      have hks : k < (s.size - 1) := by omega
      go_wp2_with fail
      go_round
      case rel => exact ⟨k + 1, by omega, rfl, rfl, by go_num⟩
      case measure => simp [intOf]; omega
    · obtain rfl : k = K := by omega
      have e47 := HC.out
      have hks : k < (s.size - 1) := by omega
      have kk0 : (0 : Int) ≤ (k : Int) := by omega
      have kk1 : (0 : Int) ≤ (k : Int) + 1 := by omega
      have kk2 : (k : Int) + 1 ≤ ((s.size - 1) : Nat) := by omega
      go_wp2_with fail
      go_region
      go_wp2_with fail
      generalize hW : (w.alloc _).drew = W
      obtain ⟨B, bR⟩ := boxZ hW
      clear hW
      refine (P1.out _).mono ?_
      rintro e w3 hg
      obtain ⟨A3, n3, c3, rfl, a3, hb⟩ := hg.cn
      have bR := bR.below' hb
      have B := B.trans (hb.mono B.size)
      clear hb hg
      go_wp2_with fail
      generalize hW : w3.alloc _ = W3
      obtain ⟨hb, bn, -⟩ := boxesA1 hW
      clear hW
      have bR := bR.below' hb
      have a3 := a3.below hb
      have B := B.trans (hb.mono B.size)
      clear hb
      generalize w3.heap.size = gn at *
      refine (P2.out _).mono ?_
      rintro e w4 hg
      obtain ⟨A4, n4, c4, rfl, a4, hb⟩ := hg.cn
      have bR := bR.below' hb
      have bn := bn.below' hb
      have a3 := a3.below hb
      have B := B.trans (hb.mono B.size)
      clear hb hg
      go_wp2_with fail
      generalize hW : w4.alloc _ = W4
      obtain ⟨hb, bd, -⟩ := boxesA1 hW
      clear hW
      have bR := bR.below' hb
      have bn := bn.below' hb
      have a3 := a3.below hb
      have a4 := a4.below hb
      have B := B.trans (hb.mono B.size)
      clear hb
      generalize w4.heap.size = gd at *
      refine (gzero_any 445 (by omega) _ _ _ v _ (a4.nt HV.out) false (decide_eq_false HZ.out)).mono ?_
      rintro e w5 ⟨rfl, hb⟩
      have bR := bR.below' hb
      have bn := bn.below' hb
      have bd := bd.below' hb
      have a3 := a3.below hb
      have a4 := a4.below hb
      have B := B.trans (hb.mono B.size)
      clear hb
      have q0 := bn.cell
      have q1 := bd.cell
      go_wp2_with fail
      clear q0 q1
      refine (gnew_f (L := 445) (frMk (a3.nt HU.out) (a4.nt HV.out) HR.out) (by omega) (by omega)).mono ?_
      rintro e w6 ⟨p5, A5, n5, c5, B5, m5, d5, rfl, x5, hb⟩
      have bR := bR.below' hb
      have B := B.trans (hb.mono B.size)
      clear hb bn bd a3 a4
      go_wp2_with fail
      generalize hW : w6.alloc _ = W6
      obtain ⟨hb, bx, -⟩ := boxesA1 hW
      clear hW
      have bR := bR.below' hb
      have x5 := x5.below hb
      have B := B.trans (hb.mono B.size)
      clear hb
      generalize w6.heap.size = gx at *
      refine (gtext_f (L := 446) (x5.fr (qv_ht HU.out HV.out HR.out)) (by omega) (by omega) _ HS.out).mono ?_
      rintro e w7 ⟨rfl, hb⟩
      have bR := bR.below' hb
      have bx := bx.below' hb
      have x5 := x5.below hb
      have B := B.trans (hb.mono B.size)
      clear hb
      have q0 : w7.cell? ⟨gx, 0, none⟩ = some (.bool p5) := bx.at_ 0
      have q1 : w7.cell? ⟨gx, 1, none⟩ = some (.slice A5 n5 c5) := bx.at_ 1
      have q2 : w7.cell? ⟨gx, 2, none⟩ = some (.slice B5 m5 d5) := bx.at_ 2
      have g0 : w7.cell? ⟨w.heap.size, 0, none⟩ = some (.bool false) := bR.at_ 0
      have g1 : w7.cell? ⟨w.heap.size, 1, none⟩ = some (.slice none 0 0) := bR.at_ 1
      have g2 : w7.cell? ⟨w.heap.size, 2, none⟩ = some (.slice none 0 0) := bR.at_ 2
      have f0 := bR.frozen 0
      have f1 := bR.frozen 1
      have f2 := bR.frozen 2
      have gz := bR.lt
      go_wp2_with fail
      clear g0 g1 g2 f0 f1 f2 q0 q1 q2
      generalize hW3 : ((w7.setCell _ _).setCell _ _).setCell _ _ = W3
      obtain ⟨b3, -, C3, B4, -⟩ := put3 bR hW3
      clear hW3
      have k0 : W3.cell? ⟨w.heap.size, 0, none⟩ = some (.bool p5) := b3.at_ 0
      have k1 : W3.cell? ⟨w.heap.size, 1, none⟩ = some (.slice A5 n5 c5) := b3.at_ 1
      have k2 : W3.cell? ⟨w.heap.size, 2, none⟩ = some (.slice B5 m5 d5) := b3.at_ 2
      refine bodyPost_ret (v := .tuple #[.agg #[.bool p5, .slice A5 n5 c5, .slice B5 m5 d5], .int .i64 0]) (by simp [results, Tryz.results16, go_sem, k0, k1, k2]) rfl ?_
      exact ⟨p5, A5, n5, c5, B5, m5, d5, rfl, ⟨x5.1, C3 _ _ _ _ x5.2.1, C3 _ _ _ _ x5.2.2⟩, B4 _ _ B (by omega)⟩
set_option maxHeartbeats 4000000 in
set_option maxRecDepth 100000 in
theorem gp_myD (s : ByteArray) (K : Nat) (u v : Nat) (w : World) (hs : s.size ≤ 4000)
    (p1 : ∀ W : World, Calls Tryz.prog 46 #[.string ((s.extract 1 s.size).extract 0 K)] W (GivesNE u 0 W)) (p2 : ∀ W : World, Calls Tryz.prog 46 #[.string ((s.extract 1 s.size).extract (K + 1) (s.size - 1))] W (GivesNE v 0 W)) (q0 : 0 < s.size) (q1 : (((s[0]'q0).toNat : Int) == 45) = true) (hK : K < (s.extract 1 s.size).size) (hc : (((((s.extract 1 s.size))[K]'hK).toNat : Int) == 47) = true) (hb : ∀ (k : Nat) (h : k < K), (((((s.extract 1 s.size))[k]'(Nat.lt_trans h hK)).toNat : Int) == 47) = false) (hu : u < B9 ^ 445) (hv : v < B9 ^ 445) (hz : v ≠ 0) (r : Rat) (hr : qv true u v = r) (S : ByteArray) (hS : qtext r = S) (hne : S ≠ s) :
    Calls Tryz.prog 16 #[.string s] w (fun e w' => e = .returned (.tuple #[.agg #[.bool false, .slice none 0 0, .slice none 0 0], .int .i64 3]) ∧ Below w.heap.size w w') := by
  have P1 := hide p1
  have P2 := hide p2
  have HB := hide hb
  have d0 : decide (4000 < (s.size : Int)) = false := by simp; omega
  have HC := hide hc
  have zD : (s.extract 1 s.size).size = s.size - 1 := by rw [ByteArray.size_extract]; omega
  have hK2 : K < s.size - 1 := by rw [zD] at hK; exact hK
  have HU := hide hu
  have HV := hide hv
  have HZ := hide hz
  have HR := hide hr
  have HS := hide hS
  have hse : (S.toList == s.toList) = false := by rw [beq_eq_false_iff_ne]; intro h; rw [Lib.toList_data, Lib.toList_data] at h; exact hne (ba_eq h)
  have ZD := hide zD
  clear p1 p2 hb hc hu hv hz hr hS hne zD
  go_enter Tryz.func16, Tryz.ntmps16
  go_wp2_with fail
  go_loop [6, 7, 8] (fun a b i => ∃ k : Nat, k ≤ K ∧ a = .string (s.extract 1 s.size) ∧ b = .string ⟨#[49]⟩ ∧ i = .int .i64 (k : Int)) (fun _ _ i => K - (intOf i).toNat)
  case atStart => exact ⟨0, by omega, rfl, rfl, rfl⟩
  case round =>
    obtain ⟨k, hk, rfl, rfl, rfl⟩ := hrel
    by_cases hlt : k < K
    · have e47 := HB.out k hlt
      have hks : k < (s.size - 1) := by omega
      go_wp2_with fail
      go_round
      case rel => exact ⟨k + 1, by omega, rfl, rfl, by go_num⟩
      case measure => simp [intOf]; omega
    · obtain rfl : k = K := by omega
      have e47 := HC.out
      have hks : k < (s.size - 1) := by omega
      have kk0 : (0 : Int) ≤ (k : Int) := by omega
      have kk1 : (0 : Int) ≤ (k : Int) + 1 := by omega
      have kk2 : (k : Int) + 1 ≤ ((s.size - 1) : Nat) := by omega
      go_wp2_with fail
      go_region
      go_wp2_with fail
      generalize hW : (w.alloc _).drew = W
      obtain ⟨B, bR⟩ := boxZ hW
      clear hW
      refine (P1.out _).mono ?_
      rintro e w3 hg
      obtain ⟨A3, n3, c3, rfl, a3, hb⟩ := hg.cn
      have bR := bR.below' hb
      have B := B.trans (hb.mono B.size)
      clear hb hg
      go_wp2_with fail
      generalize hW : w3.alloc _ = W3
      obtain ⟨hb, bn, -⟩ := boxesA1 hW
      clear hW
      have bR := bR.below' hb
      have a3 := a3.below hb
      have B := B.trans (hb.mono B.size)
      clear hb
      generalize w3.heap.size = gn at *
      refine (P2.out _).mono ?_
      rintro e w4 hg
      obtain ⟨A4, n4, c4, rfl, a4, hb⟩ := hg.cn
      have bR := bR.below' hb
      have bn := bn.below' hb
      have a3 := a3.below hb
      have B := B.trans (hb.mono B.size)
      clear hb hg
      go_wp2_with fail
      generalize hW : w4.alloc _ = W4
      obtain ⟨hb, bd, -⟩ := boxesA1 hW
      clear hW
      have bR := bR.below' hb
      have bn := bn.below' hb
      have a3 := a3.below hb
      have a4 := a4.below hb
      have B := B.trans (hb.mono B.size)
      clear hb
      generalize w4.heap.size = gd at *
      refine (gzero_any 445 (by omega) _ _ _ v _ (a4.nt HV.out) false (decide_eq_false HZ.out)).mono ?_
      rintro e w5 ⟨rfl, hb⟩
      have bR := bR.below' hb
      have bn := bn.below' hb
      have bd := bd.below' hb
      have a3 := a3.below hb
      have a4 := a4.below hb
      have B := B.trans (hb.mono B.size)
      clear hb
      have q0 := bn.cell
      have q1 := bd.cell
      go_wp2_with fail
      clear q0 q1
      refine (gnew_f (L := 445) (frMk (a3.nt HU.out) (a4.nt HV.out) HR.out) (by omega) (by omega)).mono ?_
      rintro e w6 ⟨p5, A5, n5, c5, B5, m5, d5, rfl, x5, hb⟩
      have bR := bR.below' hb
      have B := B.trans (hb.mono B.size)
      clear hb bn bd a3 a4
      go_wp2_with fail
      generalize hW : w6.alloc _ = W6
      obtain ⟨hb, bx, -⟩ := boxesA1 hW
      clear hW
      have bR := bR.below' hb
      have x5 := x5.below hb
      have B := B.trans (hb.mono B.size)
      clear hb
      generalize w6.heap.size = gx at *
      refine (gtext_f (L := 446) (x5.fr (qv_ht HU.out HV.out HR.out)) (by omega) (by omega) _ HS.out).mono ?_
      rintro e w7 ⟨rfl, hb⟩
      have bR := bR.below' hb
      have bx := bx.below' hb
      have x5 := x5.below hb
      have B := B.trans (hb.mono B.size)
      clear hb
      have q0 : w7.cell? ⟨gx, 0, none⟩ = some (.bool p5) := bx.at_ 0
      have q1 : w7.cell? ⟨gx, 1, none⟩ = some (.slice A5 n5 c5) := bx.at_ 1
      have q2 : w7.cell? ⟨gx, 2, none⟩ = some (.slice B5 m5 d5) := bx.at_ 2
      have g0 : w7.cell? ⟨w.heap.size, 0, none⟩ = some (.bool false) := bR.at_ 0
      have g1 : w7.cell? ⟨w.heap.size, 1, none⟩ = some (.slice none 0 0) := bR.at_ 1
      have g2 : w7.cell? ⟨w.heap.size, 2, none⟩ = some (.slice none 0 0) := bR.at_ 2
      have f0 := bR.frozen 0
      have f1 := bR.frozen 1
      have f2 := bR.frozen 2
      have gz := bR.lt
      go_wp2_with fail
      clear q0 q1 q2
      clear g0 g1 g2 f0 f1 f2
      generalize hW3 : ((World.setCell _ _ _).setCell _ _).setCell _ _ = W3
      obtain ⟨b3, -, C3, B4, -⟩ := put3 bR hW3
      clear hW3
      have k0 : W3.cell? ⟨w.heap.size, 0, none⟩ = some (.bool false) := b3.at_ 0
      have k1 : W3.cell? ⟨w.heap.size, 1, none⟩ = some (.slice none 0 0) := b3.at_ 1
      have k2 : W3.cell? ⟨w.heap.size, 2, none⟩ = some (.slice none 0 0) := b3.at_ 2
      refine bodyPost_ret (v := .tuple #[.agg #[.bool false, .slice none 0 0, .slice none 0 0], .int .i64 3]) (by simp [results, Tryz.results16, go_sem, k0, k1, k2]) rfl ?_
      exact ⟨rfl, B4 _ _ B (by omega)⟩
end Go.Proofs.YtoeknkakdoemfaaGreatDoor

/- coinageref02.Parse: walks, under the contracts of what it calls. -/
namespace Go.Proofs.YtoeknkakdoemfaaGreatDoor
open Go Go.RowKit

set_option maxHeartbeats 4000000 in
set_option maxRecDepth 100000 in
theorem gp_mnE1 (s : ByteArray) (u v : Nat) (er : Int) (w : World) (hs : s.size ≤ 4000)
    (p1 : ∀ W : World, Calls Tryz.prog 46 #[.string (s.extract 1 s.size)] W (GivesNE u 3 W)) (p2 : ∀ W : World, Calls Tryz.prog 46 #[.string ⟨#[49]⟩] W (GivesNE v er W)) (q0 : 0 < s.size) (q1 : (((s[0]'q0).toNat : Int) == 45) = true) (hb : ∀ (k : Nat) (h : k < (s.extract 1 s.size).size), (((((s.extract 1 s.size))[k]'h).toNat : Int) == 47) = false) :
    Calls Tryz.prog 16 #[.string s] w (fun e w' => e = .returned (.tuple #[.agg #[.bool false, .slice none 0 0, .slice none 0 0], .int .i64 3]) ∧ Below w.heap.size w w') := by
  have P1 := hide p1
  have P2 := hide p2
  have HB := hide hb
  have d0 : decide (4000 < (s.size : Int)) = false := by simp; omega
  have zD : (s.extract 1 s.size).size = s.size - 1 := by rw [ByteArray.size_extract]; omega
  have ZD := hide zD
  clear p1 p2 hb zD
  go_enter Tryz.func16, Tryz.ntmps16
  go_wp2_with fail
  go_loop [6, 7, 8] (fun a b i => ∃ k : Nat, k ≤ s.size - 1 ∧ a = .string (s.extract 1 s.size) ∧ b = .string ⟨#[49]⟩ ∧ i = .int .i64 (k : Int)) (fun _ _ i => s.size - 1 - (intOf i).toNat)
  case atStart => exact ⟨0, by omega, rfl, rfl, rfl⟩
  case round =>
    obtain ⟨k, hk, rfl, rfl, rfl⟩ := hrel
    by_cases hlt : k < s.size - 1
    · have e47 := HB.out k (by rw [ZD.out]; exact hlt)
      go_wp2_with fail
      go_round
      case rel => exact ⟨k + 1, by omega, rfl, rfl, by go_num⟩
      case measure => simp [intOf]; omega
    · obtain rfl : k = s.size - 1 := by omega
      go_wp2_with fail
      generalize hW : w.alloc _ = W
      obtain ⟨B, bR, -⟩ := boxesA1 hW
      clear hW
      refine (P1.out _).mono ?_
      rintro e w3 hg
      obtain ⟨A3, n3, c3, rfl, a3, hb⟩ := hg.cn
      have bR := bR.below' hb
      have B := B.trans (hb.mono B.size)
      clear hb hg
      go_wp2_with fail
      generalize hW : w3.alloc _ = W3
      obtain ⟨hb, bn, -⟩ := boxesA1 hW
      clear hW
      have bR := bR.below' hb
      have a3 := a3.below hb
      have B := B.trans (hb.mono B.size)
      clear hb
      generalize w3.heap.size = gn at *
      refine (P2.out _).mono ?_
      rintro e w4 hg
      obtain ⟨A4, n4, c4, rfl, a4, hb⟩ := hg.cn
      have bR := bR.below' hb
      have bn := bn.below' hb
      have a3 := a3.below hb
      have B := B.trans (hb.mono B.size)
      clear hb hg
      have g0 : w4.cell? ⟨w.heap.size, 0, none⟩ = some (.bool false) := bR.at_ 0
      have g1 : w4.cell? ⟨w.heap.size, 1, none⟩ = some (.slice none 0 0) := bR.at_ 1
      have g2 : w4.cell? ⟨w.heap.size, 2, none⟩ = some (.slice none 0 0) := bR.at_ 2
      have f0 := bR.frozen 0
      have f1 := bR.frozen 1
      have f2 := bR.frozen 2
      have gz := bR.lt
      go_wp2_with fail
      clear g0 g1 g2 f0 f1 f2
      generalize hW3 : ((World.setCell _ _ _).setCell _ _).setCell _ _ = W3
      obtain ⟨b3, -, C3, B4, -⟩ := put3 bR hW3
      clear hW3
      have B := B4 _ _ B (Nat.le_refl _)
      generalize hW : W3.alloc _ = W5
      obtain ⟨hb, -, -⟩ := boxesA1 hW
      clear hW
      have b3 := b3.below' hb
      have B := B.trans (hb.mono B.size)
      have k0 : W5.cell? ⟨w.heap.size, 0, none⟩ = some (.bool false) := b3.at_ 0
      have k1 : W5.cell? ⟨w.heap.size, 1, none⟩ = some (.slice none 0 0) := b3.at_ 1
      have k2 : W5.cell? ⟨w.heap.size, 2, none⟩ = some (.slice none 0 0) := b3.at_ 2
      refine bodyPost_ret (v := .tuple #[.agg #[.bool false, .slice none 0 0, .slice none 0 0], .int .i64 3]) (by simp [results, Tryz.results16, go_sem, k0, k1, k2]) rfl ?_
      exact ⟨rfl, B⟩
set_option maxHeartbeats 4000000 in
set_option maxRecDepth 100000 in
theorem gp_mnE2 (s : ByteArray) (u v : Nat) (w : World) (hs : s.size ≤ 4000)
    (p1 : ∀ W : World, Calls Tryz.prog 46 #[.string (s.extract 1 s.size)] W (GivesNE u 0 W)) (p2 : ∀ W : World, Calls Tryz.prog 46 #[.string ⟨#[49]⟩] W (GivesNE v 3 W)) (q0 : 0 < s.size) (q1 : (((s[0]'q0).toNat : Int) == 45) = true) (hb : ∀ (k : Nat) (h : k < (s.extract 1 s.size).size), (((((s.extract 1 s.size))[k]'h).toNat : Int) == 47) = false) :
    Calls Tryz.prog 16 #[.string s] w (fun e w' => e = .returned (.tuple #[.agg #[.bool false, .slice none 0 0, .slice none 0 0], .int .i64 3]) ∧ Below w.heap.size w w') := by
  have P1 := hide p1
  have P2 := hide p2
  have HB := hide hb
  have d0 : decide (4000 < (s.size : Int)) = false := by simp; omega
  have zD : (s.extract 1 s.size).size = s.size - 1 := by rw [ByteArray.size_extract]; omega
  have ZD := hide zD
  clear p1 p2 hb zD
  go_enter Tryz.func16, Tryz.ntmps16
  go_wp2_with fail
  go_loop [6, 7, 8] (fun a b i => ∃ k : Nat, k ≤ s.size - 1 ∧ a = .string (s.extract 1 s.size) ∧ b = .string ⟨#[49]⟩ ∧ i = .int .i64 (k : Int)) (fun _ _ i => s.size - 1 - (intOf i).toNat)
  case atStart => exact ⟨0, by omega, rfl, rfl, rfl⟩
  case round =>
    obtain ⟨k, hk, rfl, rfl, rfl⟩ := hrel
    by_cases hlt : k < s.size - 1
    · have e47 := HB.out k (by rw [ZD.out]; exact hlt)
      go_wp2_with fail
      go_round
      case rel => exact ⟨k + 1, by omega, rfl, rfl, by go_num⟩
      case measure => simp [intOf]; omega
    · obtain rfl : k = s.size - 1 := by omega
      go_wp2_with fail
      generalize hW : w.alloc _ = W
      obtain ⟨B, bR, -⟩ := boxesA1 hW
      clear hW
      refine (P1.out _).mono ?_
      rintro e w3 hg
      obtain ⟨A3, n3, c3, rfl, a3, hb⟩ := hg.cn
      have bR := bR.below' hb
      have B := B.trans (hb.mono B.size)
      clear hb hg
      go_wp2_with fail
      generalize hW : w3.alloc _ = W3
      obtain ⟨hb, bn, -⟩ := boxesA1 hW
      clear hW
      have bR := bR.below' hb
      have a3 := a3.below hb
      have B := B.trans (hb.mono B.size)
      clear hb
      generalize w3.heap.size = gn at *
      refine (P2.out _).mono ?_
      rintro e w4 hg
      obtain ⟨A4, n4, c4, rfl, a4, hb⟩ := hg.cn
      have bR := bR.below' hb
      have bn := bn.below' hb
      have a3 := a3.below hb
      have B := B.trans (hb.mono B.size)
      clear hb hg
      have g0 : w4.cell? ⟨w.heap.size, 0, none⟩ = some (.bool false) := bR.at_ 0
      have g1 : w4.cell? ⟨w.heap.size, 1, none⟩ = some (.slice none 0 0) := bR.at_ 1
      have g2 : w4.cell? ⟨w.heap.size, 2, none⟩ = some (.slice none 0 0) := bR.at_ 2
      have f0 := bR.frozen 0
      have f1 := bR.frozen 1
      have f2 := bR.frozen 2
      have gz := bR.lt
      go_wp2_with fail
      clear g0 g1 g2 f0 f1 f2
      generalize hW3 : ((World.setCell _ _ _).setCell _ _).setCell _ _ = W3
      obtain ⟨b3, -, C3, B4, -⟩ := put3 bR hW3
      clear hW3
      have B := B4 _ _ B (Nat.le_refl _)
      generalize hW : W3.alloc _ = W5
      obtain ⟨hb, -, -⟩ := boxesA1 hW
      clear hW
      have b3 := b3.below' hb
      have B := B.trans (hb.mono B.size)
      have k0 : W5.cell? ⟨w.heap.size, 0, none⟩ = some (.bool false) := b3.at_ 0
      have k1 : W5.cell? ⟨w.heap.size, 1, none⟩ = some (.slice none 0 0) := b3.at_ 1
      have k2 : W5.cell? ⟨w.heap.size, 2, none⟩ = some (.slice none 0 0) := b3.at_ 2
      refine bodyPost_ret (v := .tuple #[.agg #[.bool false, .slice none 0 0, .slice none 0 0], .int .i64 3]) (by simp [results, Tryz.results16, go_sem, k0, k1, k2]) rfl ?_
      exact ⟨rfl, B⟩
set_option maxHeartbeats 4000000 in
set_option maxRecDepth 100000 in
theorem gp_mnT (s : ByteArray) (u v : Nat) (w : World) (hs : s.size ≤ 4000)
    (p1 : ∀ W : World, Calls Tryz.prog 46 #[.string (s.extract 1 s.size)] W (GivesNE u 0 W)) (p2 : ∀ W : World, Calls Tryz.prog 46 #[.string ⟨#[49]⟩] W (GivesNE v 0 W)) (q0 : 0 < s.size) (q1 : (((s[0]'q0).toNat : Int) == 45) = true) (hb : ∀ (k : Nat) (h : k < (s.extract 1 s.size).size), (((((s.extract 1 s.size))[k]'h).toNat : Int) == 47) = false) (hu : u < B9 ^ 445) (hv : v < B9 ^ 445) (hz : v ≠ 0) (r : Rat) (hr : qv true u v = r) (hS : qtext r = s) :
    Calls Tryz.prog 16 #[.string s] w (GivesFE r 0 w) := by
  have P1 := hide p1
  have P2 := hide p2
  have HB := hide hb
  have d0 : decide (4000 < (s.size : Int)) = false := by simp; omega
  have zD : (s.extract 1 s.size).size = s.size - 1 := by rw [ByteArray.size_extract]; omega
  have HU := hide hu
  have HV := hide hv
  have HZ := hide hz
  have HR := hide hr
  have HS := hide hS
  have ZD := hide zD
  clear p1 p2 hb hu hv hz hr hS zD
  go_enter Tryz.func16, Tryz.ntmps16
  go_wp2_with fail
  go_loop [6, 7, 8] (fun a b i => ∃ k : Nat, k ≤ s.size - 1 ∧ a = .string (s.extract 1 s.size) ∧ b = .string ⟨#[49]⟩ ∧ i = .int .i64 (k : Int)) (fun _ _ i => s.size - 1 - (intOf i).toNat)
  case atStart => exact ⟨0, by omega, rfl, rfl, rfl⟩
  case round =>
    obtain ⟨k, hk, rfl, rfl, rfl⟩ := hrel
    by_cases hlt : k < s.size - 1
    · have e47 := HB.out k (by rw [ZD.out]; exact hlt)
      go_wp2_with fail
      go_round
      case rel => exact ⟨k + 1, by omega, rfl, rfl, by go_num⟩
      case measure => simp [intOf]; omega
    · obtain rfl : k = s.size - 1 := by omega
      go_wp2_with fail
      generalize hW : w.alloc _ = W
      obtain ⟨B, bR, -⟩ := boxesA1 hW
      clear hW
      refine (P1.out _).mono ?_
      rintro e w3 hg
      obtain ⟨A3, n3, c3, rfl, a3, hb⟩ := hg.cn
      have bR := bR.below' hb
      have B := B.trans (hb.mono B.size)
      clear hb hg
      go_wp2_with fail
      generalize hW : w3.alloc _ = W3
      obtain ⟨hb, bn, -⟩ := boxesA1 hW
      clear hW
      have bR := bR.below' hb
      have a3 := a3.below hb
      have B := B.trans (hb.mono B.size)
      clear hb
      generalize w3.heap.size = gn at *
      refine (P2.out _).mono ?_
      rintro e w4 hg
      obtain ⟨A4, n4, c4, rfl, a4, hb⟩ := hg.cn
      have bR := bR.below' hb
      have bn := bn.below' hb
      have a3 := a3.below hb
      have B := B.trans (hb.mono B.size)
      clear hb hg
      go_wp2_with fail
      generalize hW : w4.alloc _ = W4
      obtain ⟨hb, bd, -⟩ := boxesA1 hW
      clear hW
      have bR := bR.below' hb
      have bn := bn.below' hb
      have a3 := a3.below hb
      have a4 := a4.below hb
      have B := B.trans (hb.mono B.size)
      clear hb
      generalize w4.heap.size = gd at *
      refine (gzero_any 445 (by omega) _ _ _ v _ (a4.nt HV.out) false (decide_eq_false HZ.out)).mono ?_
      rintro e w5 ⟨rfl, hb⟩
      have bR := bR.below' hb
      have bn := bn.below' hb
      have bd := bd.below' hb
      have a3 := a3.below hb
      have a4 := a4.below hb
      have B := B.trans (hb.mono B.size)
      clear hb
      have q0 := bn.cell
      have q1 := bd.cell
      go_wp2_with fail
      clear q0 q1
      refine (gnew_f (L := 445) (frMk (a3.nt HU.out) (a4.nt HV.out) HR.out) (by omega) (by omega)).mono ?_
      rintro e w6 ⟨p5, A5, n5, c5, B5, m5, d5, rfl, x5, hb⟩
      have bR := bR.below' hb
      have B := B.trans (hb.mono B.size)
      clear hb bn bd a3 a4
      go_wp2_with fail
      generalize hW : w6.alloc _ = W6
      obtain ⟨hb, bx, -⟩ := boxesA1 hW
      clear hW
      have bR := bR.below' hb
      have x5 := x5.below hb
      have B := B.trans (hb.mono B.size)
      clear hb
      generalize w6.heap.size = gx at *
      refine (gtext_f (L := 446) (x5.fr (qv_ht HU.out HV.out HR.out)) (by omega) (by omega) _ HS.out).mono ?_
      rintro e w7 ⟨rfl, hb⟩
      have bR := bR.below' hb
      have bx := bx.below' hb
      have x5 := x5.below hb
      have B := B.trans (hb.mono B.size)
      clear hb
      have q0 : w7.cell? ⟨gx, 0, none⟩ = some (.bool p5) := bx.at_ 0
      have q1 : w7.cell? ⟨gx, 1, none⟩ = some (.slice A5 n5 c5) := bx.at_ 1
      have q2 : w7.cell? ⟨gx, 2, none⟩ = some (.slice B5 m5 d5) := bx.at_ 2
      have g0 : w7.cell? ⟨w.heap.size, 0, none⟩ = some (.bool false) := bR.at_ 0
      have g1 : w7.cell? ⟨w.heap.size, 1, none⟩ = some (.slice none 0 0) := bR.at_ 1
      have g2 : w7.cell? ⟨w.heap.size, 2, none⟩ = some (.slice none 0 0) := bR.at_ 2
      have f0 := bR.frozen 0
      have f1 := bR.frozen 1
      have f2 := bR.frozen 2
      have gz := bR.lt
      go_wp2_with fail
      clear g0 g1 g2 f0 f1 f2 q0 q1 q2
      generalize hW3 : ((w7.setCell _ _).setCell _ _).setCell _ _ = W3
      obtain ⟨b3, -, C3, B4, -⟩ := put3 bR hW3
      clear hW3
      have k0 : W3.cell? ⟨w.heap.size, 0, none⟩ = some (.bool p5) := b3.at_ 0
      have k1 : W3.cell? ⟨w.heap.size, 1, none⟩ = some (.slice A5 n5 c5) := b3.at_ 1
      have k2 : W3.cell? ⟨w.heap.size, 2, none⟩ = some (.slice B5 m5 d5) := b3.at_ 2
      refine bodyPost_ret (v := .tuple #[.agg #[.bool p5, .slice A5 n5 c5, .slice B5 m5 d5], .int .i64 0]) (by simp [results, Tryz.results16, go_sem, k0, k1, k2]) rfl ?_
      exact ⟨p5, A5, n5, c5, B5, m5, d5, rfl, ⟨x5.1, C3 _ _ _ _ x5.2.1, C3 _ _ _ _ x5.2.2⟩, B4 _ _ B (by omega)⟩
set_option maxHeartbeats 4000000 in
set_option maxRecDepth 100000 in
theorem gp_mnD (s : ByteArray) (u v : Nat) (w : World) (hs : s.size ≤ 4000)
    (p1 : ∀ W : World, Calls Tryz.prog 46 #[.string (s.extract 1 s.size)] W (GivesNE u 0 W)) (p2 : ∀ W : World, Calls Tryz.prog 46 #[.string ⟨#[49]⟩] W (GivesNE v 0 W)) (q0 : 0 < s.size) (q1 : (((s[0]'q0).toNat : Int) == 45) = true) (hb : ∀ (k : Nat) (h : k < (s.extract 1 s.size).size), (((((s.extract 1 s.size))[k]'h).toNat : Int) == 47) = false) (hu : u < B9 ^ 445) (hv : v < B9 ^ 445) (hz : v ≠ 0) (r : Rat) (hr : qv true u v = r) (S : ByteArray) (hS : qtext r = S) (hne : S ≠ s) :
    Calls Tryz.prog 16 #[.string s] w (fun e w' => e = .returned (.tuple #[.agg #[.bool false, .slice none 0 0, .slice none 0 0], .int .i64 3]) ∧ Below w.heap.size w w') := by
  have P1 := hide p1
  have P2 := hide p2
  have HB := hide hb
  have d0 : decide (4000 < (s.size : Int)) = false := by simp; omega
  have zD : (s.extract 1 s.size).size = s.size - 1 := by rw [ByteArray.size_extract]; omega
  have HU := hide hu
  have HV := hide hv
  have HZ := hide hz
  have HR := hide hr
  have HS := hide hS
  have hse : (S.toList == s.toList) = false := by rw [beq_eq_false_iff_ne]; intro h; rw [Lib.toList_data, Lib.toList_data] at h; exact hne (ba_eq h)
  have ZD := hide zD
  clear p1 p2 hb hu hv hz hr hS hne zD
  go_enter Tryz.func16, Tryz.ntmps16
  go_wp2_with fail
  go_loop [6, 7, 8] (fun a b i => ∃ k : Nat, k ≤ s.size - 1 ∧ a = .string (s.extract 1 s.size) ∧ b = .string ⟨#[49]⟩ ∧ i = .int .i64 (k : Int)) (fun _ _ i => s.size - 1 - (intOf i).toNat)
  case atStart => exact ⟨0, by omega, rfl, rfl, rfl⟩
  case round =>
    obtain ⟨k, hk, rfl, rfl, rfl⟩ := hrel
    by_cases hlt : k < s.size - 1
    · have e47 := HB.out k (by rw [ZD.out]; exact hlt)
      go_wp2_with fail
      go_round
      case rel => exact ⟨k + 1, by omega, rfl, rfl, by go_num⟩
      case measure => simp [intOf]; omega
    · obtain rfl : k = s.size - 1 := by omega
      go_wp2_with fail
      generalize hW : w.alloc _ = W
      obtain ⟨B, bR, -⟩ := boxesA1 hW
      clear hW
      refine (P1.out _).mono ?_
      rintro e w3 hg
      obtain ⟨A3, n3, c3, rfl, a3, hb⟩ := hg.cn
      have bR := bR.below' hb
      have B := B.trans (hb.mono B.size)
      clear hb hg
      go_wp2_with fail
      generalize hW : w3.alloc _ = W3
      obtain ⟨hb, bn, -⟩ := boxesA1 hW
      clear hW
      have bR := bR.below' hb
      have a3 := a3.below hb
      have B := B.trans (hb.mono B.size)
      clear hb
      generalize w3.heap.size = gn at *
      refine (P2.out _).mono ?_
      rintro e w4 hg
      obtain ⟨A4, n4, c4, rfl, a4, hb⟩ := hg.cn
      have bR := bR.below' hb
      have bn := bn.below' hb
      have a3 := a3.below hb
      have B := B.trans (hb.mono B.size)
      clear hb hg
      go_wp2_with fail
      generalize hW : w4.alloc _ = W4
      obtain ⟨hb, bd, -⟩ := boxesA1 hW
      clear hW
      have bR := bR.below' hb
      have bn := bn.below' hb
      have a3 := a3.below hb
      have a4 := a4.below hb
      have B := B.trans (hb.mono B.size)
      clear hb
      generalize w4.heap.size = gd at *
      refine (gzero_any 445 (by omega) _ _ _ v _ (a4.nt HV.out) false (decide_eq_false HZ.out)).mono ?_
      rintro e w5 ⟨rfl, hb⟩
      have bR := bR.below' hb
      have bn := bn.below' hb
      have bd := bd.below' hb
      have a3 := a3.below hb
      have a4 := a4.below hb
      have B := B.trans (hb.mono B.size)
      clear hb
      have q0 := bn.cell
      have q1 := bd.cell
      go_wp2_with fail
      clear q0 q1
      refine (gnew_f (L := 445) (frMk (a3.nt HU.out) (a4.nt HV.out) HR.out) (by omega) (by omega)).mono ?_
      rintro e w6 ⟨p5, A5, n5, c5, B5, m5, d5, rfl, x5, hb⟩
      have bR := bR.below' hb
      have B := B.trans (hb.mono B.size)
      clear hb bn bd a3 a4
      go_wp2_with fail
      generalize hW : w6.alloc _ = W6
      obtain ⟨hb, bx, -⟩ := boxesA1 hW
      clear hW
      have bR := bR.below' hb
      have x5 := x5.below hb
      have B := B.trans (hb.mono B.size)
      clear hb
      generalize w6.heap.size = gx at *
      refine (gtext_f (L := 446) (x5.fr (qv_ht HU.out HV.out HR.out)) (by omega) (by omega) _ HS.out).mono ?_
      rintro e w7 ⟨rfl, hb⟩
      have bR := bR.below' hb
      have bx := bx.below' hb
      have x5 := x5.below hb
      have B := B.trans (hb.mono B.size)
      clear hb
      have q0 : w7.cell? ⟨gx, 0, none⟩ = some (.bool p5) := bx.at_ 0
      have q1 : w7.cell? ⟨gx, 1, none⟩ = some (.slice A5 n5 c5) := bx.at_ 1
      have q2 : w7.cell? ⟨gx, 2, none⟩ = some (.slice B5 m5 d5) := bx.at_ 2
      have g0 : w7.cell? ⟨w.heap.size, 0, none⟩ = some (.bool false) := bR.at_ 0
      have g1 : w7.cell? ⟨w.heap.size, 1, none⟩ = some (.slice none 0 0) := bR.at_ 1
      have g2 : w7.cell? ⟨w.heap.size, 2, none⟩ = some (.slice none 0 0) := bR.at_ 2
      have f0 := bR.frozen 0
      have f1 := bR.frozen 1
      have f2 := bR.frozen 2
      have gz := bR.lt
      go_wp2_with fail
      clear q0 q1 q2
      clear g0 g1 g2 f0 f1 f2
      generalize hW3 : ((World.setCell _ _ _).setCell _ _).setCell _ _ = W3
      obtain ⟨b3, -, C3, B4, -⟩ := put3 bR hW3
      clear hW3
      have k0 : W3.cell? ⟨w.heap.size, 0, none⟩ = some (.bool false) := b3.at_ 0
      have k1 : W3.cell? ⟨w.heap.size, 1, none⟩ = some (.slice none 0 0) := b3.at_ 1
      have k2 : W3.cell? ⟨w.heap.size, 2, none⟩ = some (.slice none 0 0) := b3.at_ 2
      refine bodyPost_ret (v := .tuple #[.agg #[.bool false, .slice none 0 0, .slice none 0 0], .int .i64 3]) (by simp [results, Tryz.results16, go_sem, k0, k1, k2]) rfl ?_
      exact ⟨rfl, B4 _ _ B (by omega)⟩
end Go.Proofs.YtoeknkakdoemfaaGreatDoor

/- coinageref02.Parse: walks, under the contracts of what it calls. -/
namespace Go.Proofs.YtoeknkakdoemfaaGreatDoor
open Go Go.RowKit

set_option maxHeartbeats 4000000 in
set_option maxRecDepth 100000 in
theorem gp_pyE1 (s : ByteArray) (K : Nat) (u v : Nat) (er : Int) (w : World) (hs : s.size ≤ 4000)
    (p1 : ∀ W : World, Calls Tryz.prog 46 #[.string (s.extract 0 K)] W (GivesNE u 3 W)) (p2 : ∀ W : World, Calls Tryz.prog 46 #[.string (s.extract (K + 1) s.size)] W (GivesNE v er W)) (q0 : 0 < s.size) (q1 : (((s[0]'q0).toNat : Int) == 45) = false) (hK : K < s.size) (hc : ((((s)[K]'hK).toNat : Int) == 47) = true) (hb : ∀ (k : Nat) (h : k < K), ((((s)[k]'(Nat.lt_trans h hK)).toNat : Int) == 47) = false) :
    Calls Tryz.prog 16 #[.string s] w (fun e w' => e = .returned (.tuple #[.agg #[.bool false, .slice none 0 0, .slice none 0 0], .int .i64 3]) ∧ Below w.heap.size w w') := by
  have P1 := hide p1
  have P2 := hide p2
  have HB := hide hb
  have d0 : decide (4000 < (s.size : Int)) = false := by simp; omega
  have HC := hide hc
  clear p1 p2 hb hc
  go_enter Tryz.func16, Tryz.ntmps16
  go_wp2_with fail
  go_loop [6, 7, 8] (fun a b i => ∃ k : Nat, k ≤ K ∧ a = .string s ∧ b = .string ⟨#[49]⟩ ∧ i = .int .i64 (k : Int)) (fun _ _ i => K - (intOf i).toNat)
  case atStart => exact ⟨0, by omega, rfl, rfl, rfl⟩
  case round =>
    obtain ⟨k, hk, rfl, rfl, rfl⟩ := hrel
    by_cases hlt : k < K
    · have e47 := HB.out k hlt
      have hks : k < s.size := by omega
      go_wp2_with fail
      go_round
      case rel => exact ⟨k + 1, by omega, rfl, rfl, by go_num⟩
      case measure => simp [intOf]; omega
    · obtain rfl : k = K := by omega
      have e47 := HC.out
      have hks : k < s.size := by omega
      have kk0 : (0 : Int) ≤ (k : Int) := by omega
      have kk1 : (0 : Int) ≤ (k : Int) + 1 := by omega
      have kk2 : (k : Int) + 1 ≤ (s.size : Nat) := by omega
      go_wp2_with fail
      go_region
      go_wp2_with fail
      generalize hW : (w.alloc _).drew = W
      obtain ⟨B, bR⟩ := boxZ hW
      clear hW
      refine (P1.out _).mono ?_
      rintro e w3 hg
      obtain ⟨A3, n3, c3, rfl, a3, hb⟩ := hg.cn
      have bR := bR.below' hb
      have B := B.trans (hb.mono B.size)
      clear hb hg
      go_wp2_with fail
      generalize hW : w3.alloc _ = W3
      obtain ⟨hb, bn, -⟩ := boxesA1 hW
      clear hW
      have bR := bR.below' hb
      have a3 := a3.below hb
      have B := B.trans (hb.mono B.size)
      clear hb
      generalize w3.heap.size = gn at *
      refine (P2.out _).mono ?_
      rintro e w4 hg
      obtain ⟨A4, n4, c4, rfl, a4, hb⟩ := hg.cn
      have bR := bR.below' hb
      have bn := bn.below' hb
      have a3 := a3.below hb
      have B := B.trans (hb.mono B.size)
      clear hb hg
      have g0 : w4.cell? ⟨w.heap.size, 0, none⟩ = some (.bool false) := bR.at_ 0
      have g1 : w4.cell? ⟨w.heap.size, 1, none⟩ = some (.slice none 0 0) := bR.at_ 1
      have g2 : w4.cell? ⟨w.heap.size, 2, none⟩ = some (.slice none 0 0) := bR.at_ 2
      have f0 := bR.frozen 0
      have f1 := bR.frozen 1
      have f2 := bR.frozen 2
      have gz := bR.lt
      go_wp2_with fail
      clear g0 g1 g2 f0 f1 f2
      generalize hW3 : ((World.setCell _ _ _).setCell _ _).setCell _ _ = W3
      obtain ⟨b3, -, C3, B4, -⟩ := put3 bR hW3
      clear hW3
      have B := B4 _ _ B (Nat.le_refl _)
      generalize hW : W3.alloc _ = W5
      obtain ⟨hb, -, -⟩ := boxesA1 hW
      clear hW
      have b3 := b3.below' hb
      have B := B.trans (hb.mono B.size)
      have k0 : W5.cell? ⟨w.heap.size, 0, none⟩ = some (.bool false) := b3.at_ 0
      have k1 : W5.cell? ⟨w.heap.size, 1, none⟩ = some (.slice none 0 0) := b3.at_ 1
      have k2 : W5.cell? ⟨w.heap.size, 2, none⟩ = some (.slice none 0 0) := b3.at_ 2
      refine bodyPost_ret (v := .tuple #[.agg #[.bool false, .slice none 0 0, .slice none 0 0], .int .i64 3]) (by simp [results, Tryz.results16, go_sem, k0, k1, k2]) rfl ?_
      exact ⟨rfl, B⟩
set_option maxHeartbeats 4000000 in
set_option maxRecDepth 100000 in
theorem gp_pyE2 (s : ByteArray) (K : Nat) (u v : Nat) (w : World) (hs : s.size ≤ 4000)
    (p1 : ∀ W : World, Calls Tryz.prog 46 #[.string (s.extract 0 K)] W (GivesNE u 0 W)) (p2 : ∀ W : World, Calls Tryz.prog 46 #[.string (s.extract (K + 1) s.size)] W (GivesNE v 3 W)) (q0 : 0 < s.size) (q1 : (((s[0]'q0).toNat : Int) == 45) = false) (hK : K < s.size) (hc : ((((s)[K]'hK).toNat : Int) == 47) = true) (hb : ∀ (k : Nat) (h : k < K), ((((s)[k]'(Nat.lt_trans h hK)).toNat : Int) == 47) = false) :
    Calls Tryz.prog 16 #[.string s] w (fun e w' => e = .returned (.tuple #[.agg #[.bool false, .slice none 0 0, .slice none 0 0], .int .i64 3]) ∧ Below w.heap.size w w') := by
  have P1 := hide p1
  have P2 := hide p2
  have HB := hide hb
  have d0 : decide (4000 < (s.size : Int)) = false := by simp; omega
  have HC := hide hc
  clear p1 p2 hb hc
  go_enter Tryz.func16, Tryz.ntmps16
  go_wp2_with fail
  go_loop [6, 7, 8] (fun a b i => ∃ k : Nat, k ≤ K ∧ a = .string s ∧ b = .string ⟨#[49]⟩ ∧ i = .int .i64 (k : Int)) (fun _ _ i => K - (intOf i).toNat)
  case atStart => exact ⟨0, by omega, rfl, rfl, rfl⟩
  case round =>
    obtain ⟨k, hk, rfl, rfl, rfl⟩ := hrel
    by_cases hlt : k < K
    · have e47 := HB.out k hlt
      have hks : k < s.size := by omega
      go_wp2_with fail
      go_round
      case rel => exact ⟨k + 1, by omega, rfl, rfl, by go_num⟩
      case measure => simp [intOf]; omega
    · obtain rfl : k = K := by omega
      have e47 := HC.out
      have hks : k < s.size := by omega
      have kk0 : (0 : Int) ≤ (k : Int) := by omega
      have kk1 : (0 : Int) ≤ (k : Int) + 1 := by omega
      have kk2 : (k : Int) + 1 ≤ (s.size : Nat) := by omega
      go_wp2_with fail
      go_region
      go_wp2_with fail
      generalize hW : (w.alloc _).drew = W
      obtain ⟨B, bR⟩ := boxZ hW
      clear hW
      refine (P1.out _).mono ?_
      rintro e w3 hg
      obtain ⟨A3, n3, c3, rfl, a3, hb⟩ := hg.cn
      have bR := bR.below' hb
      have B := B.trans (hb.mono B.size)
      clear hb hg
      go_wp2_with fail
      generalize hW : w3.alloc _ = W3
      obtain ⟨hb, bn, -⟩ := boxesA1 hW
      clear hW
      have bR := bR.below' hb
      have a3 := a3.below hb
      have B := B.trans (hb.mono B.size)
      clear hb
      generalize w3.heap.size = gn at *
      refine (P2.out _).mono ?_
      rintro e w4 hg
      obtain ⟨A4, n4, c4, rfl, a4, hb⟩ := hg.cn
      have bR := bR.below' hb
      have bn := bn.below' hb
      have a3 := a3.below hb
      have B := B.trans (hb.mono B.size)
      clear hb hg
      have g0 : w4.cell? ⟨w.heap.size, 0, none⟩ = some (.bool false) := bR.at_ 0
      have g1 : w4.cell? ⟨w.heap.size, 1, none⟩ = some (.slice none 0 0) := bR.at_ 1
      have g2 : w4.cell? ⟨w.heap.size, 2, none⟩ = some (.slice none 0 0) := bR.at_ 2
      have f0 := bR.frozen 0
      have f1 := bR.frozen 1
      have f2 := bR.frozen 2
      have gz := bR.lt
      go_wp2_with fail
      clear g0 g1 g2 f0 f1 f2
      generalize hW3 : ((World.setCell _ _ _).setCell _ _).setCell _ _ = W3
      obtain ⟨b3, -, C3, B4, -⟩ := put3 bR hW3
      clear hW3
      have B := B4 _ _ B (Nat.le_refl _)
      generalize hW : W3.alloc _ = W5
      obtain ⟨hb, -, -⟩ := boxesA1 hW
      clear hW
      have b3 := b3.below' hb
      have B := B.trans (hb.mono B.size)
      have k0 : W5.cell? ⟨w.heap.size, 0, none⟩ = some (.bool false) := b3.at_ 0
      have k1 : W5.cell? ⟨w.heap.size, 1, none⟩ = some (.slice none 0 0) := b3.at_ 1
      have k2 : W5.cell? ⟨w.heap.size, 2, none⟩ = some (.slice none 0 0) := b3.at_ 2
      refine bodyPost_ret (v := .tuple #[.agg #[.bool false, .slice none 0 0, .slice none 0 0], .int .i64 3]) (by simp [results, Tryz.results16, go_sem, k0, k1, k2]) rfl ?_
      exact ⟨rfl, B⟩
set_option maxHeartbeats 4000000 in
set_option maxRecDepth 100000 in
theorem gp_pyZ (s : ByteArray) (K : Nat) (u v : Nat) (w : World) (hs : s.size ≤ 4000)
    (p1 : ∀ W : World, Calls Tryz.prog 46 #[.string (s.extract 0 K)] W (GivesNE u 0 W)) (p2 : ∀ W : World, Calls Tryz.prog 46 #[.string (s.extract (K + 1) s.size)] W (GivesNE v 0 W)) (q0 : 0 < s.size) (q1 : (((s[0]'q0).toNat : Int) == 45) = false) (hK : K < s.size) (hc : ((((s)[K]'hK).toNat : Int) == 47) = true) (hb : ∀ (k : Nat) (h : k < K), ((((s)[k]'(Nat.lt_trans h hK)).toNat : Int) == 47) = false) (hu : u < B9 ^ 445) (hv : v < B9 ^ 445) (hz : v = 0) :
    Calls Tryz.prog 16 #[.string s] w (fun e w' => e = .returned (.tuple #[.agg #[.bool false, .slice none 0 0, .slice none 0 0], .int .i64 3]) ∧ Below w.heap.size w w') := by
  have P1 := hide p1
  have P2 := hide p2
  have HB := hide hb
  have d0 : decide (4000 < (s.size : Int)) = false := by simp; omega
  have HC := hide hc
  have HU := hide hu
  have HV := hide hv
  have HZ := hide hz
  clear p1 p2 hb hc hu hv hz
  go_enter Tryz.func16, Tryz.ntmps16
  go_wp2_with fail
  go_loop [6, 7, 8] (fun a b i => ∃ k : Nat, k ≤ K ∧ a = .string s ∧ b = .string ⟨#[49]⟩ ∧ i = .int .i64 (k : Int)) (fun _ _ i => K - (intOf i).toNat)
  case atStart => exact ⟨0, by omega, rfl, rfl, rfl⟩
  case round =>
    obtain ⟨k, hk, rfl, rfl, rfl⟩ := hrel
    by_cases hlt : k < K
    · have e47 := HB.out k hlt
      have hks : k < s.size := by omega
      go_wp2_with fail
      go_round
      case rel => exact ⟨k + 1, by omega, rfl, rfl, by go_num⟩
      case measure => simp [intOf]; omega
    · obtain rfl : k = K := by omega
      have e47 := HC.out
      have hks : k < s.size := by omega
      have kk0 : (0 : Int) ≤ (k : Int) := by omega
      have kk1 : (0 : Int) ≤ (k : Int) + 1 := by omega
      have kk2 : (k : Int) + 1 ≤ (s.size : Nat) := by omega
      go_wp2_with fail
      go_region
      go_wp2_with fail
      generalize hW : (w.alloc _).drew = W
      obtain ⟨B, bR⟩ := boxZ hW
      clear hW
      refine (P1.out _).mono ?_
      rintro e w3 hg
      obtain ⟨A3, n3, c3, rfl, a3, hb⟩ := hg.cn
      have bR := bR.below' hb
      have B := B.trans (hb.mono B.size)
      clear hb hg
      go_wp2_with fail
      generalize hW : w3.alloc _ = W3
      obtain ⟨hb, bn, -⟩ := boxesA1 hW
      clear hW
      have bR := bR.below' hb
      have a3 := a3.below hb
      have B := B.trans (hb.mono B.size)
      clear hb
      generalize w3.heap.size = gn at *
      refine (P2.out _).mono ?_
      rintro e w4 hg
      obtain ⟨A4, n4, c4, rfl, a4, hb⟩ := hg.cn
      have bR := bR.below' hb
      have bn := bn.below' hb
      have a3 := a3.below hb
      have B := B.trans (hb.mono B.size)
      clear hb hg
      go_wp2_with fail
      generalize hW : w4.alloc _ = W4
      obtain ⟨hb, bd, -⟩ := boxesA1 hW
      clear hW
      have bR := bR.below' hb
      have bn := bn.below' hb
      have a3 := a3.below hb
      have a4 := a4.below hb
      have B := B.trans (hb.mono B.size)
      clear hb
      generalize w4.heap.size = gd at *
      refine (gzero_any 445 (by omega) _ _ _ v _ (a4.nt HV.out) true (decide_eq_true HZ.out)).mono ?_
      rintro e w5 ⟨rfl, hb⟩
      have bR := bR.below' hb
      have bn := bn.below' hb
      have bd := bd.below' hb
      have a3 := a3.below hb
      have a4 := a4.below hb
      have B := B.trans (hb.mono B.size)
      clear hb
      have g0 : w5.cell? ⟨w.heap.size, 0, none⟩ = some (.bool false) := bR.at_ 0
      have g1 : w5.cell? ⟨w.heap.size, 1, none⟩ = some (.slice none 0 0) := bR.at_ 1
      have g2 : w5.cell? ⟨w.heap.size, 2, none⟩ = some (.slice none 0 0) := bR.at_ 2
      have f0 := bR.frozen 0
      have f1 := bR.frozen 1
      have f2 := bR.frozen 2
      have gz := bR.lt
      go_wp2_with fail
      clear g0 g1 g2 f0 f1 f2
      generalize hW3 : ((World.setCell _ _ _).setCell _ _).setCell _ _ = W3
      obtain ⟨b3, -, C3, B4, -⟩ := put3 bR hW3
      clear hW3
      have k0 : W3.cell? ⟨w.heap.size, 0, none⟩ = some (.bool false) := b3.at_ 0
      have k1 : W3.cell? ⟨w.heap.size, 1, none⟩ = some (.slice none 0 0) := b3.at_ 1
      have k2 : W3.cell? ⟨w.heap.size, 2, none⟩ = some (.slice none 0 0) := b3.at_ 2
      refine bodyPost_ret (v := .tuple #[.agg #[.bool false, .slice none 0 0, .slice none 0 0], .int .i64 3]) (by simp [results, Tryz.results16, go_sem, k0, k1, k2]) rfl ?_
      exact ⟨rfl, B4 _ _ B (by omega)⟩
set_option maxHeartbeats 4000000 in
set_option maxRecDepth 100000 in
theorem gp_pyT (s : ByteArray) (K : Nat) (u v : Nat) (w : World) (hs : s.size ≤ 4000)
    (p1 : ∀ W : World, Calls Tryz.prog 46 #[.string (s.extract 0 K)] W (GivesNE u 0 W)) (p2 : ∀ W : World, Calls Tryz.prog 46 #[.string (s.extract (K + 1) s.size)] W (GivesNE v 0 W)) (q0 : 0 < s.size) (q1 : (((s[0]'q0).toNat : Int) == 45) = false) (hK : K < s.size) (hc : ((((s)[K]'hK).toNat : Int) == 47) = true) (hb : ∀ (k : Nat) (h : k < K), ((((s)[k]'(Nat.lt_trans h hK)).toNat : Int) == 47) = false) (hu : u < B9 ^ 445) (hv : v < B9 ^ 445) (hz : v ≠ 0) (r : Rat) (hr : qv false u v = r) (hS : qtext r = s) :
    Calls Tryz.prog 16 #[.string s] w (GivesFE r 0 w) := by
  have P1 := hide p1
  have P2 := hide p2
  have HB := hide hb
  have d0 : decide (4000 < (s.size : Int)) = false := by simp; omega
  have HC := hide hc
  have HU := hide hu
  have HV := hide hv
  have HZ := hide hz
  have HR := hide hr
  have HS := hide hS
  clear p1 p2 hb hc hu hv hz hr hS
  go_enter Tryz.func16, Tryz.ntmps16
  go_wp2_with fail
  go_loop [6, 7, 8] (fun a b i => ∃ k : Nat, k ≤ K ∧ a = .string s ∧ b = .string ⟨#[49]⟩ ∧ i = .int .i64 (k : Int)) (fun _ _ i => K - (intOf i).toNat)
  case atStart => exact ⟨0, by omega, rfl, rfl, rfl⟩
  case round =>
    obtain ⟨k, hk, rfl, rfl, rfl⟩ := hrel
    by_cases hlt : k < K
    · have e47 := HB.out k hlt
      have hks : k < s.size := by omega
      go_wp2_with fail
      go_round
      case rel => exact ⟨k + 1, by omega, rfl, rfl, by go_num⟩
      case measure => simp [intOf]; omega
    · obtain rfl : k = K := by omega
      have e47 := HC.out
      have hks : k < s.size := by omega
      have kk0 : (0 : Int) ≤ (k : Int) := by omega
      have kk1 : (0 : Int) ≤ (k : Int) + 1 := by omega
      have kk2 : (k : Int) + 1 ≤ (s.size : Nat) := by omega
      go_wp2_with fail
      go_region
      go_wp2_with fail
      generalize hW : (w.alloc _).drew = W
      obtain ⟨B, bR⟩ := boxZ hW
      clear hW
      refine (P1.out _).mono ?_
      rintro e w3 hg
      obtain ⟨A3, n3, c3, rfl, a3, hb⟩ := hg.cn
      have bR := bR.below' hb
      have B := B.trans (hb.mono B.size)
      clear hb hg
      go_wp2_with fail
      generalize hW : w3.alloc _ = W3
      obtain ⟨hb, bn, -⟩ := boxesA1 hW
      clear hW
      have bR := bR.below' hb
      have a3 := a3.below hb
      have B := B.trans (hb.mono B.size)
      clear hb
      generalize w3.heap.size = gn at *
      refine (P2.out _).mono ?_
      rintro e w4 hg
      obtain ⟨A4, n4, c4, rfl, a4, hb⟩ := hg.cn
      have bR := bR.below' hb
      have bn := bn.below' hb
      have a3 := a3.below hb
      have B := B.trans (hb.mono B.size)
      clear hb hg
      go_wp2_with fail
      generalize hW : w4.alloc _ = W4
      obtain ⟨hb, bd, -⟩ := boxesA1 hW
      clear hW
      have bR := bR.below' hb
      have bn := bn.below' hb
      have a3 := a3.below hb
      have a4 := a4.below hb
      have B := B.trans (hb.mono B.size)
      clear hb
      generalize w4.heap.size = gd at *
      refine (gzero_any 445 (by omega) _ _ _ v _ (a4.nt HV.out) false (decide_eq_false HZ.out)).mono ?_
      rintro e w5 ⟨rfl, hb⟩
      have bR := bR.below' hb
      have bn := bn.below' hb
      have bd := bd.below' hb
      have a3 := a3.below hb
      have a4 := a4.below hb
      have B := B.trans (hb.mono B.size)
      clear hb
      have q0 := bn.cell
      have q1 := bd.cell
      go_wp2_with fail
      clear q0 q1
      refine (gnew_f (L := 445) (frMk (a3.nt HU.out) (a4.nt HV.out) HR.out) (by omega) (by omega)).mono ?_
      rintro e w6 ⟨p5, A5, n5, c5, B5, m5, d5, rfl, x5, hb⟩
      have bR := bR.below' hb
      have B := B.trans (hb.mono B.size)
      clear hb bn bd a3 a4
      go_wp2_with fail
      generalize hW : w6.alloc _ = W6
      obtain ⟨hb, bx, -⟩ := boxesA1 hW
      clear hW
      have bR := bR.below' hb
      have x5 := x5.below hb
      have B := B.trans (hb.mono B.size)
      clear hb
      generalize w6.heap.size = gx at *
      refine (gtext_f (L := 446) (x5.fr (qv_ht HU.out HV.out HR.out)) (by omega) (by omega) _ HS.out).mono ?_
      rintro e w7 ⟨rfl, hb⟩
      have bR := bR.below' hb
      have bx := bx.below' hb
      have x5 := x5.below hb
      have B := B.trans (hb.mono B.size)
      clear hb
      have q0 : w7.cell? ⟨gx, 0, none⟩ = some (.bool p5) := bx.at_ 0
      have q1 : w7.cell? ⟨gx, 1, none⟩ = some (.slice A5 n5 c5) := bx.at_ 1
      have q2 : w7.cell? ⟨gx, 2, none⟩ = some (.slice B5 m5 d5) := bx.at_ 2
      have g0 : w7.cell? ⟨w.heap.size, 0, none⟩ = some (.bool false) := bR.at_ 0
      have g1 : w7.cell? ⟨w.heap.size, 1, none⟩ = some (.slice none 0 0) := bR.at_ 1
      have g2 : w7.cell? ⟨w.heap.size, 2, none⟩ = some (.slice none 0 0) := bR.at_ 2
      have f0 := bR.frozen 0
      have f1 := bR.frozen 1
      have f2 := bR.frozen 2
      have gz := bR.lt
      go_wp2_with fail
      clear g0 g1 g2 f0 f1 f2 q0 q1 q2
      generalize hW3 : ((w7.setCell _ _).setCell _ _).setCell _ _ = W3
      obtain ⟨b3, -, C3, B4, -⟩ := put3 bR hW3
      clear hW3
      have k0 : W3.cell? ⟨w.heap.size, 0, none⟩ = some (.bool p5) := b3.at_ 0
      have k1 : W3.cell? ⟨w.heap.size, 1, none⟩ = some (.slice A5 n5 c5) := b3.at_ 1
      have k2 : W3.cell? ⟨w.heap.size, 2, none⟩ = some (.slice B5 m5 d5) := b3.at_ 2
      refine bodyPost_ret (v := .tuple #[.agg #[.bool p5, .slice A5 n5 c5, .slice B5 m5 d5], .int .i64 0]) (by simp [results, Tryz.results16, go_sem, k0, k1, k2]) rfl ?_
      exact ⟨p5, A5, n5, c5, B5, m5, d5, rfl, ⟨x5.1, C3 _ _ _ _ x5.2.1, C3 _ _ _ _ x5.2.2⟩, B4 _ _ B (by omega)⟩
set_option maxHeartbeats 4000000 in
set_option maxRecDepth 100000 in
theorem gp_pyD (s : ByteArray) (K : Nat) (u v : Nat) (w : World) (hs : s.size ≤ 4000)
    (p1 : ∀ W : World, Calls Tryz.prog 46 #[.string (s.extract 0 K)] W (GivesNE u 0 W)) (p2 : ∀ W : World, Calls Tryz.prog 46 #[.string (s.extract (K + 1) s.size)] W (GivesNE v 0 W)) (q0 : 0 < s.size) (q1 : (((s[0]'q0).toNat : Int) == 45) = false) (hK : K < s.size) (hc : ((((s)[K]'hK).toNat : Int) == 47) = true) (hb : ∀ (k : Nat) (h : k < K), ((((s)[k]'(Nat.lt_trans h hK)).toNat : Int) == 47) = false) (hu : u < B9 ^ 445) (hv : v < B9 ^ 445) (hz : v ≠ 0) (r : Rat) (hr : qv false u v = r) (S : ByteArray) (hS : qtext r = S) (hne : S ≠ s) :
    Calls Tryz.prog 16 #[.string s] w (fun e w' => e = .returned (.tuple #[.agg #[.bool false, .slice none 0 0, .slice none 0 0], .int .i64 3]) ∧ Below w.heap.size w w') := by
  have P1 := hide p1
  have P2 := hide p2
  have HB := hide hb
  have d0 : decide (4000 < (s.size : Int)) = false := by simp; omega
  have HC := hide hc
  have HU := hide hu
  have HV := hide hv
  have HZ := hide hz
  have HR := hide hr
  have HS := hide hS
  have hse : (S.toList == s.toList) = false := by rw [beq_eq_false_iff_ne]; intro h; rw [Lib.toList_data, Lib.toList_data] at h; exact hne (ba_eq h)
  clear p1 p2 hb hc hu hv hz hr hS hne
  go_enter Tryz.func16, Tryz.ntmps16
  go_wp2_with fail
  go_loop [6, 7, 8] (fun a b i => ∃ k : Nat, k ≤ K ∧ a = .string s ∧ b = .string ⟨#[49]⟩ ∧ i = .int .i64 (k : Int)) (fun _ _ i => K - (intOf i).toNat)
  case atStart => exact ⟨0, by omega, rfl, rfl, rfl⟩
  case round =>
    obtain ⟨k, hk, rfl, rfl, rfl⟩ := hrel
    by_cases hlt : k < K
    · have e47 := HB.out k hlt
      have hks : k < s.size := by omega
      go_wp2_with fail
      go_round
      case rel => exact ⟨k + 1, by omega, rfl, rfl, by go_num⟩
      case measure => simp [intOf]; omega
    · obtain rfl : k = K := by omega
      have e47 := HC.out
      have hks : k < s.size := by omega
      have kk0 : (0 : Int) ≤ (k : Int) := by omega
      have kk1 : (0 : Int) ≤ (k : Int) + 1 := by omega
      have kk2 : (k : Int) + 1 ≤ (s.size : Nat) := by omega
      go_wp2_with fail
      go_region
      go_wp2_with fail
      generalize hW : (w.alloc _).drew = W
      obtain ⟨B, bR⟩ := boxZ hW
      clear hW
      refine (P1.out _).mono ?_
      rintro e w3 hg
      obtain ⟨A3, n3, c3, rfl, a3, hb⟩ := hg.cn
      have bR := bR.below' hb
      have B := B.trans (hb.mono B.size)
      clear hb hg
      go_wp2_with fail
      generalize hW : w3.alloc _ = W3
      obtain ⟨hb, bn, -⟩ := boxesA1 hW
      clear hW
      have bR := bR.below' hb
      have a3 := a3.below hb
      have B := B.trans (hb.mono B.size)
      clear hb
      generalize w3.heap.size = gn at *
      refine (P2.out _).mono ?_
      rintro e w4 hg
      obtain ⟨A4, n4, c4, rfl, a4, hb⟩ := hg.cn
      have bR := bR.below' hb
      have bn := bn.below' hb
      have a3 := a3.below hb
      have B := B.trans (hb.mono B.size)
      clear hb hg
      go_wp2_with fail
      generalize hW : w4.alloc _ = W4
      obtain ⟨hb, bd, -⟩ := boxesA1 hW
      clear hW
      have bR := bR.below' hb
      have bn := bn.below' hb
      have a3 := a3.below hb
      have a4 := a4.below hb
      have B := B.trans (hb.mono B.size)
      clear hb
      generalize w4.heap.size = gd at *
      refine (gzero_any 445 (by omega) _ _ _ v _ (a4.nt HV.out) false (decide_eq_false HZ.out)).mono ?_
      rintro e w5 ⟨rfl, hb⟩
      have bR := bR.below' hb
      have bn := bn.below' hb
      have bd := bd.below' hb
      have a3 := a3.below hb
      have a4 := a4.below hb
      have B := B.trans (hb.mono B.size)
      clear hb
      have q0 := bn.cell
      have q1 := bd.cell
      go_wp2_with fail
      clear q0 q1
      refine (gnew_f (L := 445) (frMk (a3.nt HU.out) (a4.nt HV.out) HR.out) (by omega) (by omega)).mono ?_
      rintro e w6 ⟨p5, A5, n5, c5, B5, m5, d5, rfl, x5, hb⟩
      have bR := bR.below' hb
      have B := B.trans (hb.mono B.size)
      clear hb bn bd a3 a4
      go_wp2_with fail
      generalize hW : w6.alloc _ = W6
      obtain ⟨hb, bx, -⟩ := boxesA1 hW
      clear hW
      have bR := bR.below' hb
      have x5 := x5.below hb
      have B := B.trans (hb.mono B.size)
      clear hb
      generalize w6.heap.size = gx at *
      refine (gtext_f (L := 446) (x5.fr (qv_ht HU.out HV.out HR.out)) (by omega) (by omega) _ HS.out).mono ?_
      rintro e w7 ⟨rfl, hb⟩
      have bR := bR.below' hb
      have bx := bx.below' hb
      have x5 := x5.below hb
      have B := B.trans (hb.mono B.size)
      clear hb
      have q0 : w7.cell? ⟨gx, 0, none⟩ = some (.bool p5) := bx.at_ 0
      have q1 : w7.cell? ⟨gx, 1, none⟩ = some (.slice A5 n5 c5) := bx.at_ 1
      have q2 : w7.cell? ⟨gx, 2, none⟩ = some (.slice B5 m5 d5) := bx.at_ 2
      have g0 : w7.cell? ⟨w.heap.size, 0, none⟩ = some (.bool false) := bR.at_ 0
      have g1 : w7.cell? ⟨w.heap.size, 1, none⟩ = some (.slice none 0 0) := bR.at_ 1
      have g2 : w7.cell? ⟨w.heap.size, 2, none⟩ = some (.slice none 0 0) := bR.at_ 2
      have f0 := bR.frozen 0
      have f1 := bR.frozen 1
      have f2 := bR.frozen 2
      have gz := bR.lt
      go_wp2_with fail
      clear q0 q1 q2
      clear g0 g1 g2 f0 f1 f2
      generalize hW3 : ((World.setCell _ _ _).setCell _ _).setCell _ _ = W3
      obtain ⟨b3, -, C3, B4, -⟩ := put3 bR hW3
      clear hW3
      have k0 : W3.cell? ⟨w.heap.size, 0, none⟩ = some (.bool false) := b3.at_ 0
      have k1 : W3.cell? ⟨w.heap.size, 1, none⟩ = some (.slice none 0 0) := b3.at_ 1
      have k2 : W3.cell? ⟨w.heap.size, 2, none⟩ = some (.slice none 0 0) := b3.at_ 2
      refine bodyPost_ret (v := .tuple #[.agg #[.bool false, .slice none 0 0, .slice none 0 0], .int .i64 3]) (by simp [results, Tryz.results16, go_sem, k0, k1, k2]) rfl ?_
      exact ⟨rfl, B4 _ _ B (by omega)⟩
end Go.Proofs.YtoeknkakdoemfaaGreatDoor

/- coinageref02.Parse: walks, under the contracts of what it calls. -/
namespace Go.Proofs.YtoeknkakdoemfaaGreatDoor
open Go Go.RowKit

set_option maxHeartbeats 4000000 in
set_option maxRecDepth 100000 in
theorem gp_pnE1 (s : ByteArray) (u v : Nat) (er : Int) (w : World) (hs : s.size ≤ 4000)
    (p1 : ∀ W : World, Calls Tryz.prog 46 #[.string s] W (GivesNE u 3 W)) (p2 : ∀ W : World, Calls Tryz.prog 46 #[.string ⟨#[49]⟩] W (GivesNE v er W)) (q0 : 0 < s.size) (q1 : (((s[0]'q0).toNat : Int) == 45) = false) (hb : ∀ (k : Nat) (h : k < s.size), ((((s)[k]'h).toNat : Int) == 47) = false) :
    Calls Tryz.prog 16 #[.string s] w (fun e w' => e = .returned (.tuple #[.agg #[.bool false, .slice none 0 0, .slice none 0 0], .int .i64 3]) ∧ Below w.heap.size w w') := by
  have P1 := hide p1
  have P2 := hide p2
  have HB := hide hb
  have d0 : decide (4000 < (s.size : Int)) = false := by simp; omega
  clear p1 p2 hb
  go_enter Tryz.func16, Tryz.ntmps16
  go_wp2_with fail
  go_loop [6, 7, 8] (fun a b i => ∃ k : Nat, k ≤ s.size ∧ a = .string s ∧ b = .string ⟨#[49]⟩ ∧ i = .int .i64 (k : Int)) (fun _ _ i => s.size - (intOf i).toNat)
  case atStart => exact ⟨0, by omega, rfl, rfl, rfl⟩
  case round =>
    obtain ⟨k, hk, rfl, rfl, rfl⟩ := hrel
    by_cases hlt : k < s.size
    · have e47 := HB.out k hlt
      go_wp2_with fail
      go_round
      case rel => exact ⟨k + 1, by omega, rfl, rfl, by go_num⟩
      case measure => simp [intOf]; omega
    · obtain rfl : k = s.size := by omega
      go_wp2_with fail
      generalize hW : w.alloc _ = W
      obtain ⟨B, bR, -⟩ := boxesA1 hW
      clear hW
      refine (P1.out _).mono ?_
      rintro e w3 hg
      obtain ⟨A3, n3, c3, rfl, a3, hb⟩ := hg.cn
      have bR := bR.below' hb
      have B := B.trans (hb.mono B.size)
      clear hb hg
      go_wp2_with fail
      generalize hW : w3.alloc _ = W3
      obtain ⟨hb, bn, -⟩ := boxesA1 hW
      clear hW
      have bR := bR.below' hb
      have a3 := a3.below hb
      have B := B.trans (hb.mono B.size)
      clear hb
      generalize w3.heap.size = gn at *
      refine (P2.out _).mono ?_
      rintro e w4 hg
      obtain ⟨A4, n4, c4, rfl, a4, hb⟩ := hg.cn
      have bR := bR.below' hb
      have bn := bn.below' hb
      have a3 := a3.below hb
      have B := B.trans (hb.mono B.size)
      clear hb hg
      have g0 : w4.cell? ⟨w.heap.size, 0, none⟩ = some (.bool false) := bR.at_ 0
      have g1 : w4.cell? ⟨w.heap.size, 1, none⟩ = some (.slice none 0 0) := bR.at_ 1
      have g2 : w4.cell? ⟨w.heap.size, 2, none⟩ = some (.slice none 0 0) := bR.at_ 2
      have f0 := bR.frozen 0
      have f1 := bR.frozen 1
      have f2 := bR.frozen 2
      have gz := bR.lt
      go_wp2_with fail
      clear g0 g1 g2 f0 f1 f2
      generalize hW3 : ((World.setCell _ _ _).setCell _ _).setCell _ _ = W3
      obtain ⟨b3, -, C3, B4, -⟩ := put3 bR hW3
      clear hW3
      have B := B4 _ _ B (Nat.le_refl _)
      generalize hW : W3.alloc _ = W5
      obtain ⟨hb, -, -⟩ := boxesA1 hW
      clear hW
      have b3 := b3.below' hb
      have B := B.trans (hb.mono B.size)
      have k0 : W5.cell? ⟨w.heap.size, 0, none⟩ = some (.bool false) := b3.at_ 0
      have k1 : W5.cell? ⟨w.heap.size, 1, none⟩ = some (.slice none 0 0) := b3.at_ 1
      have k2 : W5.cell? ⟨w.heap.size, 2, none⟩ = some (.slice none 0 0) := b3.at_ 2
      refine bodyPost_ret (v := .tuple #[.agg #[.bool false, .slice none 0 0, .slice none 0 0], .int .i64 3]) (by simp [results, Tryz.results16, go_sem, k0, k1, k2]) rfl ?_
      exact ⟨rfl, B⟩
set_option maxHeartbeats 4000000 in
set_option maxRecDepth 100000 in
theorem gp_pnE2 (s : ByteArray) (u v : Nat) (w : World) (hs : s.size ≤ 4000)
    (p1 : ∀ W : World, Calls Tryz.prog 46 #[.string s] W (GivesNE u 0 W)) (p2 : ∀ W : World, Calls Tryz.prog 46 #[.string ⟨#[49]⟩] W (GivesNE v 3 W)) (q0 : 0 < s.size) (q1 : (((s[0]'q0).toNat : Int) == 45) = false) (hb : ∀ (k : Nat) (h : k < s.size), ((((s)[k]'h).toNat : Int) == 47) = false) :
    Calls Tryz.prog 16 #[.string s] w (fun e w' => e = .returned (.tuple #[.agg #[.bool false, .slice none 0 0, .slice none 0 0], .int .i64 3]) ∧ Below w.heap.size w w') := by
  have P1 := hide p1
  have P2 := hide p2
  have HB := hide hb
  have d0 : decide (4000 < (s.size : Int)) = false := by simp; omega
  clear p1 p2 hb
  go_enter Tryz.func16, Tryz.ntmps16
  go_wp2_with fail
  go_loop [6, 7, 8] (fun a b i => ∃ k : Nat, k ≤ s.size ∧ a = .string s ∧ b = .string ⟨#[49]⟩ ∧ i = .int .i64 (k : Int)) (fun _ _ i => s.size - (intOf i).toNat)
  case atStart => exact ⟨0, by omega, rfl, rfl, rfl⟩
  case round =>
    obtain ⟨k, hk, rfl, rfl, rfl⟩ := hrel
    by_cases hlt : k < s.size
    · have e47 := HB.out k hlt
      go_wp2_with fail
      go_round
      case rel => exact ⟨k + 1, by omega, rfl, rfl, by go_num⟩
      case measure => simp [intOf]; omega
    · obtain rfl : k = s.size := by omega
      go_wp2_with fail
      generalize hW : w.alloc _ = W
      obtain ⟨B, bR, -⟩ := boxesA1 hW
      clear hW
      refine (P1.out _).mono ?_
      rintro e w3 hg
      obtain ⟨A3, n3, c3, rfl, a3, hb⟩ := hg.cn
      have bR := bR.below' hb
      have B := B.trans (hb.mono B.size)
      clear hb hg
      go_wp2_with fail
      generalize hW : w3.alloc _ = W3
      obtain ⟨hb, bn, -⟩ := boxesA1 hW
      clear hW
      have bR := bR.below' hb
      have a3 := a3.below hb
      have B := B.trans (hb.mono B.size)
      clear hb
      generalize w3.heap.size = gn at *
      refine (P2.out _).mono ?_
      rintro e w4 hg
      obtain ⟨A4, n4, c4, rfl, a4, hb⟩ := hg.cn
      have bR := bR.below' hb
      have bn := bn.below' hb
      have a3 := a3.below hb
      have B := B.trans (hb.mono B.size)
      clear hb hg
      have g0 : w4.cell? ⟨w.heap.size, 0, none⟩ = some (.bool false) := bR.at_ 0
      have g1 : w4.cell? ⟨w.heap.size, 1, none⟩ = some (.slice none 0 0) := bR.at_ 1
      have g2 : w4.cell? ⟨w.heap.size, 2, none⟩ = some (.slice none 0 0) := bR.at_ 2
      have f0 := bR.frozen 0
      have f1 := bR.frozen 1
      have f2 := bR.frozen 2
      have gz := bR.lt
      go_wp2_with fail
      clear g0 g1 g2 f0 f1 f2
      generalize hW3 : ((World.setCell _ _ _).setCell _ _).setCell _ _ = W3
      obtain ⟨b3, -, C3, B4, -⟩ := put3 bR hW3
      clear hW3
      have B := B4 _ _ B (Nat.le_refl _)
      generalize hW : W3.alloc _ = W5
      obtain ⟨hb, -, -⟩ := boxesA1 hW
      clear hW
      have b3 := b3.below' hb
      have B := B.trans (hb.mono B.size)
      have k0 : W5.cell? ⟨w.heap.size, 0, none⟩ = some (.bool false) := b3.at_ 0
      have k1 : W5.cell? ⟨w.heap.size, 1, none⟩ = some (.slice none 0 0) := b3.at_ 1
      have k2 : W5.cell? ⟨w.heap.size, 2, none⟩ = some (.slice none 0 0) := b3.at_ 2
      refine bodyPost_ret (v := .tuple #[.agg #[.bool false, .slice none 0 0, .slice none 0 0], .int .i64 3]) (by simp [results, Tryz.results16, go_sem, k0, k1, k2]) rfl ?_
      exact ⟨rfl, B⟩
set_option maxHeartbeats 4000000 in
set_option maxRecDepth 100000 in
theorem gp_pnT (s : ByteArray) (u v : Nat) (w : World) (hs : s.size ≤ 4000)
    (p1 : ∀ W : World, Calls Tryz.prog 46 #[.string s] W (GivesNE u 0 W)) (p2 : ∀ W : World, Calls Tryz.prog 46 #[.string ⟨#[49]⟩] W (GivesNE v 0 W)) (q0 : 0 < s.size) (q1 : (((s[0]'q0).toNat : Int) == 45) = false) (hb : ∀ (k : Nat) (h : k < s.size), ((((s)[k]'h).toNat : Int) == 47) = false) (hu : u < B9 ^ 445) (hv : v < B9 ^ 445) (hz : v ≠ 0) (r : Rat) (hr : qv false u v = r) (hS : qtext r = s) :
    Calls Tryz.prog 16 #[.string s] w (GivesFE r 0 w) := by
  have P1 := hide p1
  have P2 := hide p2
  have HB := hide hb
  have d0 : decide (4000 < (s.size : Int)) = false := by simp; omega
  have HU := hide hu
  have HV := hide hv
  have HZ := hide hz
  have HR := hide hr
  have HS := hide hS
  clear p1 p2 hb hu hv hz hr hS
  go_enter Tryz.func16, Tryz.ntmps16
  go_wp2_with fail
  go_loop [6, 7, 8] (fun a b i => ∃ k : Nat, k ≤ s.size ∧ a = .string s ∧ b = .string ⟨#[49]⟩ ∧ i = .int .i64 (k : Int)) (fun _ _ i => s.size - (intOf i).toNat)
  case atStart => exact ⟨0, by omega, rfl, rfl, rfl⟩
  case round =>
    obtain ⟨k, hk, rfl, rfl, rfl⟩ := hrel
    by_cases hlt : k < s.size
    · have e47 := HB.out k hlt
      go_wp2_with fail
      go_round
      case rel => exact ⟨k + 1, by omega, rfl, rfl, by go_num⟩
      case measure => simp [intOf]; omega
    · obtain rfl : k = s.size := by omega
      go_wp2_with fail
      generalize hW : w.alloc _ = W
      obtain ⟨B, bR, -⟩ := boxesA1 hW
      clear hW
      refine (P1.out _).mono ?_
      rintro e w3 hg
      obtain ⟨A3, n3, c3, rfl, a3, hb⟩ := hg.cn
      have bR := bR.below' hb
      have B := B.trans (hb.mono B.size)
      clear hb hg
      go_wp2_with fail
      generalize hW : w3.alloc _ = W3
      obtain ⟨hb, bn, -⟩ := boxesA1 hW
      clear hW
      have bR := bR.below' hb
      have a3 := a3.below hb
      have B := B.trans (hb.mono B.size)
      clear hb
      generalize w3.heap.size = gn at *
      refine (P2.out _).mono ?_
      rintro e w4 hg
      obtain ⟨A4, n4, c4, rfl, a4, hb⟩ := hg.cn
      have bR := bR.below' hb
      have bn := bn.below' hb
      have a3 := a3.below hb
      have B := B.trans (hb.mono B.size)
      clear hb hg
      go_wp2_with fail
      generalize hW : w4.alloc _ = W4
      obtain ⟨hb, bd, -⟩ := boxesA1 hW
      clear hW
      have bR := bR.below' hb
      have bn := bn.below' hb
      have a3 := a3.below hb
      have a4 := a4.below hb
      have B := B.trans (hb.mono B.size)
      clear hb
      generalize w4.heap.size = gd at *
      refine (gzero_any 445 (by omega) _ _ _ v _ (a4.nt HV.out) false (decide_eq_false HZ.out)).mono ?_
      rintro e w5 ⟨rfl, hb⟩
      have bR := bR.below' hb
      have bn := bn.below' hb
      have bd := bd.below' hb
      have a3 := a3.below hb
      have a4 := a4.below hb
      have B := B.trans (hb.mono B.size)
      clear hb
      have q0 := bn.cell
      have q1 := bd.cell
      go_wp2_with fail
      clear q0 q1
      refine (gnew_f (L := 445) (frMk (a3.nt HU.out) (a4.nt HV.out) HR.out) (by omega) (by omega)).mono ?_
      rintro e w6 ⟨p5, A5, n5, c5, B5, m5, d5, rfl, x5, hb⟩
      have bR := bR.below' hb
      have B := B.trans (hb.mono B.size)
      clear hb bn bd a3 a4
      go_wp2_with fail
      generalize hW : w6.alloc _ = W6
      obtain ⟨hb, bx, -⟩ := boxesA1 hW
      clear hW
      have bR := bR.below' hb
      have x5 := x5.below hb
      have B := B.trans (hb.mono B.size)
      clear hb
      generalize w6.heap.size = gx at *
      refine (gtext_f (L := 446) (x5.fr (qv_ht HU.out HV.out HR.out)) (by omega) (by omega) _ HS.out).mono ?_
      rintro e w7 ⟨rfl, hb⟩
      have bR := bR.below' hb
      have bx := bx.below' hb
      have x5 := x5.below hb
      have B := B.trans (hb.mono B.size)
      clear hb
      have q0 : w7.cell? ⟨gx, 0, none⟩ = some (.bool p5) := bx.at_ 0
      have q1 : w7.cell? ⟨gx, 1, none⟩ = some (.slice A5 n5 c5) := bx.at_ 1
      have q2 : w7.cell? ⟨gx, 2, none⟩ = some (.slice B5 m5 d5) := bx.at_ 2
      have g0 : w7.cell? ⟨w.heap.size, 0, none⟩ = some (.bool false) := bR.at_ 0
      have g1 : w7.cell? ⟨w.heap.size, 1, none⟩ = some (.slice none 0 0) := bR.at_ 1
      have g2 : w7.cell? ⟨w.heap.size, 2, none⟩ = some (.slice none 0 0) := bR.at_ 2
      have f0 := bR.frozen 0
      have f1 := bR.frozen 1
      have f2 := bR.frozen 2
      have gz := bR.lt
      go_wp2_with fail
      clear g0 g1 g2 f0 f1 f2 q0 q1 q2
      generalize hW3 : ((w7.setCell _ _).setCell _ _).setCell _ _ = W3
      obtain ⟨b3, -, C3, B4, -⟩ := put3 bR hW3
      clear hW3
      have k0 : W3.cell? ⟨w.heap.size, 0, none⟩ = some (.bool p5) := b3.at_ 0
      have k1 : W3.cell? ⟨w.heap.size, 1, none⟩ = some (.slice A5 n5 c5) := b3.at_ 1
      have k2 : W3.cell? ⟨w.heap.size, 2, none⟩ = some (.slice B5 m5 d5) := b3.at_ 2
      refine bodyPost_ret (v := .tuple #[.agg #[.bool p5, .slice A5 n5 c5, .slice B5 m5 d5], .int .i64 0]) (by simp [results, Tryz.results16, go_sem, k0, k1, k2]) rfl ?_
      exact ⟨p5, A5, n5, c5, B5, m5, d5, rfl, ⟨x5.1, C3 _ _ _ _ x5.2.1, C3 _ _ _ _ x5.2.2⟩, B4 _ _ B (by omega)⟩
set_option maxHeartbeats 4000000 in
set_option maxRecDepth 100000 in
theorem gp_pnD (s : ByteArray) (u v : Nat) (w : World) (hs : s.size ≤ 4000)
    (p1 : ∀ W : World, Calls Tryz.prog 46 #[.string s] W (GivesNE u 0 W)) (p2 : ∀ W : World, Calls Tryz.prog 46 #[.string ⟨#[49]⟩] W (GivesNE v 0 W)) (q0 : 0 < s.size) (q1 : (((s[0]'q0).toNat : Int) == 45) = false) (hb : ∀ (k : Nat) (h : k < s.size), ((((s)[k]'h).toNat : Int) == 47) = false) (hu : u < B9 ^ 445) (hv : v < B9 ^ 445) (hz : v ≠ 0) (r : Rat) (hr : qv false u v = r) (S : ByteArray) (hS : qtext r = S) (hne : S ≠ s) :
    Calls Tryz.prog 16 #[.string s] w (fun e w' => e = .returned (.tuple #[.agg #[.bool false, .slice none 0 0, .slice none 0 0], .int .i64 3]) ∧ Below w.heap.size w w') := by
  have P1 := hide p1
  have P2 := hide p2
  have HB := hide hb
  have d0 : decide (4000 < (s.size : Int)) = false := by simp; omega
  have HU := hide hu
  have HV := hide hv
  have HZ := hide hz
  have HR := hide hr
  have HS := hide hS
  have hse : (S.toList == s.toList) = false := by rw [beq_eq_false_iff_ne]; intro h; rw [Lib.toList_data, Lib.toList_data] at h; exact hne (ba_eq h)
  clear p1 p2 hb hu hv hz hr hS hne
  go_enter Tryz.func16, Tryz.ntmps16
  go_wp2_with fail
  go_loop [6, 7, 8] (fun a b i => ∃ k : Nat, k ≤ s.size ∧ a = .string s ∧ b = .string ⟨#[49]⟩ ∧ i = .int .i64 (k : Int)) (fun _ _ i => s.size - (intOf i).toNat)
  case atStart => exact ⟨0, by omega, rfl, rfl, rfl⟩
  case round =>
    obtain ⟨k, hk, rfl, rfl, rfl⟩ := hrel
    by_cases hlt : k < s.size
    · have e47 := HB.out k hlt
      go_wp2_with fail
      go_round
      case rel => exact ⟨k + 1, by omega, rfl, rfl, by go_num⟩
      case measure => simp [intOf]; omega
    · obtain rfl : k = s.size := by omega
      go_wp2_with fail
      generalize hW : w.alloc _ = W
      obtain ⟨B, bR, -⟩ := boxesA1 hW
      clear hW
      refine (P1.out _).mono ?_
      rintro e w3 hg
      obtain ⟨A3, n3, c3, rfl, a3, hb⟩ := hg.cn
      have bR := bR.below' hb
      have B := B.trans (hb.mono B.size)
      clear hb hg
      go_wp2_with fail
      generalize hW : w3.alloc _ = W3
      obtain ⟨hb, bn, -⟩ := boxesA1 hW
      clear hW
      have bR := bR.below' hb
      have a3 := a3.below hb
      have B := B.trans (hb.mono B.size)
      clear hb
      generalize w3.heap.size = gn at *
      refine (P2.out _).mono ?_
      rintro e w4 hg
      obtain ⟨A4, n4, c4, rfl, a4, hb⟩ := hg.cn
      have bR := bR.below' hb
      have bn := bn.below' hb
      have a3 := a3.below hb
      have B := B.trans (hb.mono B.size)
      clear hb hg
      go_wp2_with fail
      generalize hW : w4.alloc _ = W4
      obtain ⟨hb, bd, -⟩ := boxesA1 hW
      clear hW
      have bR := bR.below' hb
      have bn := bn.below' hb
      have a3 := a3.below hb
      have a4 := a4.below hb
      have B := B.trans (hb.mono B.size)
      clear hb
      generalize w4.heap.size = gd at *
      refine (gzero_any 445 (by omega) _ _ _ v _ (a4.nt HV.out) false (decide_eq_false HZ.out)).mono ?_
      rintro e w5 ⟨rfl, hb⟩
      have bR := bR.below' hb
      have bn := bn.below' hb
      have bd := bd.below' hb
      have a3 := a3.below hb
      have a4 := a4.below hb
      have B := B.trans (hb.mono B.size)
      clear hb
      have q0 := bn.cell
      have q1 := bd.cell
      go_wp2_with fail
      clear q0 q1
      refine (gnew_f (L := 445) (frMk (a3.nt HU.out) (a4.nt HV.out) HR.out) (by omega) (by omega)).mono ?_
      rintro e w6 ⟨p5, A5, n5, c5, B5, m5, d5, rfl, x5, hb⟩
      have bR := bR.below' hb
      have B := B.trans (hb.mono B.size)
      clear hb bn bd a3 a4
      go_wp2_with fail
      generalize hW : w6.alloc _ = W6
      obtain ⟨hb, bx, -⟩ := boxesA1 hW
      clear hW
      have bR := bR.below' hb
      have x5 := x5.below hb
      have B := B.trans (hb.mono B.size)
      clear hb
      generalize w6.heap.size = gx at *
      refine (gtext_f (L := 446) (x5.fr (qv_ht HU.out HV.out HR.out)) (by omega) (by omega) _ HS.out).mono ?_
      rintro e w7 ⟨rfl, hb⟩
      have bR := bR.below' hb
      have bx := bx.below' hb
      have x5 := x5.below hb
      have B := B.trans (hb.mono B.size)
      clear hb
      have q0 : w7.cell? ⟨gx, 0, none⟩ = some (.bool p5) := bx.at_ 0
      have q1 : w7.cell? ⟨gx, 1, none⟩ = some (.slice A5 n5 c5) := bx.at_ 1
      have q2 : w7.cell? ⟨gx, 2, none⟩ = some (.slice B5 m5 d5) := bx.at_ 2
      have g0 : w7.cell? ⟨w.heap.size, 0, none⟩ = some (.bool false) := bR.at_ 0
      have g1 : w7.cell? ⟨w.heap.size, 1, none⟩ = some (.slice none 0 0) := bR.at_ 1
      have g2 : w7.cell? ⟨w.heap.size, 2, none⟩ = some (.slice none 0 0) := bR.at_ 2
      have f0 := bR.frozen 0
      have f1 := bR.frozen 1
      have f2 := bR.frozen 2
      have gz := bR.lt
      go_wp2_with fail
      clear q0 q1 q2
      clear g0 g1 g2 f0 f1 f2
      generalize hW3 : ((World.setCell _ _ _).setCell _ _).setCell _ _ = W3
      obtain ⟨b3, -, C3, B4, -⟩ := put3 bR hW3
      clear hW3
      have k0 : W3.cell? ⟨w.heap.size, 0, none⟩ = some (.bool false) := b3.at_ 0
      have k1 : W3.cell? ⟨w.heap.size, 1, none⟩ = some (.slice none 0 0) := b3.at_ 1
      have k2 : W3.cell? ⟨w.heap.size, 2, none⟩ = some (.slice none 0 0) := b3.at_ 2
      refine bodyPost_ret (v := .tuple #[.agg #[.bool false, .slice none 0 0, .slice none 0 0], .int .i64 3]) (by simp [results, Tryz.results16, go_sem, k0, k1, k2]) rfl ?_
      exact ⟨rfl, B4 _ _ B (by omega)⟩
set_option maxHeartbeats 4000000 in
set_option maxRecDepth 100000 in
theorem gp_enE1 (s : ByteArray) (u v : Nat) (er : Int) (w : World) (_hs : s.size ≤ 4000)
    (p1 : ∀ W : World, Calls Tryz.prog 46 #[.string s] W (GivesNE u 3 W)) (p2 : ∀ W : World, Calls Tryz.prog 46 #[.string ⟨#[49]⟩] W (GivesNE v er W)) (q0 : s.size = 0) (hb : ∀ (k : Nat) (h : k < s.size), ((((s)[k]'h).toNat : Int) == 47) = false) :
    Calls Tryz.prog 16 #[.string s] w (fun e w' => e = .returned (.tuple #[.agg #[.bool false, .slice none 0 0, .slice none 0 0], .int .i64 3]) ∧ Below w.heap.size w w') := by
  have P1 := hide p1
  have P2 := hide p2
  have HB := hide hb
  have d0 : decide (4000 < (s.size : Int)) = false := by simp; omega
  clear p1 p2 hb
  go_enter Tryz.func16, Tryz.ntmps16
  go_wp2_with fail
  go_loop [6, 7, 8] (fun a b i => ∃ k : Nat, k ≤ s.size ∧ a = .string s ∧ b = .string ⟨#[49]⟩ ∧ i = .int .i64 (k : Int)) (fun _ _ i => s.size - (intOf i).toNat)
  case atStart => exact ⟨0, by omega, rfl, rfl, rfl⟩
  case round =>
    obtain ⟨k, hk, rfl, rfl, rfl⟩ := hrel
    by_cases hlt : k < s.size
    · exact absurd hlt (by omega)
    · obtain rfl : k = s.size := by omega
      go_wp2_with fail
      generalize hW : w.alloc _ = W
      obtain ⟨B, bR, -⟩ := boxesA1 hW
      clear hW
      refine (P1.out _).mono ?_
      rintro e w3 hg
      obtain ⟨A3, n3, c3, rfl, a3, hb⟩ := hg.cn
      have bR := bR.below' hb
      have B := B.trans (hb.mono B.size)
      clear hb hg
      go_wp2_with fail
      generalize hW : w3.alloc _ = W3
      obtain ⟨hb, bn, -⟩ := boxesA1 hW
      clear hW
      have bR := bR.below' hb
      have a3 := a3.below hb
      have B := B.trans (hb.mono B.size)
      clear hb
      generalize w3.heap.size = gn at *
      refine (P2.out _).mono ?_
      rintro e w4 hg
      obtain ⟨A4, n4, c4, rfl, a4, hb⟩ := hg.cn
      have bR := bR.below' hb
      have bn := bn.below' hb
      have a3 := a3.below hb
      have B := B.trans (hb.mono B.size)
      clear hb hg
      have g0 : w4.cell? ⟨w.heap.size, 0, none⟩ = some (.bool false) := bR.at_ 0
      have g1 : w4.cell? ⟨w.heap.size, 1, none⟩ = some (.slice none 0 0) := bR.at_ 1
      have g2 : w4.cell? ⟨w.heap.size, 2, none⟩ = some (.slice none 0 0) := bR.at_ 2
      have f0 := bR.frozen 0
      have f1 := bR.frozen 1
      have f2 := bR.frozen 2
      have gz := bR.lt
      go_wp2_with fail
      clear g0 g1 g2 f0 f1 f2
      generalize hW3 : ((World.setCell _ _ _).setCell _ _).setCell _ _ = W3
      obtain ⟨b3, -, C3, B4, -⟩ := put3 bR hW3
      clear hW3
      have B := B4 _ _ B (Nat.le_refl _)
      generalize hW : W3.alloc _ = W5
      obtain ⟨hb, -, -⟩ := boxesA1 hW
      clear hW
      have b3 := b3.below' hb
      have B := B.trans (hb.mono B.size)
      have k0 : W5.cell? ⟨w.heap.size, 0, none⟩ = some (.bool false) := b3.at_ 0
      have k1 : W5.cell? ⟨w.heap.size, 1, none⟩ = some (.slice none 0 0) := b3.at_ 1
      have k2 : W5.cell? ⟨w.heap.size, 2, none⟩ = some (.slice none 0 0) := b3.at_ 2
      refine bodyPost_ret (v := .tuple #[.agg #[.bool false, .slice none 0 0, .slice none 0 0], .int .i64 3]) (by simp [results, Tryz.results16, go_sem, k0, k1, k2]) rfl ?_
      exact ⟨rfl, B⟩
end Go.Proofs.YtoeknkakdoemfaaGreatDoor

/- The contracts of fraction.Parse and of the reference's Parse. -/
namespace Go.Proofs.YtoeknkakdoemfaaGreatDoor
open Go Go.RowKit

/-- the number that a string is the text of, if it is one -/
def IsQ (s : ByteArray) (r : Rat) : Prop := okL s.data.toList ∧ ratL s.data.toList = r ∧ qtext r = s
theorem isQ_text (r : Rat) : IsQ (qtext r) r := ⟨(text_ok r).1, (text_ok r).2, rfl⟩
theorem isQ_iff {s : ByteArray} {r : Rat} : IsQ s r ↔ qtext r = s := ⟨fun h => h.2.2, fun h => by rw [← h]; exact isQ_text r⟩
/-- how a body is parted -/
inductive Parted (l a b : List UInt8) : Prop where
  | slash (h : l = a ++ 47 :: b) (hn : (47 : UInt8) ∉ a) : Parted l a b
  | whole (h : l = a) (hb : b = [49]) (hn : (47 : UInt8) ∉ a) : Parted l a b
theorem parted (l : List UInt8) : ∃ a b, Parted l a b ∧ abv 47 l = a ∧ blw 47 [49] l = b := by
  by_cases h : (47 : UInt8) ∈ l
  · obtain ⟨a, b, rfl, hn⟩ := part_at 47 l h
    have e := abv1 47 [49] a b hn
    exact ⟨a, b, .slash rfl hn, e.1, e.2⟩
  · have e := abv0 47 [49] l h
    exact ⟨l, [49], .whole rfl rfl h, e.1, e.2⟩
theorem ok_parts {s : ByteArray} {a b : List UInt8} (e1 : abv 47 (bodL s.data.toList) = a) (e2 : blw 47 [49] (bodL s.data.toList) = b) :
    (okL s.data.toList ↔ IsT (NB a) ∧ IsT (NB b)) ∧ ratL s.data.toList = qv (sgnL s.data.toList) (decV (NB a)) (decV (NB b)) := by
  unfold okL ratL
  rw [e1, e2]
  exact ⟨Iff.rfl, rfl⟩
theorem size_of {s : ByteArray} {l : List UInt8} (h : s.data.toList = l) : s.size = l.length := by rw [size_list, h]
theorem get_of {s : ByteArray} {l : List UInt8} (h : s.data.toList = l) {k : Nat} (hk : k < s.size) (hl : k < l.length) : s[k] = l[k] := by
  subst h
  rfl

set_option maxHeartbeats 1000000 in
theorem fparse_full (s : ByteArray) (w : World) (hs : 4000 < s.size) : Calls Tryz.prog 11 #[.string s] w fun e w' => e = .returned (.tuple #[.agg #[.bool false, .slice none 0 0, .slice none 0 0], .int .i64 6]) ∧ Below w.heap.size w w' := by
  have hd : decide (4000 < (s.size : Int)) = true := by simp; omega
  go_enter Tryz.func11, Tryz.ntmps11
  go_wp2
  refine bodyPost_ret (v := .tuple #[.agg #[.bool false, .slice none 0 0, .slice none 0 0], .int .i64 6]) (by simp [results, Tryz.results11, go_sem]) rfl ?_
  exact ⟨rfl, (Below.refl _ _).alloc (Nat.le_refl _) _⟩
set_option maxHeartbeats 1000000 in
theorem gparse_full (s : ByteArray) (w : World) (hs : 4000 < s.size) : Calls Tryz.prog 16 #[.string s] w fun e w' => e = .returned (.tuple #[.agg #[.bool false, .slice none 0 0, .slice none 0 0], .int .i64 6]) ∧ Below w.heap.size w w' := by
  have hd : decide (4000 < (s.size : Int)) = true := by simp; omega
  go_enter Tryz.func16, Tryz.ntmps16
  go_wp2
  refine bodyPost_ret (v := .tuple #[.agg #[.bool false, .slice none 0 0, .slice none 0 0], .int .i64 6]) (by simp [results, Tryz.results16, go_sem]) rfl ?_
  exact ⟨rfl, (Below.refl _ _).alloc (Nat.le_refl _) _⟩

/-- what both return -/
def PostQ (s : ByteArray) (w : World) (e : Ending) (w' : World) : Prop :=
  (∀ r, qtext r = s → GivesFE r 0 w e w') ∧ ((∀ r, qtext r ≠ s) → e = .returned (.tuple #[.agg #[.bool false, .slice none 0 0, .slice none 0 0], .int .i64 3]) ∧ Below w.heap.size w w')
theorem postQ_yes {s : ByteArray} {w w' : World} {e : Ending} {r : Rat} (hr : qtext r = s) (h : GivesFE r 0 w e w') : PostQ s w e w' :=
  ⟨fun r' h' => by rw [text_inj (h'.trans hr.symm)]; exact h, fun h' => absurd hr (h' r)⟩
theorem postQ_no {s : ByteArray} {w w' : World} {e : Ending} (hr : ∀ r, qtext r ≠ s) (h : e = .returned (.tuple #[.agg #[.bool false, .slice none 0 0, .slice none 0 0], .int .i64 3]) ∧ Below w.heap.size w w') : PostQ s w e w' :=
  ⟨fun r' h' => absurd h' (hr r'), fun _ => h⟩
theorem no_text {s : ByteArray} (h : ¬ okL s.data.toList ∨ qtext (ratL s.data.toList) ≠ s) : ∀ r, qtext r ≠ s := fun r hr => by
  have hq := isQ_iff.2 hr
  rcases h with h | h
  · exact h hq.1
  · exact h (by rw [hq.2.1]; exact hr)
theorem len4 {a b l : List UInt8} (h : Parted l a b) (hl : l.length ≤ 4000) : a.length ≤ 4000 ∧ b.length ≤ 4000 := by
  rcases h with ⟨rfl, -⟩ | ⟨rfl, rfl, -⟩
  · simp only [List.length_append, List.length_cons] at hl
    omega
  · exact ⟨hl, by simp⟩
theorem big {a : List UInt8} (h : IsT (NB a)) (hl : a.length ≤ 4000) : decV (NB a) < B9 ^ 445 := decV_size (L := 445) h (Nat.le_trans hl (by decide))

theorem fparse_any (s : ByteArray) (w : World) (hT : Zw w) (hs : s.size ≤ 4000) : Calls Tryz.prog 11 #[.string s] w (PostQ s w) := by
  obtain ⟨a, b, hp, e1, e2⟩ := parted (bodL s.data.toList)
  obtain ⟨hok, hrat⟩ := ok_parts e1 e2
  have hbl : (bodL s.data.toList).length ≤ 4000 := Nat.le_trans (bod_len _) (by rw [← size_list]; exact hs)
  obtain ⟨la, lb⟩ := len4 hp hbl
  have c1 := fun W => cutPre s W _ _ rfl rfl
  have DL := mkS_list (bodL s.data.toList)
  have DS := mkS_size (bodL s.data.toList)
  have SA := mkS_list a
  have SB := mkS_list b
  have ZA := mkS_size a
  have ZB := mkS_size b
  have pa : IsT (NB a) → ∀ W, Calls Tryz.prog 34 #[.string (mkS a)] W (GivesNE (decV (NB a)) 0 W) := fun h W => np_yes _ W (by omega) (by rw [SA]; exact h) _ (by rw [SA])
  have pan : ¬ IsT (NB a) → ∀ W, Calls Tryz.prog 34 #[.string (mkS a)] W (GivesNE 0 3 W) := fun h W => np_no _ W (by omega) (by rw [SA]; exact h)
  have pb : IsT (NB b) → ∀ W, Calls Tryz.prog 34 #[.string (mkS b)] W (GivesNE (decV (NB b)) 0 W) := fun h W => np_yes _ W (by omega) (by rw [SB]; exact h) _ (by rw [SB])
  have pbn : ¬ IsT (NB b) → ∀ W, Calls Tryz.prog 34 #[.string (mkS b)] W (GivesNE 0 3 W) := fun h W => np_no _ W (by omega) (by rw [SB]; exact h)
  have pbx := np_any (mkS b) (by omega)
  rcases hp with ⟨hl, hn⟩ | ⟨hl, rfl, hn⟩
  · have c2 := fun W (hW : Zw W) => cutHas 47 (mkS (bodL s.data.toList)) W hW (by omega) (by rw [DL, hl]; simp) (mkS a) (mkS b) [49] (by rw [DL, e1]) (by rw [DL, e2])
    by_cases ha : IsT (NB a)
    · by_cases hb : IsT (NB b)
      · by_cases ht : qtext (ratL s.data.toList) = s
        · exact (fp_yT s _ _ _ _ _ _ w hT hs c1 c2 (pa ha) (pb hb) (big ha la) (big hb lb) _ hrat.symm ht).mono fun _ _ h => postQ_yes ht h
        · exact (fp_yD s _ _ _ _ _ _ w hT hs c1 c2 (pa ha) (pb hb) (big ha la) (big hb lb) _ hrat.symm _ rfl ht).mono fun _ _ h => postQ_no (no_text (.inr ht)) h
      · exact (fp_yE2 s _ _ _ _ _ _ w hT hs c1 c2 (pa ha) (pbn hb)).mono fun _ _ h => postQ_no (no_text (.inl fun hk => hb (hok.1 hk).2)) h
    · obtain ⟨V, er, px⟩ := pbx
      exact (fp_yE1 s _ _ _ _ _ V er w hT hs c1 c2 (pan ha) px).mono fun _ _ h => postQ_no (no_text (.inl fun hk => ha (hok.1 hk).1)) h
  · have c2 := fun W (hW : Zw W) => cutNot 47 (mkS (bodL s.data.toList)) W hW (by omega) (by rw [DL, hl]; exact hn)
    rw [← hl] at pa pan
    by_cases ha : IsT (NB a)
    · by_cases hb : IsT (NB [49])
      · by_cases ht : qtext (ratL s.data.toList) = s
        · exact (fp_nT s _ _ _ _ _ w hT hs c1 c2 (pa (by rw [hl]; exact ha)) (pb hb) (big (by rw [hl]; exact ha) (by rw [hl]; exact la)) (big hb lb) _ (by rw [hrat, hl]) ht).mono fun _ _ h => postQ_yes ht h
        · exact (fp_nD s _ _ _ _ _ w hT hs c1 c2 (pa (by rw [hl]; exact ha)) (pb hb) (big (by rw [hl]; exact ha) (by rw [hl]; exact la)) (big hb lb) _ (by rw [hrat, hl]) _ rfl ht).mono fun _ _ h => postQ_no (no_text (.inr ht)) h
      · exact (fp_nE2 s _ _ _ _ _ w hT hs c1 c2 (pa (by rw [hl]; exact ha)) (pbn hb)).mono fun _ _ h => postQ_no (no_text (.inl fun hk => hb (hok.1 hk).2)) h
    · obtain ⟨V, er, px⟩ := pbx
      exact (fp_nE1 s _ _ _ _ V er w hT hs c1 c2 (pan (by rw [hl]; exact ha)) px).mono fun _ _ h => postQ_no (no_text (.inl fun hk => ha (hok.1 hk).1)) h

theorem rq_yes {t : ByteArray} {l : List UInt8} (ht : t.data.toList = l) (hs : l.length ≤ 4000) (h : IsT (NB l)) (W : World) : Calls Tryz.prog 46 #[.string t] W (GivesNE (decV (NB l)) 0 W) := by
  subst ht
  exact rparse_ok t W (by rw [size_list]; exact hs) h.1 _ rfl (asc_decV h)
theorem rq_no {t : ByteArray} {l : List UInt8} (ht : t.data.toList = l) (hs : l.length ≤ 4000) (h : ¬ IsT (NB l)) (W : World) : Calls Tryz.prog 46 #[.string t] W (GivesNE 0 3 W) := by
  subst ht
  by_cases hd : AllDig (bytesOf t)
  · exact rparse_notext t W (by rw [size_list]; exact hs) hd _ rfl (fun e => h (isT_iff.2 e))
  · exact rparse_nodig t W (by rw [size_list]; exact hs) hd
theorem rq_any {t : ByteArray} {l : List UInt8} (ht : t.data.toList = l) (hs : l.length ≤ 4000) : ∃ (V : Nat) (er : Int), ∀ W : World, Calls Tryz.prog 46 #[.string t] W (GivesNE V er W) := by
  by_cases h : IsT (NB l)
  · exact ⟨_, 0, rq_yes ht hs h⟩
  · exact ⟨0, 3, rq_no ht hs h⟩
theorem eq47 {c : UInt8} : ((c.toNat : Int) == 47) = true ↔ c = 47 := by
  rw [beq_iff_eq]
  constructor
  · intro h
    exact UInt8.toNat_inj.1 (by show c.toNat = 47; omega)
  · rintro rfl
    rfl
theorem ne47 {c : UInt8} : ((c.toNat : Int) == 47) = false ↔ c ≠ 47 := by
  rw [← Bool.not_eq_true, eq47]
theorem ex_list (D : ByteArray) (i j : Nat) : (D.extract i j).data.toList = (D.data.toList.take j).drop i := by
  rw [ByteArray.data_extract, Array.toList_extract, List.extract_eq_take_drop, List.drop_take]
section
variable {D : ByteArray} {a b : List UInt8} (h : D.data.toList = a ++ 47 :: b) (hn : (47 : UInt8) ∉ a)
include h
theorem sl_lt : a.length < D.size := by rw [size_of h]; simp
theorem sl_at : (((D[a.length]'(sl_lt h)).toNat : Int) == 47) = true := by
  rw [eq47, get_of h (sl_lt h) (by simp)]
  simp
theorem sl_a : (D.extract 0 a.length).data.toList = a := by rw [ex_list, h]; simp
theorem sl_b : (D.extract (a.length + 1) D.size).data.toList = b := by
  rw [ex_list, size_of h, h, List.take_length]
  simp
include hn
theorem sl_no (k : Nat) (hk : k < a.length) : (((D[k]'(Nat.lt_trans hk (sl_lt h))).toNat : Int) == 47) = false := by
  rw [ne47, get_of h (Nat.lt_trans hk (sl_lt h)) (by simp; omega), List.getElem_append_left hk]
  exact fun e => hn (by rw [← e]; exact List.getElem_mem hk)
end
theorem wh_no {D : ByteArray} {a : List UInt8} (h : D.data.toList = a) (hn : (47 : UInt8) ∉ a) (k : Nat) (hk : k < D.size) : (((D[k]'hk).toNat : Int) == 47) = false := by
  have hl : k < a.length := by rw [← size_of h]; exact hk
  rw [ne47, get_of h hk hl]
  exact fun e => hn (by rw [← e]; exact List.getElem_mem hl)
theorem gparse_m (s : ByteArray) (w : World) (hs : s.size ≤ 4000) (q0 : 0 < s.size) (q1 : (((s[0]'q0).toNat : Int) == 45) = true) (hsg : sgnL s.data.toList = true) (hD : (s.extract 1 s.size).data.toList = bodL s.data.toList) (hz : (s.extract 1 s.size).size = s.size - 1) : Calls Tryz.prog 16 #[.string s] w (PostQ s w) := by
  obtain ⟨a, b, hp, e1, e2⟩ := parted (bodL s.data.toList)
  obtain ⟨hok, hrat⟩ := ok_parts e1 e2
  rw [hsg] at hrat
  have hbl : (bodL s.data.toList).length ≤ 4000 := Nat.le_trans (bod_len _) (by rw [← size_list]; exact hs)
  obtain ⟨la, lb⟩ := len4 hp hbl
  have hzz : decV (NB b) = 0 → qtext (ratL s.data.toList) ≠ s := fun h0 => by
    have := zero_text (l := s.data.toList) (by rw [e2]; exact h0)
    rwa [mkS_data] at this
  rcases hp with ⟨hl, hn⟩ | ⟨hl, rfl, hn⟩
  · rw [hl] at hD
    have ta := sl_a hD
    have tb := sl_b hD
    rw [hz] at tb
    by_cases ha : IsT (NB a)
    · by_cases hb : IsT (NB b)
      · by_cases h0 : decV (NB b) = 0
        · exact (gp_myZ s a.length _ _ w hs (rq_yes ta la ha) (rq_yes tb lb hb) q0 q1 (sl_lt hD) (sl_at hD) (sl_no hD hn) (big ha la) (big hb lb) h0).mono fun _ _ h => postQ_no (no_text (.inr (hzz h0))) h
        · by_cases ht : qtext (ratL s.data.toList) = s
          · exact (gp_myT s a.length _ _ w hs (rq_yes ta la ha) (rq_yes tb lb hb) q0 q1 (sl_lt hD) (sl_at hD) (sl_no hD hn) (big ha la) (big hb lb) h0 _ hrat.symm ht).mono fun _ _ h => postQ_yes ht h
          · exact (gp_myD s a.length _ _ w hs (rq_yes ta la ha) (rq_yes tb lb hb) q0 q1 (sl_lt hD) (sl_at hD) (sl_no hD hn) (big ha la) (big hb lb) h0 _ hrat.symm _ rfl ht).mono fun _ _ h => postQ_no (no_text (.inr ht)) h
      · exact (gp_myE2 s a.length _ _ w hs (rq_yes ta la ha) (rq_no tb lb hb) q0 q1 (sl_lt hD) (sl_at hD) (sl_no hD hn)).mono fun _ _ h => postQ_no (no_text (.inl fun hk => hb (hok.1 hk).2)) h
    · obtain ⟨V, er, px⟩ := rq_any tb lb
      exact (gp_myE1 s a.length _ V er w hs (rq_no ta la ha) px q0 q1 (sl_lt hD) (sl_at hD) (sl_no hD hn)).mono fun _ _ h => postQ_no (no_text (.inl fun hk => ha (hok.1 hk).1)) h
  · rw [hl] at hD
    have tb : (⟨#[49]⟩ : ByteArray).data.toList = [49] := rfl
    have hb : IsT (NB [49]) := by have := isT_asc 1; rwa [asc_small (by decide)] at this
    by_cases ha : IsT (NB a)
    · by_cases ht : qtext (ratL s.data.toList) = s
      · exact (gp_mnT s _ _ w hs (rq_yes hD la ha) (rq_yes tb lb hb) q0 q1 (wh_no hD hn) (big ha la) (big hb lb) (by decide) _ hrat.symm ht).mono fun _ _ h => postQ_yes ht h
      · exact (gp_mnD s _ _ w hs (rq_yes hD la ha) (rq_yes tb lb hb) q0 q1 (wh_no hD hn) (big ha la) (big hb lb) (by decide) _ hrat.symm _ rfl ht).mono fun _ _ h => postQ_no (no_text (.inr ht)) h
    · obtain ⟨V, er, px⟩ := rq_any tb lb
      exact (gp_mnE1 s _ V er w hs (rq_no hD la ha) px q0 q1 (wh_no hD hn)).mono fun _ _ h => postQ_no (no_text (.inl fun hk => ha (hok.1 hk).1)) h
theorem gparse_p (s : ByteArray) (w : World) (hs : s.size ≤ 4000) (q0 : 0 < s.size) (q1 : (((s[0]'q0).toNat : Int) == 45) = false) (hsg : sgnL s.data.toList = false) (hD : s.data.toList = bodL s.data.toList) : Calls Tryz.prog 16 #[.string s] w (PostQ s w) := by
  obtain ⟨a, b, hp, e1, e2⟩ := parted (bodL s.data.toList)
  obtain ⟨hok, hrat⟩ := ok_parts e1 e2
  rw [hsg] at hrat
  have hbl : (bodL s.data.toList).length ≤ 4000 := Nat.le_trans (bod_len _) (by rw [← size_list]; exact hs)
  obtain ⟨la, lb⟩ := len4 hp hbl
  have hzz : decV (NB b) = 0 → qtext (ratL s.data.toList) ≠ s := fun h0 => by
    have := zero_text (l := s.data.toList) (by rw [e2]; exact h0)
    rwa [mkS_data] at this
  rcases hp with ⟨hl, hn⟩ | ⟨hl, rfl, hn⟩
  · rw [hl] at hD
    have ta := sl_a hD
    have tb := sl_b hD
    by_cases ha : IsT (NB a)
    · by_cases hb : IsT (NB b)
      · by_cases h0 : decV (NB b) = 0
        · exact (gp_pyZ s a.length _ _ w hs (rq_yes ta la ha) (rq_yes tb lb hb) q0 q1 (sl_lt hD) (sl_at hD) (sl_no hD hn) (big ha la) (big hb lb) h0).mono fun _ _ h => postQ_no (no_text (.inr (hzz h0))) h
        · by_cases ht : qtext (ratL s.data.toList) = s
          · exact (gp_pyT s a.length _ _ w hs (rq_yes ta la ha) (rq_yes tb lb hb) q0 q1 (sl_lt hD) (sl_at hD) (sl_no hD hn) (big ha la) (big hb lb) h0 _ hrat.symm ht).mono fun _ _ h => postQ_yes ht h
          · exact (gp_pyD s a.length _ _ w hs (rq_yes ta la ha) (rq_yes tb lb hb) q0 q1 (sl_lt hD) (sl_at hD) (sl_no hD hn) (big ha la) (big hb lb) h0 _ hrat.symm _ rfl ht).mono fun _ _ h => postQ_no (no_text (.inr ht)) h
      · exact (gp_pyE2 s a.length _ _ w hs (rq_yes ta la ha) (rq_no tb lb hb) q0 q1 (sl_lt hD) (sl_at hD) (sl_no hD hn)).mono fun _ _ h => postQ_no (no_text (.inl fun hk => hb (hok.1 hk).2)) h
    · obtain ⟨V, er, px⟩ := rq_any tb lb
      exact (gp_pyE1 s a.length _ V er w hs (rq_no ta la ha) px q0 q1 (sl_lt hD) (sl_at hD) (sl_no hD hn)).mono fun _ _ h => postQ_no (no_text (.inl fun hk => ha (hok.1 hk).1)) h
  · rw [hl] at hD
    have tb : (⟨#[49]⟩ : ByteArray).data.toList = [49] := rfl
    have hb : IsT (NB [49]) := by have := isT_asc 1; rwa [asc_small (by decide)] at this
    by_cases ha : IsT (NB a)
    · by_cases ht : qtext (ratL s.data.toList) = s
      · exact (gp_pnT s _ _ w hs (rq_yes hD la ha) (rq_yes tb lb hb) q0 q1 (wh_no hD hn) (big ha la) (big hb lb) (by decide) _ hrat.symm ht).mono fun _ _ h => postQ_yes ht h
      · exact (gp_pnD s _ _ w hs (rq_yes hD la ha) (rq_yes tb lb hb) q0 q1 (wh_no hD hn) (big ha la) (big hb lb) (by decide) _ hrat.symm _ rfl ht).mono fun _ _ h => postQ_no (no_text (.inr ht)) h
    · obtain ⟨V, er, px⟩ := rq_any tb lb
      exact (gp_pnE1 s _ V er w hs (rq_no hD la ha) px q0 q1 (wh_no hD hn)).mono fun _ _ h => postQ_no (no_text (.inl fun hk => ha (hok.1 hk).1)) h
theorem gparse_any (s : ByteArray) (w : World) (hs : s.size ≤ 4000) : Calls Tryz.prog 16 #[.string s] w (PostQ s w) := by
  rcases hl : s.data.toList with _ | ⟨c, r⟩
  · have hz : s.size = 0 := by rw [size_list, hl]; rfl
    have hn : ¬ IsT (NB []) := fun h => by
      rcases h.2 with h | ⟨y, m, h, -⟩
      · cases h
      · cases h
    have tb : (⟨#[49]⟩ : ByteArray).data.toList = [49] := rfl
    obtain ⟨V, er, px⟩ := rq_any tb (by simp)
    refine (gp_enE1 s 0 V er w hs (rq_no hl (by simp) hn) px hz (fun k h => by omega)).mono fun _ _ h => postQ_no (no_text (.inl fun hk => hn ?_)) h
    rw [hl] at hk
    exact hk.1
  · have q0 : 0 < s.size := by rw [size_list, hl]; simp
    have h0 : s[0] = c := get_of hl q0 (by simp)
    have zl : s.size = r.length + 1 := by rw [size_list, hl]; rfl
    by_cases hc : c = 45
    · subst hc
      have hg := sgn_cons r
      rw [← hl] at hg
      refine gparse_m s w hs q0 (by rw [h0]; rfl) hg.1 (by rw [ex_list, size_list, List.take_length, hg.2, hl]; rfl) (by rw [ByteArray.size_extract]; omega)
    · have hg := sgn_not (l := s.data.toList) (by rw [hl]; simp only [List.head?_cons, ne_eq, Option.some.injEq]; exact hc)
      refine gparse_p s w hs q0 ?_ hg.1 hg.2.symm
      rw [h0, ← Bool.not_eq_true, beq_iff_eq]
      exact fun e => hc (UInt8.toNat_inj.1 (by show c.toNat = 45; omega))
end Go.Proofs.YtoeknkakdoemfaaGreatDoor
