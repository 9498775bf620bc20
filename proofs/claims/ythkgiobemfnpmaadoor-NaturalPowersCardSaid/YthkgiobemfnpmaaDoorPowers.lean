/- The law of powers: the walk. -/
import Derived.Test.YthkgiobemfnpmaaDoorDivides
import Derived.Test.YthkgiobemfnpmaaDoorMatches
import Derived.Test.YthkgiobemfnpmaaDoorRPow
import Derived.IntWalk
namespace Go.Proofs.YthkgiobemfnpmaaDoor
open Go Go.RowKit

theorem valB4 {w : World} {A : Option Addr} {n : Nat} {xs : List Nat} (h : RL w .u32 A n xs) (hn : n ≤ 3) (hx : ∀ x ∈ xs, x < 4294967296) : val B9 xs < B9 ^ 4 := by
  have h2 : (dig B9 (val B9 xs)).length ≤ n + 1 := dig_len_u32 rfl h.len hx
  exact (dig_length_le B9 (by decide) 4 _).1 (by omega)
section
variable (A : Option Addr) (n c : Nat) (xs : List Nat) (w : World) (hr : RL w .u32 A n xs) (hn : n ≤ c) (hc : c ≤ maxLen) (hN : n ≤ 3) (hx : ∀ x ∈ xs, x < 4294967296) (u : Nat) (hu : val B9 xs = u) (i : Int) (T : Nat) (er : Int)
include hr hn hc hN hx hu
theorem pow_in (N : Nat) (hi : i = N) (hI : N ≤ 80) (hT : u ^ N = T) : Calls Tryd.prog 34 #[.agg #[.slice A n c], .int .i64 i] w (GivesNE T 0 w) := by
  subst hi
  have h4 := valB4 hr hN hx
  have h36 : nd (val B9 xs) ≤ 36 := nd_four h4
  obtain ⟨K, hK⟩ : ∃ K, K = 4000 := ⟨_, rfl⟩
  refine pow_ok A n c xs N w hr hn hc (by omega) hx (by omega) (Nat.le_trans (Nat.mul_le_mul h36 hI) (by decide)) T (by rw [hu, hT]) K hK ?_
  intro _
  rw [pow_B9] at h4
  exact Nat.le_trans (Nat.le_of_lt h4) (Nat.pow_le_pow_right (by decide) (by omega))
theorem rpow_in (N : Nat) (hi : i = N) (hI : N ≤ 80) (hT : u ^ N = T) : Calls Tryd.prog 35 #[.agg #[.slice A n c], .int .i64 i] w (GivesNE T 0 w) := by
  subst hi
  have h4 := valB4 hr hN hx
  rw [hu] at h4
  exact rpow_ok A n c xs N w hr hn hc (by omega) hx u hu hI h4 T hT
end

set_option maxHeartbeats 4000000 in
set_option maxRecDepth 100000 in
theorem powers_gg_lolo (A : Option Addr) (n c : Nat) (xs : List Nat) (m k : Int) (w : World) (hr : RL w .u32 A n xs) (hT : Tab w) (hN3 : n ≤ 3) (X KX : Nat) (hKX : KX ≤ 900) (hXB : X < B9 ^ KX) (Y KY : Nat) (hKY : KY ≤ 900) (hYB : Y < B9 ^ KY) (Z : Nat) (hZ : X * Y = Z) (hm0 : 0 ≤ m) (hk0 : 0 ≤ k) (hm : m ≤ 40) (hk : k ≤ 40)
    (HP1 : Hid (∀ w', RL w' .u32 A n xs → Calls Tryd.prog 34 #[.agg #[.slice A n c], .int .i64 m] w' (GivesNE X 0 w'))) (HR1 : Hid (∀ w', RL w' .u32 A n xs → Calls Tryd.prog 35 #[.agg #[.slice A n c], .int .i64 m] w' (GivesNE X 0 w'))) (HP2 : Hid (∀ w', RL w' .u32 A n xs → Calls Tryd.prog 34 #[.agg #[.slice A n c], .int .i64 k] w' (GivesNE Y 0 w'))) (HP3 : Hid (∀ w', RL w' .u32 A n xs → Calls Tryd.prog 34 #[.agg #[.slice A n c], .int .i64 (m + k)] w' (GivesNE Z 0 w'))) :
    Calls Tryd.prog 10 #[.agg #[.slice A n c], .int .i64 m, .int .i64 k] w fun e w' => e = .returned (.bool true) ∧ Below w.heap.size w w' := by
  have hdn : decide (3 < (n : Int)) = false := by simp; omega
  have hdm : decide (40 < m) = false := by simp; omega
  have hdk : decide (40 < k) = false := by simp; omega
  have HXB := hide hXB
  have HYB := hide hYB
  have HZ := hide hZ
  have HZB := hide (show Z < B9 ^ (KX + KY) from by rw [← hZ]; exact mulB hXB hYB)
  clear hYB hZ
  clear hXB
  go_enter Tryd.func10, Tryd.ntmps10
  go_wp2_with fail
  generalize hW : w.alloc _ = W
  obtain ⟨hbW, b0, -⟩ := boxes1 hW
  clear hW
  have lt0 := b0.lt
  have KS : Hid (∀ w', Below W.heap.size W w' → w'.cell? ⟨w.heap.size, 0, none⟩ = some (.slice A n c)) := fun w' h => (b0.below h lt0).cell
  clear b0 lt0
  have hrW := hr.below hbW
  have T0 := hT.below hbW
  clear hT hr
  refine (awake_any _ T0).mono ?_
  rintro e w1 ⟨rfl, D1⟩
  obtain k1 := KS.out w1 D1
  go_wp2_with fail
  refine (HP1.out _ (hrW.below D1)).mono ?_
  rintro e w3 ⟨A3, n3, c3, rfl, h3, hn3, hc3, hx⟩
  have D3 := D1.trans (hx.mono D1.size)
  clear hx k1 D1
  obtain k1 := KS.out (w3.alloc (.cells #[.slice A3 n3 c3] 24)) (D3.alloc D3.size _)
  go_wp2_with fail
  generalize hW : w3.alloc _ = W3
  obtain ⟨hb3, b3, -⟩ := boxes1 hW
  have h3 := h3.below hb3
  rw [hW] at k1
  clear hW
  have D4 := D3.trans (hb3.mono D3.size)
  clear k1
  refine (HR1.out _ (hrW.below D4)).mono ?_
  rintro e w5 ⟨A5, n5, c5, rfl, h5, hn5, hc5, hx⟩
  have D5 := D4.trans (hx.mono D4.size)
  have h3 := h3.below hx
  have b3 := b3.below' hx
  clear hx D3 D4 hb3
  obtain k1 := KS.out (w5.alloc (.cells #[.slice A5 n5 c5] 24)) (D5.alloc D5.size _)
  go_wp2_with fail
  generalize hW : w5.alloc _ = W5
  obtain ⟨hb5, b5, -⟩ := boxes1 hW
  have h3 := h3.below hb5
  have h5 := h5.below hb5
  have b3 := b3.below' hb5
  clear hW k1
  have D6 := D5.trans (hb5.mono D5.size)
  refine (HP2.out _ (hrW.below D6)).mono ?_
  rintro e w7 ⟨A7, n7, c7, rfl, h7, hn7, hc7, hx⟩
  have D7 := D6.trans (hx.mono D6.size)
  have h3 := h3.below hx
  have h5 := h5.below hx
  have b3 := b3.below' hx
  have b5 := b5.below' hx
  clear hx D5 D6 hb5
  have j3 := (b3.alloc (.cells #[.slice A7 n7 c7] 24)).cell
  have j5 := (b5.alloc (.cells #[.slice A7 n7 c7] 24)).cell
  go_wp2_with fail
  generalize hW : w7.alloc _ = W7
  obtain ⟨hb7, b7, -⟩ := boxes1 hW
  have h3 := h3.below hb7
  have h5 := h5.below hb7
  have h7 := h7.below hb7
  have b3 := b3.below' hb7
  have b5 := b5.below' hb7
  clear hW j3 j5
  have D8 := D7.trans (hb7.mono D7.size)
  clear hb7 D7
  have l3 : n3 ≤ 900 := Nat.le_trans (lenB1 h3 HXB.out) hKX
  refine (same_d A3 n3 c3 X A5 n5 c5 _ h3 (by omega) h5).mono ?_
  rintro e w9 ⟨rfl, hx⟩
  have D9 := D8.trans (hx.mono D8.size)
  have h3 := h3.below hx
  have h5 := h5.below hx
  have h7 := h7.below hx
  have b3 := b3.below' hx
  have b5 := b5.below' hx
  have b7 := b7.below' hx
  have j3 := b3.cell
  have j5 := b5.cell
  have j7 := b7.cell
  obtain k1 := KS.out _ D9
  clear hx D8
  have hsum : IntKind.i64.wrap (m + k) = m + k := IntWalk.i64_in _ (by omega)
  go_wp2_with fail
  refine (HP3.out _ (hrW.below D9)).mono ?_
  rintro e w10 ⟨A10, n10, c10, rfl, h10, hn10, hc10, hx⟩
  have D10 := D9.trans (hx.mono D9.size)
  have h3 := h3.below hx
  have h7 := h7.below hx
  have b3 := b3.below' hx
  have b7 := b7.below' hx
  clear hx D9 j3 j5 j7 k1 b5 h5
  go_wp2_with fail
  generalize hW : w10.alloc _ = W10
  obtain ⟨hb10, b10, -⟩ := boxes1 hW
  clear hW
  have h3 := h3.below hb10
  have h7 := h7.below hb10
  have h10 := h10.below hb10
  have b3 := b3.below' hb10
  have b7 := b7.below' hb10
  have t3 := b3.lt
  have t7 := b7.lt
  have t10 := b10.lt
  have D11 := hbW.trans ((D10.trans (hb10.mono D10.size)).mono hbW.size)
  have l7 : n7 ≤ 900 := Nat.le_trans (lenB1 h7 HYB.out) hKY
  have KS2 : Hid (∀ w', Below W10.heap.size W10 w' → w'.cell? ⟨w3.heap.size, 0, none⟩ = some (.slice A3 n3 c3) ∧ w'.cell? ⟨w7.heap.size, 0, none⟩ = some (.slice A7 n7 c7) ∧ w'.cell? ⟨w10.heap.size, 0, none⟩ = some (.slice A10 n10 c10)) :=
    fun w' h => ⟨(b3.below h t3).cell, (b7.below h t7).cell, (b10.below h t10).cell⟩
  clear hb10 b3 b7 b10 t3 t7 t10 D10 KS hrW T0
  have l10 : n10 ≤ 900000 := Nat.le_trans (lenB1 h10 HZB.out) (by omega)
  go_region_held3 (fun w' => w'.cell? ⟨w3.heap.size, 0, none⟩ = some (.slice A3 n3 c3) ∧ w'.cell? ⟨w7.heap.size, 0, none⟩ = some (.slice A7 n7 c7) ∧ w'.cell? ⟨w10.heap.size, 0, none⟩ = some (.slice A10 n10 c10))
    (first | exact KS2.out _ E13 | exact KS2.out _ E12 | exact KS2.out _ ((Below.refl _ _).drew))
    (first
      | (go_at_call_of 18 (Value.slice A3 n3 c3); (with_reducible refine (mul_g A3 n3 c3 (dig B9 X) A7 n7 c7 (dig B9 Y) _ (h3.below ((Below.refl _ _).drew)) hn3 hc3 (by omega) (dig_u32 X) (h7.below ((Below.refl _ _).drew)) hn7 hc7 (by omega) (dig_u32 Y) X Y Z (vd X) (vd Y) HZ.out).mono ?_); rintro e w12 ⟨A12, n12, c12, rfl, h12, hn12, hc12, hx12⟩; have E12 : Below W10.heap.size W10 w12 := ((Below.refl _ _).drew).trans (hx12.mono (Nat.le_refl _)))
      | (go_at_call_of 15 (Value.slice A10 n10 c10); (with_reducible refine (same_d A10 n10 c10 Z A12 n12 c12 _ (h10.below E12) l10 h12).mono ?_); rintro e w13 ⟨rfl, hx13⟩; have E13 : Below W10.heap.size W10 w13 := E12.trans (hx13.mono E12.size)))
  have B := D11.trans (E13.mono D11.size)
  clear E12 E13 hx12 hx13 KS2 D11
  go_wp2
  go_ret
  exact ⟨rfl, B⟩
set_option maxHeartbeats 4000000 in
set_option maxRecDepth 100000 in
theorem powers_gb_lolo (A : Option Addr) (n c : Nat) (xs : List Nat) (m k : Int) (w : World) (hr : RL w .u32 A n xs) (hT : Tab w) (hN3 : n ≤ 3) (X KX : Nat) (hKX : KX ≤ 900) (hXB : X < B9 ^ KX) (hm : m ≤ 40) (hk : k ≤ 40)
    (HP1 : Hid (∀ w', RL w' .u32 A n xs → Calls Tryd.prog 34 #[.agg #[.slice A n c], .int .i64 m] w' (GivesNE X 0 w'))) (HR1 : Hid (∀ w', RL w' .u32 A n xs → Calls Tryd.prog 35 #[.agg #[.slice A n c], .int .i64 m] w' (GivesNE X 0 w'))) (HP2 : Hid (∀ w', RL w' .u32 A n xs → Calls Tryd.prog 34 #[.agg #[.slice A n c], .int .i64 k] w' (GivesNE 0 2 w'))) :
    Calls Tryd.prog 10 #[.agg #[.slice A n c], .int .i64 m, .int .i64 k] w fun e w' => e = .returned (.bool true) ∧ Below w.heap.size w w' := by
  have hdn : decide (3 < (n : Int)) = false := by simp; omega
  have hdm : decide (40 < m) = false := by simp; omega
  have hdk : decide (40 < k) = false := by simp; omega
  have HXB := hide hXB
  clear hXB
  go_enter Tryd.func10, Tryd.ntmps10
  go_wp2_with fail
  generalize hW : w.alloc _ = W
  obtain ⟨hbW, b0, -⟩ := boxes1 hW
  clear hW
  have lt0 := b0.lt
  have KS : Hid (∀ w', Below W.heap.size W w' → w'.cell? ⟨w.heap.size, 0, none⟩ = some (.slice A n c)) := fun w' h => (b0.below h lt0).cell
  clear b0 lt0
  have hrW := hr.below hbW
  have T0 := hT.below hbW
  clear hT hr
  refine (awake_any _ T0).mono ?_
  rintro e w1 ⟨rfl, D1⟩
  obtain k1 := KS.out w1 D1
  go_wp2_with fail
  refine (HP1.out _ (hrW.below D1)).mono ?_
  rintro e w3 ⟨A3, n3, c3, rfl, h3, hn3, hc3, hx⟩
  have D3 := D1.trans (hx.mono D1.size)
  clear hx k1 D1
  obtain k1 := KS.out (w3.alloc (.cells #[.slice A3 n3 c3] 24)) (D3.alloc D3.size _)
  go_wp2_with fail
  generalize hW : w3.alloc _ = W3
  obtain ⟨hb3, b3, -⟩ := boxes1 hW
  have h3 := h3.below hb3
  rw [hW] at k1
  clear hW
  have D4 := D3.trans (hb3.mono D3.size)
  clear k1
  refine (HR1.out _ (hrW.below D4)).mono ?_
  rintro e w5 ⟨A5, n5, c5, rfl, h5, hn5, hc5, hx⟩
  have D5 := D4.trans (hx.mono D4.size)
  have h3 := h3.below hx
  have b3 := b3.below' hx
  clear hx D3 D4 hb3
  obtain k1 := KS.out (w5.alloc (.cells #[.slice A5 n5 c5] 24)) (D5.alloc D5.size _)
  go_wp2_with fail
  generalize hW : w5.alloc _ = W5
  obtain ⟨hb5, b5, -⟩ := boxes1 hW
  have h3 := h3.below hb5
  have h5 := h5.below hb5
  have b3 := b3.below' hb5
  clear hW k1
  have D6 := D5.trans (hb5.mono D5.size)
  refine (HP2.out _ (hrW.below D6)).mono ?_
  rintro e w7 ⟨A7, n7, c7, rfl, h7, hn7, hc7, hx⟩
  have D7 := D6.trans (hx.mono D6.size)
  have h3 := h3.below hx
  have h5 := h5.below hx
  have b3 := b3.below' hx
  have b5 := b5.below' hx
  clear hx D5 D6 hb5
  have j3 := (b3.alloc (.cells #[.slice A7 n7 c7] 24)).cell
  have j5 := (b5.alloc (.cells #[.slice A7 n7 c7] 24)).cell
  go_wp2_with fail
  generalize hW : w7.alloc _ = W7
  obtain ⟨hb7, b7, -⟩ := boxes1 hW
  have h3 := h3.below hb7
  have h5 := h5.below hb7
  have h7 := h7.below hb7
  have b3 := b3.below' hb7
  have b5 := b5.below' hb7
  clear hW j3 j5
  have D8 := D7.trans (hb7.mono D7.size)
  clear hb7 D7
  have l3 : n3 ≤ 900 := Nat.le_trans (lenB1 h3 HXB.out) hKX
  refine (same_d A3 n3 c3 X A5 n5 c5 _ h3 (by omega) h5).mono ?_
  rintro e w9 ⟨rfl, hx⟩
  have D9 := D8.trans (hx.mono D8.size)
  have h3 := h3.below hx
  have h5 := h5.below hx
  have h7 := h7.below hx
  have b3 := b3.below' hx
  have b5 := b5.below' hx
  have b7 := b7.below' hx
  have j3 := b3.cell
  have j5 := b5.cell
  have j7 := b7.cell
  obtain k1 := KS.out _ D9
  clear hx D8
  go_wp2_with fail
  refine (same_d A3 n3 c3 X A5 n5 c5 _ h3 (by omega) h5).mono ?_
  rintro e w10 ⟨rfl, hx⟩
  have D10 := hbW.trans ((D9.trans (hx.mono D9.size)).mono hbW.size)
  clear hx h3 h5 h7 b3 b5 b7 j3 j5 j7 k1 D9
  go_wp2
  go_ret
  exact ⟨rfl, D10⟩
set_option maxHeartbeats 4000000 in
set_option maxRecDepth 100000 in
theorem powers_gb_lohi (A : Option Addr) (n c : Nat) (xs : List Nat) (m k : Int) (w : World) (hr : RL w .u32 A n xs) (hT : Tab w) (hN3 : n ≤ 3) (X KX : Nat) (hKX : KX ≤ 900) (hXB : X < B9 ^ KX) (hm : m ≤ 40) (hk : 256 < k)
    (HP1 : Hid (∀ w', RL w' .u32 A n xs → Calls Tryd.prog 34 #[.agg #[.slice A n c], .int .i64 m] w' (GivesNE X 0 w'))) (HR1 : Hid (∀ w', RL w' .u32 A n xs → Calls Tryd.prog 35 #[.agg #[.slice A n c], .int .i64 m] w' (GivesNE X 0 w'))) (HP2 : Hid (∀ w', RL w' .u32 A n xs → Calls Tryd.prog 34 #[.agg #[.slice A n c], .int .i64 k] w' (GivesNE 0 2 w'))) :
    Calls Tryd.prog 10 #[.agg #[.slice A n c], .int .i64 m, .int .i64 k] w fun e w' => e = .returned (.bool true) ∧ Below w.heap.size w w' := by
  have hdn : decide (3 < (n : Int)) = false := by simp; omega
  have hdm : decide (40 < m) = false := by simp; omega
  have hdk : decide (40 < k) = true := by simp; omega
  have hdk2 : decide (k ≤ 256) = false := by simp; omega
  have HXB := hide hXB
  clear hXB
  go_enter Tryd.func10, Tryd.ntmps10
  go_wp2_with fail
  generalize hW : w.alloc _ = W
  obtain ⟨hbW, b0, -⟩ := boxes1 hW
  clear hW
  have lt0 := b0.lt
  have KS : Hid (∀ w', Below W.heap.size W w' → w'.cell? ⟨w.heap.size, 0, none⟩ = some (.slice A n c)) := fun w' h => (b0.below h lt0).cell
  clear b0 lt0
  have hrW := hr.below hbW
  have T0 := hT.below hbW
  clear hT hr
  refine (awake_any _ T0).mono ?_
  rintro e w1 ⟨rfl, D1⟩
  obtain k1 := KS.out w1 D1
  go_wp2_with fail
  refine (HP1.out _ (hrW.below D1)).mono ?_
  rintro e w3 ⟨A3, n3, c3, rfl, h3, hn3, hc3, hx⟩
  have D3 := D1.trans (hx.mono D1.size)
  clear hx k1 D1
  obtain k1 := KS.out (w3.alloc (.cells #[.slice A3 n3 c3] 24)) (D3.alloc D3.size _)
  go_wp2_with fail
  generalize hW : w3.alloc _ = W3
  obtain ⟨hb3, b3, -⟩ := boxes1 hW
  have h3 := h3.below hb3
  rw [hW] at k1
  clear hW
  have D4 := D3.trans (hb3.mono D3.size)
  clear k1
  refine (HR1.out _ (hrW.below D4)).mono ?_
  rintro e w5 ⟨A5, n5, c5, rfl, h5, hn5, hc5, hx⟩
  have D5 := D4.trans (hx.mono D4.size)
  have h3 := h3.below hx
  have b3 := b3.below' hx
  clear hx D3 D4 hb3
  obtain k1 := KS.out (w5.alloc (.cells #[.slice A5 n5 c5] 24)) (D5.alloc D5.size _)
  go_wp2_with fail
  generalize hW : w5.alloc _ = W5
  obtain ⟨hb5, b5, -⟩ := boxes1 hW
  have h3 := h3.below hb5
  have h5 := h5.below hb5
  have b3 := b3.below' hb5
  clear hW k1
  have D6 := D5.trans (hb5.mono D5.size)
  refine (HP2.out _ (hrW.below D6)).mono ?_
  rintro e w7 ⟨A7, n7, c7, rfl, h7, hn7, hc7, hx⟩
  have D7 := D6.trans (hx.mono D6.size)
  have h3 := h3.below hx
  have h5 := h5.below hx
  have b3 := b3.below' hx
  have b5 := b5.below' hx
  clear hx D5 D6 hb5
  have j3 := (b3.alloc (.cells #[.slice A7 n7 c7] 24)).cell
  have j5 := (b5.alloc (.cells #[.slice A7 n7 c7] 24)).cell
  go_wp2_with fail
  generalize hW : w7.alloc _ = W7
  obtain ⟨hb7, b7, -⟩ := boxes1 hW
  have h3 := h3.below hb7
  have h5 := h5.below hb7
  have h7 := h7.below hb7
  have b3 := b3.below' hb7
  have b5 := b5.below' hb7
  clear hW j3 j5
  have D8 := D7.trans (hb7.mono D7.size)
  clear hb7 D7
  have l3 : n3 ≤ 900 := Nat.le_trans (lenB1 h3 HXB.out) hKX
  refine (same_d A3 n3 c3 X A5 n5 c5 _ h3 (by omega) h5).mono ?_
  rintro e w9 ⟨rfl, hx⟩
  have D9 := D8.trans (hx.mono D8.size)
  have h3 := h3.below hx
  have h5 := h5.below hx
  have h7 := h7.below hx
  have b3 := b3.below' hx
  have b5 := b5.below' hx
  have b7 := b7.below' hx
  have j3 := b3.cell
  have j5 := b5.cell
  have j7 := b7.cell
  obtain k1 := KS.out _ D9
  clear hx D8
  go_wp2_with fail
  refine (same_d A3 n3 c3 X A5 n5 c5 _ h3 (by omega) h5).mono ?_
  rintro e w10 ⟨rfl, hx⟩
  have D10 := hbW.trans ((D9.trans (hx.mono D9.size)).mono hbW.size)
  clear hx h3 h5 h7 b3 b5 b7 j3 j5 j7 k1 D9
  go_wp2
  go_ret
  exact ⟨rfl, D10⟩
set_option maxHeartbeats 4000000 in
set_option maxRecDepth 100000 in
theorem powers_b_lolo (A : Option Addr) (n c : Nat) (xs : List Nat) (m k : Int) (w : World) (hr : RL w .u32 A n xs) (hT : Tab w) (hN3 : n ≤ 3) (Y : Nat) (ey : Int) (hm : m ≤ 40) (hk : k ≤ 40)
    (HP1 : Hid (∀ w', RL w' .u32 A n xs → Calls Tryd.prog 34 #[.agg #[.slice A n c], .int .i64 m] w' (GivesNE 0 2 w'))) (HR1 : Hid (∀ w', RL w' .u32 A n xs → Calls Tryd.prog 35 #[.agg #[.slice A n c], .int .i64 m] w' (GivesNE 0 2 w'))) (HP2 : Hid (∀ w', RL w' .u32 A n xs → Calls Tryd.prog 34 #[.agg #[.slice A n c], .int .i64 k] w' (GivesNE Y ey w'))) :
    Calls Tryd.prog 10 #[.agg #[.slice A n c], .int .i64 m, .int .i64 k] w fun e w' => e = .returned (.bool true) ∧ Below w.heap.size w w' := by
  have hdn : decide (3 < (n : Int)) = false := by simp; omega
  have hdm : decide (40 < m) = false := by simp; omega
  have hdk : decide (40 < k) = false := by simp; omega
  go_enter Tryd.func10, Tryd.ntmps10
  go_wp2_with fail
  generalize hW : w.alloc _ = W
  obtain ⟨hbW, b0, -⟩ := boxes1 hW
  clear hW
  have lt0 := b0.lt
  have KS : Hid (∀ w', Below W.heap.size W w' → w'.cell? ⟨w.heap.size, 0, none⟩ = some (.slice A n c)) := fun w' h => (b0.below h lt0).cell
  clear b0 lt0
  have hrW := hr.below hbW
  have T0 := hT.below hbW
  clear hT hr
  refine (awake_any _ T0).mono ?_
  rintro e w1 ⟨rfl, D1⟩
  obtain k1 := KS.out w1 D1
  go_wp2_with fail
  refine (HP1.out _ (hrW.below D1)).mono ?_
  rintro e w3 ⟨A3, n3, c3, rfl, h3, hn3, hc3, hx⟩
  have D3 := D1.trans (hx.mono D1.size)
  clear hx k1 D1
  obtain k1 := KS.out (w3.alloc (.cells #[.slice A3 n3 c3] 24)) (D3.alloc D3.size _)
  go_wp2_with fail
  generalize hW : w3.alloc _ = W3
  obtain ⟨hb3, b3, -⟩ := boxes1 hW
  have h3 := h3.below hb3
  rw [hW] at k1
  clear hW
  have D4 := D3.trans (hb3.mono D3.size)
  clear k1
  refine (HR1.out _ (hrW.below D4)).mono ?_
  rintro e w5 ⟨A5, n5, c5, rfl, h5, hn5, hc5, hx⟩
  have D5 := D4.trans (hx.mono D4.size)
  have h3 := h3.below hx
  have b3 := b3.below' hx
  clear hx D3 D4 hb3
  obtain k1 := KS.out (w5.alloc (.cells #[.slice A5 n5 c5] 24)) (D5.alloc D5.size _)
  go_wp2_with fail
  generalize hW : w5.alloc _ = W5
  obtain ⟨hb5, b5, -⟩ := boxes1 hW
  have h3 := h3.below hb5
  have h5 := h5.below hb5
  have b3 := b3.below' hb5
  clear hW k1
  have D6 := D5.trans (hb5.mono D5.size)
  refine (HP2.out _ (hrW.below D6)).mono ?_
  rintro e w7 ⟨A7, n7, c7, rfl, h7, hn7, hc7, hx⟩
  have D7 := D6.trans (hx.mono D6.size)
  have h3 := h3.below hx
  have h5 := h5.below hx
  have b3 := b3.below' hx
  have b5 := b5.below' hx
  clear hx D5 D6 hb5
  have j3 := (b3.alloc (.cells #[.slice A7 n7 c7] 24)).cell
  have j5 := (b5.alloc (.cells #[.slice A7 n7 c7] 24)).cell
  go_wp2_with fail
  generalize hW : w7.alloc _ = W7
  obtain ⟨hb7, b7, -⟩ := boxes1 hW
  have h3 := h3.below hb7
  have h5 := h5.below hb7
  have h7 := h7.below hb7
  have b3 := b3.below' hb7
  have b5 := b5.below' hb7
  clear hW j3 j5
  have D8 := D7.trans (hb7.mono D7.size)
  clear hb7 D7
  have l3 : n3 ≤ 900 := Nat.le_trans (Nat.le_of_eq h3.len.symm) (Nat.zero_le _)
  refine (same_d A3 n3 c3 0 A5 n5 c5 _ h3 (by omega) h5).mono ?_
  rintro e w9 ⟨rfl, hx⟩
  have D9 := D8.trans (hx.mono D8.size)
  have h3 := h3.below hx
  have h5 := h5.below hx
  have h7 := h7.below hx
  have b3 := b3.below' hx
  have b5 := b5.below' hx
  have b7 := b7.below' hx
  have j3 := b3.cell
  have j5 := b5.cell
  have j7 := b7.cell
  obtain k1 := KS.out _ D9
  clear hx D8
  go_wp2_with fail
  refine (same_d A3 n3 c3 0 A5 n5 c5 _ h3 (by omega) h5).mono ?_
  rintro e w10 ⟨rfl, hx⟩
  have D10 := hbW.trans ((D9.trans (hx.mono D9.size)).mono hbW.size)
  clear hx h3 h5 h7 b3 b5 b7 j3 j5 j7 k1 D9
  go_wp2
  go_ret
  exact ⟨rfl, D10⟩
set_option maxHeartbeats 4000000 in
set_option maxRecDepth 100000 in
theorem powers_b_lohi (A : Option Addr) (n c : Nat) (xs : List Nat) (m k : Int) (w : World) (hr : RL w .u32 A n xs) (hT : Tab w) (hN3 : n ≤ 3) (Y : Nat) (ey : Int) (hm : m ≤ 40) (hk : 256 < k)
    (HP1 : Hid (∀ w', RL w' .u32 A n xs → Calls Tryd.prog 34 #[.agg #[.slice A n c], .int .i64 m] w' (GivesNE 0 2 w'))) (HR1 : Hid (∀ w', RL w' .u32 A n xs → Calls Tryd.prog 35 #[.agg #[.slice A n c], .int .i64 m] w' (GivesNE 0 2 w'))) (HP2 : Hid (∀ w', RL w' .u32 A n xs → Calls Tryd.prog 34 #[.agg #[.slice A n c], .int .i64 k] w' (GivesNE Y ey w'))) :
    Calls Tryd.prog 10 #[.agg #[.slice A n c], .int .i64 m, .int .i64 k] w fun e w' => e = .returned (.bool true) ∧ Below w.heap.size w w' := by
  have hdn : decide (3 < (n : Int)) = false := by simp; omega
  have hdm : decide (40 < m) = false := by simp; omega
  have hdk : decide (40 < k) = true := by simp; omega
  have hdk2 : decide (k ≤ 256) = false := by simp; omega
  go_enter Tryd.func10, Tryd.ntmps10
  go_wp2_with fail
  generalize hW : w.alloc _ = W
  obtain ⟨hbW, b0, -⟩ := boxes1 hW
  clear hW
  have lt0 := b0.lt
  have KS : Hid (∀ w', Below W.heap.size W w' → w'.cell? ⟨w.heap.size, 0, none⟩ = some (.slice A n c)) := fun w' h => (b0.below h lt0).cell
  clear b0 lt0
  have hrW := hr.below hbW
  have T0 := hT.below hbW
  clear hT hr
  refine (awake_any _ T0).mono ?_
  rintro e w1 ⟨rfl, D1⟩
  obtain k1 := KS.out w1 D1
  go_wp2_with fail
  refine (HP1.out _ (hrW.below D1)).mono ?_
  rintro e w3 ⟨A3, n3, c3, rfl, h3, hn3, hc3, hx⟩
  have D3 := D1.trans (hx.mono D1.size)
  clear hx k1 D1
  obtain k1 := KS.out (w3.alloc (.cells #[.slice A3 n3 c3] 24)) (D3.alloc D3.size _)
  go_wp2_with fail
  generalize hW : w3.alloc _ = W3
  obtain ⟨hb3, b3, -⟩ := boxes1 hW
  have h3 := h3.below hb3
  rw [hW] at k1
  clear hW
  have D4 := D3.trans (hb3.mono D3.size)
  clear k1
  refine (HR1.out _ (hrW.below D4)).mono ?_
  rintro e w5 ⟨A5, n5, c5, rfl, h5, hn5, hc5, hx⟩
  have D5 := D4.trans (hx.mono D4.size)
  have h3 := h3.below hx
  have b3 := b3.below' hx
  clear hx D3 D4 hb3
  obtain k1 := KS.out (w5.alloc (.cells #[.slice A5 n5 c5] 24)) (D5.alloc D5.size _)
  go_wp2_with fail
  generalize hW : w5.alloc _ = W5
  obtain ⟨hb5, b5, -⟩ := boxes1 hW
  have h3 := h3.below hb5
  have h5 := h5.below hb5
  have b3 := b3.below' hb5
  clear hW k1
  have D6 := D5.trans (hb5.mono D5.size)
  refine (HP2.out _ (hrW.below D6)).mono ?_
  rintro e w7 ⟨A7, n7, c7, rfl, h7, hn7, hc7, hx⟩
  have D7 := D6.trans (hx.mono D6.size)
  have h3 := h3.below hx
  have h5 := h5.below hx
  have b3 := b3.below' hx
  have b5 := b5.below' hx
  clear hx D5 D6 hb5
  have j3 := (b3.alloc (.cells #[.slice A7 n7 c7] 24)).cell
  have j5 := (b5.alloc (.cells #[.slice A7 n7 c7] 24)).cell
  go_wp2_with fail
  generalize hW : w7.alloc _ = W7
  obtain ⟨hb7, b7, -⟩ := boxes1 hW
  have h3 := h3.below hb7
  have h5 := h5.below hb7
  have h7 := h7.below hb7
  have b3 := b3.below' hb7
  have b5 := b5.below' hb7
  clear hW j3 j5
  have D8 := D7.trans (hb7.mono D7.size)
  clear hb7 D7
  have l3 : n3 ≤ 900 := Nat.le_trans (Nat.le_of_eq h3.len.symm) (Nat.zero_le _)
  refine (same_d A3 n3 c3 0 A5 n5 c5 _ h3 (by omega) h5).mono ?_
  rintro e w9 ⟨rfl, hx⟩
  have D9 := D8.trans (hx.mono D8.size)
  have h3 := h3.below hx
  have h5 := h5.below hx
  have h7 := h7.below hx
  have b3 := b3.below' hx
  have b5 := b5.below' hx
  have b7 := b7.below' hx
  have j3 := b3.cell
  have j5 := b5.cell
  have j7 := b7.cell
  obtain k1 := KS.out _ D9
  clear hx D8
  go_wp2_with fail
  refine (same_d A3 n3 c3 0 A5 n5 c5 _ h3 (by omega) h5).mono ?_
  rintro e w10 ⟨rfl, hx⟩
  have D10 := hbW.trans ((D9.trans (hx.mono D9.size)).mono hbW.size)
  clear hx h3 h5 h7 b3 b5 b7 j3 j5 j7 k1 D9
  go_wp2
  go_ret
  exact ⟨rfl, D10⟩
set_option maxHeartbeats 4000000 in
set_option maxRecDepth 100000 in
theorem powers_b_hilo (A : Option Addr) (n c : Nat) (xs : List Nat) (m k : Int) (w : World) (hr : RL w .u32 A n xs) (hT : Tab w) (hN3 : n ≤ 3) (Y : Nat) (ey : Int) (hm : 256 < m) (hk : k ≤ 40)
    (HP1 : Hid (∀ w', RL w' .u32 A n xs → Calls Tryd.prog 34 #[.agg #[.slice A n c], .int .i64 m] w' (GivesNE 0 2 w'))) (HR1 : Hid (∀ w', RL w' .u32 A n xs → Calls Tryd.prog 35 #[.agg #[.slice A n c], .int .i64 m] w' (GivesNE 0 2 w'))) (HP2 : Hid (∀ w', RL w' .u32 A n xs → Calls Tryd.prog 34 #[.agg #[.slice A n c], .int .i64 k] w' (GivesNE Y ey w'))) :
    Calls Tryd.prog 10 #[.agg #[.slice A n c], .int .i64 m, .int .i64 k] w fun e w' => e = .returned (.bool true) ∧ Below w.heap.size w w' := by
  have hdn : decide (3 < (n : Int)) = false := by simp; omega
  have hdm : decide (40 < m) = true := by simp; omega
  have hdk : decide (40 < k) = false := by simp; omega
  have hdm2 : decide (m ≤ 256) = false := by simp; omega
  go_enter Tryd.func10, Tryd.ntmps10
  go_wp2_with fail
  generalize hW : w.alloc _ = W
  obtain ⟨hbW, b0, -⟩ := boxes1 hW
  clear hW
  have lt0 := b0.lt
  have KS : Hid (∀ w', Below W.heap.size W w' → w'.cell? ⟨w.heap.size, 0, none⟩ = some (.slice A n c)) := fun w' h => (b0.below h lt0).cell
  clear b0 lt0
  have hrW := hr.below hbW
  have T0 := hT.below hbW
  clear hT hr
  refine (awake_any _ T0).mono ?_
  rintro e w1 ⟨rfl, D1⟩
  obtain k1 := KS.out w1 D1
  go_wp2_with fail
  refine (HP1.out _ (hrW.below D1)).mono ?_
  rintro e w3 ⟨A3, n3, c3, rfl, h3, hn3, hc3, hx⟩
  have D3 := D1.trans (hx.mono D1.size)
  clear hx k1 D1
  obtain k1 := KS.out (w3.alloc (.cells #[.slice A3 n3 c3] 24)) (D3.alloc D3.size _)
  go_wp2_with fail
  generalize hW : w3.alloc _ = W3
  obtain ⟨hb3, b3, -⟩ := boxes1 hW
  have h3 := h3.below hb3
  rw [hW] at k1
  clear hW
  have D4 := D3.trans (hb3.mono D3.size)
  clear k1
  refine (HR1.out _ (hrW.below D4)).mono ?_
  rintro e w5 ⟨A5, n5, c5, rfl, h5, hn5, hc5, hx⟩
  have D5 := D4.trans (hx.mono D4.size)
  have h3 := h3.below hx
  have b3 := b3.below' hx
  clear hx D3 D4 hb3
  obtain k1 := KS.out (w5.alloc (.cells #[.slice A5 n5 c5] 24)) (D5.alloc D5.size _)
  go_wp2_with fail
  generalize hW : w5.alloc _ = W5
  obtain ⟨hb5, b5, -⟩ := boxes1 hW
  have h3 := h3.below hb5
  have h5 := h5.below hb5
  have b3 := b3.below' hb5
  clear hW k1
  have D6 := D5.trans (hb5.mono D5.size)
  refine (HP2.out _ (hrW.below D6)).mono ?_
  rintro e w7 ⟨A7, n7, c7, rfl, h7, hn7, hc7, hx⟩
  have D7 := D6.trans (hx.mono D6.size)
  have h3 := h3.below hx
  have h5 := h5.below hx
  have b3 := b3.below' hx
  have b5 := b5.below' hx
  clear hx D5 D6 hb5
  have j3 := (b3.alloc (.cells #[.slice A7 n7 c7] 24)).cell
  have j5 := (b5.alloc (.cells #[.slice A7 n7 c7] 24)).cell
  go_wp2_with fail
  generalize hW : w7.alloc _ = W7
  obtain ⟨hb7, b7, -⟩ := boxes1 hW
  have h3 := h3.below hb7
  have h5 := h5.below hb7
  have h7 := h7.below hb7
  have b3 := b3.below' hb7
  have b5 := b5.below' hb7
  clear hW j3 j5
  have D8 := D7.trans (hb7.mono D7.size)
  clear hb7 D7
  have l3 : n3 ≤ 900 := Nat.le_trans (Nat.le_of_eq h3.len.symm) (Nat.zero_le _)
  refine (same_d A3 n3 c3 0 A5 n5 c5 _ h3 (by omega) h5).mono ?_
  rintro e w9 ⟨rfl, hx⟩
  have D9 := D8.trans (hx.mono D8.size)
  have h3 := h3.below hx
  have h5 := h5.below hx
  have h7 := h7.below hx
  have b3 := b3.below' hx
  have b5 := b5.below' hx
  have b7 := b7.below' hx
  have j3 := b3.cell
  have j5 := b5.cell
  have j7 := b7.cell
  obtain k1 := KS.out _ D9
  clear hx D8
  go_wp2_with fail
  refine (same_d A3 n3 c3 0 A5 n5 c5 _ h3 (by omega) h5).mono ?_
  rintro e w10 ⟨rfl, hx⟩
  have D10 := hbW.trans ((D9.trans (hx.mono D9.size)).mono hbW.size)
  clear hx h3 h5 h7 b3 b5 b7 j3 j5 j7 k1 D9
  go_wp2
  go_ret
  exact ⟨rfl, D10⟩
set_option maxHeartbeats 4000000 in
set_option maxRecDepth 100000 in
theorem powers_b_hihi (A : Option Addr) (n c : Nat) (xs : List Nat) (m k : Int) (w : World) (hr : RL w .u32 A n xs) (hT : Tab w) (hN3 : n ≤ 3) (Y : Nat) (ey : Int) (hm : 256 < m) (hk : 256 < k)
    (HP1 : Hid (∀ w', RL w' .u32 A n xs → Calls Tryd.prog 34 #[.agg #[.slice A n c], .int .i64 m] w' (GivesNE 0 2 w'))) (HR1 : Hid (∀ w', RL w' .u32 A n xs → Calls Tryd.prog 35 #[.agg #[.slice A n c], .int .i64 m] w' (GivesNE 0 2 w'))) (HP2 : Hid (∀ w', RL w' .u32 A n xs → Calls Tryd.prog 34 #[.agg #[.slice A n c], .int .i64 k] w' (GivesNE Y ey w'))) :
    Calls Tryd.prog 10 #[.agg #[.slice A n c], .int .i64 m, .int .i64 k] w fun e w' => e = .returned (.bool true) ∧ Below w.heap.size w w' := by
  have hdn : decide (3 < (n : Int)) = false := by simp; omega
  have hdm : decide (40 < m) = true := by simp; omega
  have hdk : decide (40 < k) = true := by simp; omega
  have hdm2 : decide (m ≤ 256) = false := by simp; omega
  have hdk2 : decide (k ≤ 256) = false := by simp; omega
  go_enter Tryd.func10, Tryd.ntmps10
  go_wp2_with fail
  generalize hW : w.alloc _ = W
  obtain ⟨hbW, b0, -⟩ := boxes1 hW
  clear hW
  have lt0 := b0.lt
  have KS : Hid (∀ w', Below W.heap.size W w' → w'.cell? ⟨w.heap.size, 0, none⟩ = some (.slice A n c)) := fun w' h => (b0.below h lt0).cell
  clear b0 lt0
  have hrW := hr.below hbW
  have T0 := hT.below hbW
  clear hT hr
  refine (awake_any _ T0).mono ?_
  rintro e w1 ⟨rfl, D1⟩
  obtain k1 := KS.out w1 D1
  go_wp2_with fail
  refine (HP1.out _ (hrW.below D1)).mono ?_
  rintro e w3 ⟨A3, n3, c3, rfl, h3, hn3, hc3, hx⟩
  have D3 := D1.trans (hx.mono D1.size)
  clear hx k1 D1
  obtain k1 := KS.out (w3.alloc (.cells #[.slice A3 n3 c3] 24)) (D3.alloc D3.size _)
  go_wp2_with fail
  generalize hW : w3.alloc _ = W3
  obtain ⟨hb3, b3, -⟩ := boxes1 hW
  have h3 := h3.below hb3
  rw [hW] at k1
  clear hW
  have D4 := D3.trans (hb3.mono D3.size)
  clear k1
  refine (HR1.out _ (hrW.below D4)).mono ?_
  rintro e w5 ⟨A5, n5, c5, rfl, h5, hn5, hc5, hx⟩
  have D5 := D4.trans (hx.mono D4.size)
  have h3 := h3.below hx
  have b3 := b3.below' hx
  clear hx D3 D4 hb3
  obtain k1 := KS.out (w5.alloc (.cells #[.slice A5 n5 c5] 24)) (D5.alloc D5.size _)
  go_wp2_with fail
  generalize hW : w5.alloc _ = W5
  obtain ⟨hb5, b5, -⟩ := boxes1 hW
  have h3 := h3.below hb5
  have h5 := h5.below hb5
  have b3 := b3.below' hb5
  clear hW k1
  have D6 := D5.trans (hb5.mono D5.size)
  refine (HP2.out _ (hrW.below D6)).mono ?_
  rintro e w7 ⟨A7, n7, c7, rfl, h7, hn7, hc7, hx⟩
  have D7 := D6.trans (hx.mono D6.size)
  have h3 := h3.below hx
  have h5 := h5.below hx
  have b3 := b3.below' hx
  have b5 := b5.below' hx
  clear hx D5 D6 hb5
  have j3 := (b3.alloc (.cells #[.slice A7 n7 c7] 24)).cell
  have j5 := (b5.alloc (.cells #[.slice A7 n7 c7] 24)).cell
  go_wp2_with fail
  generalize hW : w7.alloc _ = W7
  obtain ⟨hb7, b7, -⟩ := boxes1 hW
  have h3 := h3.below hb7
  have h5 := h5.below hb7
  have h7 := h7.below hb7
  have b3 := b3.below' hb7
  have b5 := b5.below' hb7
  clear hW j3 j5
  have D8 := D7.trans (hb7.mono D7.size)
  clear hb7 D7
  have l3 : n3 ≤ 900 := Nat.le_trans (Nat.le_of_eq h3.len.symm) (Nat.zero_le _)
  refine (same_d A3 n3 c3 0 A5 n5 c5 _ h3 (by omega) h5).mono ?_
  rintro e w9 ⟨rfl, hx⟩
  have D9 := D8.trans (hx.mono D8.size)
  have h3 := h3.below hx
  have h5 := h5.below hx
  have h7 := h7.below hx
  have b3 := b3.below' hx
  have b5 := b5.below' hx
  have b7 := b7.below' hx
  have j3 := b3.cell
  have j5 := b5.cell
  have j7 := b7.cell
  obtain k1 := KS.out _ D9
  clear hx D8
  go_wp2_with fail
  refine (same_d A3 n3 c3 0 A5 n5 c5 _ h3 (by omega) h5).mono ?_
  rintro e w10 ⟨rfl, hx⟩
  have D10 := hbW.trans ((D9.trans (hx.mono D9.size)).mono hbW.size)
  clear hx h3 h5 h7 b3 b5 b7 j3 j5 j7 k1 D9
  go_wp2
  go_ret
  exact ⟨rfl, D10⟩
end Go.Proofs.YthkgiobemfnpmaaDoor
