/- The fixed examples: awake returns true. -/
import Derived.Test.YthkgiobemfnpmaaDoorCan
namespace Go.Proofs.YthkgiobemfnpmaaDoor
open Go Go.RowKit

theorem isText_007 (w : World) : Calls Tryd.prog 55 #[.string ⟨#[48, 48, 55]⟩] w fun e w' => e = .returned (.bool false) ∧ w = w' := by
  go_enter Tryd.func55, Tryd.ntmps55
  go_wp2
  refine wp_loop_rounds 4 ?_
  rw [rounds_succ]
  go_wp2
  rw [rounds_succ]
  go_wp2
  rw [rounds_succ]
  go_wp2
  rw [rounds_succ]
  go_wp2
  go_ret
  exact ⟨rfl, rfl⟩
theorem parse_007 (w : World) : Calls Tryd.prog 37 #[.string ⟨#[48, 48, 55]⟩] w (GivesNE 0 3 w) := by
  go_enter Tryd.func37, Tryd.ntmps37
  go_wp2_with fail
  refine (isText_007 _).mono ?_
  rintro e w1 ⟨rfl, rfl⟩
  go_wp2
  refine bodyPost_ret (v := .tuple #[.agg #[.slice none 0 0], .int .i64 3]) (by simp [results, Tryd.results37, go_sem]) rfl ?_
  exact ⟨none, 0, 0, rfl, RL.nil_, by omega, by simp [maxLen], (Below.refl _ _).alloc (Nat.le_refl _) _⟩

theorem box3e {w W : World} {v0 v1 v2 : Value} {t0 t1 t2 : TypeId} (hW : (((w.alloc (.cells #[v0] t0)).alloc (.cells #[v1] t1)).alloc (.cells #[v2] t2)) = W) :
    Below w.heap.size w W ∧ W.cell? ⟨w.heap.size, 0, none⟩ = some v0 ∧ W.cell? ⟨w.heap.size + 1, 0, none⟩ = some v1 ∧ W.heap[w.heap.size + 2]? = some (.cells #[v2] t2 (0, 0)) ∧ W.heap.size = w.heap.size + 3 := by
  subst hW; exact box3 w v0 v1 v2 t0 t1 t2
theorem box2e {w W : World} {v0 v1 : Value} {t0 t1 : TypeId} (hW : ((w.alloc (.cells #[v0] t0)).alloc (.cells #[v1] t1)) = W) :
    Below w.heap.size w W ∧ W.cell? ⟨w.heap.size, 0, none⟩ = some v0 ∧ W.cell? ⟨w.heap.size + 1, 0, none⟩ = some v1 ∧ W.heap.size = w.heap.size + 2 := by
  subst hW; exact box2 w v0 v1 t0 t1
theorem box1e {w W : World} {v0 : Value} {t0 : TypeId} (hW : (w.alloc (.cells #[v0] t0)) = W) :
    Below w.heap.size w W ∧ W.cell? ⟨w.heap.size, 0, none⟩ = some v0 ∧ W.heap.size = w.heap.size + 1 := by
  subst hW; exact box1 w v0 t0
/-- a slice of two numbers, just made -/
theorem two_e {w W : World} {k : IntKind} {t : TypeId} {i j : Int} (hW : w.alloc (.cells #[.int k i, .int k j] t) = W) (x y : Nat) (hi : i = (x : Int)) (hj : j = (y : Int)) :
    Below w.heap.size w W ∧ RL W k (some ⟨w.heap.size, 0, none⟩) 2 [x, y] := by
  subst hW; subst hi; subst hj
  exact ⟨(Below.refl _ _).alloc (Nat.le_refl _) _, Own.rl (t := t) (Own.new w k t [x, y]) rfl⟩
theorem pow_2_10 (A : Option Addr) (n c : Nat) (w : World) (hr : RL w .u32 A n (dig B9 2)) (hn : n ≤ c) (hc : c ≤ maxLen) :
    Calls Tryd.prog 34 #[.agg #[.slice A n c], .int .i64 10] w (GivesNE 1024 0 w) := by
  have hl : n ≤ 1 := len_le hr.len (by decide)
  have h2 : val B9 (dig B9 2) = 2 := val_dig B9 (by decide) 2
  have h3 : nd 2 = 1 := by decide +kernel
  obtain ⟨K, hK⟩ : ∃ K, K = 4000 := ⟨_, rfl⟩
  refine pow_ok A n c _ 10 w hr hn hc (by omega) (dig_u32 2) (by omega) (by rw [h2, h3]; omega) 1024 (by rw [h2]) K hK ?_
  intro _
  rw [h2]
  exact Nat.le_trans (by decide : 2 ≤ 10 ^ 1) (Nat.pow_le_pow_right (by decide) (by omega))
theorem lenN {w : World} {A : Option Addr} {n u : Nat} (h : RL w .u32 A n (dig B9 u)) (hu : u < B9) : n ≤ 900000 := by
  have : n ≤ 1 := len_le h.len (by simpa using hu)
  omega

set_option maxHeartbeats 4000000 in
set_option maxRecDepth 100000 in
theorem awake_any (w : World) (hT : Tab w) : Calls Tryd.prog 13 #[] w fun e w' => e = .returned (.bool true) ∧ Below w.heap.size w w' := by
  go_enter Tryd.func13, Tryd.ntmps13
  go_wp2_with fail
  refine (of_any 17 _ (by omega)).mono ?_
  rintro e w1 ⟨A1, n1, c1, rfl, hr1, hn1, hc1, hb1⟩
  go_wp2_with fail
  refine (of_any 5 _ (by omega)).mono ?_
  rintro e w2 ⟨A2, n2, c2, rfl, hr2, hn2, hc2, hb2⟩
  go_wp2_with fail
  refine (divMod_d A1 n1 c1 17 A2 n2 c2 5 _ (hr1.below hb2) hn1 hc1 (lenN hr1 (by decide)) hr2 hn2 hc2 (lenN hr2 (by decide)) 3 2 (by decide) (by decide) (by decide)).mono ?_
  rintro e w3 ⟨Aq, nq, cq, Ar, nr, cr, rfl, hrq, hnq, hcq, hrr, hnr, hcr, hb3⟩
  go_wp2_with fail
  have B3 := hb1.trans ((hb2.mono hb1.size).trans (hb3.mono (Nat.le_trans hb1.size hb2.size)))
  clear hr1 hn1 hc1 hb1 hr2 hn2 hc2 hb2 hb3
  generalize hW : ((w3.alloc _).alloc _).alloc _ = W3
  have HB := box3e hW
  clear hW
  obtain ⟨hb3, e1, e2, e3, e4⟩ := HB
  have hz : RL W3 .u32 (some ⟨w3.heap.size + 1 + 1, 0, none⟩) 1 [0] := Own.rl (t := _) e3 rfl
  have KQ : Hid (∀ w', Below W3.heap.size W3 w' → w'.cell? ⟨w3.heap.size, 0, none⟩ = some (.slice Aq nq cq)) := fun w' hb => (hb.cell (by simp; omega)).trans e1
  have KR : Hid (∀ w', Below W3.heap.size W3 w' → w'.cell? ⟨w3.heap.size + 1, 0, none⟩ = some (.slice Ar nr cr)) := fun w' hb => (hb.cell (by simp; omega)).trans e2
  have B4 := B3.trans (hb3.mono B3.size)
  have hrq4 := hrq.below hb3
  have hrr4 := hrr.below hb3
  clear e1 e2 e3 e4 hrq hrr hb3 B3
  refine (divMod_zero Aq nq cq 3 _ 1 1 [0] _ hrq4 hnq hcq (lenN hrq4 (by decide)) hz (by omega) (by simp [maxLen]) (by omega) (by simp) rfl).mono ?_
  rintro e w5 ⟨A3, n3, c3, A4, n4, c4, rfl, -, -, -, -, -, -, hb5⟩
  go_wp2_with fail
  generalize hW : (w5.alloc _).alloc _ = W5
  obtain ⟨hb6, -, -, -⟩ := box2e hW
  clear hW
  have C5 := hb5.trans (hb6.mono hb5.size)
  clear hb5 hb6
  refine (of_any 2 _ (by omega)).mono ?_
  rintro e w6 ⟨A5, n5, c5, rfl, hr5, hn5, hc5, hb⟩
  have C6 := C5.trans (hb.mono C5.size)
  clear hb
  go_wp2_with fail
  refine (of_any 5 _ (by omega)).mono ?_
  rintro e w7 ⟨A6, n6, c6, rfl, hr6, hn6, hc6, hb⟩
  have C7 := C6.trans (hb.mono C6.size)
  have hr5 := hr5.below hb
  clear hb
  go_wp2_with fail
  refine (sub_d A5 n5 c5 2 A6 n6 c6 5 _ hr5 hn5 hc5 (lenN hr5 (by decide)) hr6 hn6 hc6 (lenN hr6 (by decide)) 0 2 (by decide) (by decide)).mono ?_
  rintro e w8 ⟨A7, n7, c7, rfl, -, -, -, hb⟩
  have C8 := C7.trans (hb.mono C7.size)
  clear hb hr5 hn5 hc5 hr6 hn6 hc6
  go_wp2_with fail
  generalize hW : w8.alloc _ = W8
  obtain ⟨hb, -, -⟩ := box1e hW
  clear hW
  have C9 := C8.trans (hb.mono C8.size)
  clear hb
  refine (of_any 2 _ (by omega)).mono ?_
  rintro e w9 ⟨A8, n8, c8, rfl, hr8, hn8, hc8, hb⟩
  have C10 := C9.trans (hb.mono C9.size)
  clear hb
  go_wp2_with fail
  refine (pow_2_10 A8 n8 c8 _ hr8 hn8 hc8).mono ?_
  rintro e w10 ⟨Ap, np, cp, rfl, hrp, hnp, hcp, hb⟩
  have C11 := C10.trans (hb.mono C10.size)
  clear hb hr8 hn8 hc8
  go_wp2_with fail
  generalize hW : w10.alloc _ = W10
  obtain ⟨hb, e1, e2⟩ := box1e hW
  clear hW
  have C12 := C11.trans (hb.mono C11.size)
  have hrp := hrp.below hb
  have KP : Hid (∀ w', Below W10.heap.size W10 w' → w'.cell? ⟨w10.heap.size, 0, none⟩ = some (.slice Ap np cp)) := fun w' hb => (hb.cell (by simp; omega)).trans e1
  clear hb e1 e2
  refine (parse_007 _).mono ?_
  rintro e w11 ⟨A9, n9, c9, rfl, -, -, -, D11⟩
  go_wp2_with fail
  generalize hW : w11.alloc _ = W11
  obtain ⟨hb, -, hs⟩ := box1e hW
  clear hW
  rw [← hs]
  have D12 := D11.trans (hb.mono D11.size)
  clear hb D11 hs
  generalize hW : W11.alloc _ = W12
  obtain ⟨hb, hl⟩ := two_e hW 7 0 rfl rfl
  clear hW
  have D12 := D12.trans (hb.mono D12.size)
  clear hb
  refine (small_any _ 2 2 [7, 0] _ hl (by omega) (by simp [maxLen]) (by omega) (by simp)).mono ?_
  rintro e w13 ⟨rfl, hb⟩
  rw [show smallV (val B9 [7, 0]) = 7 by decide, show smallB (val B9 [7, 0]) = true by decide]
  have D13 := D12.trans (hb.mono D12.size)
  clear hb hl
  go_wp2_with fail
  refine (of_any 1000 _ (by omega)).mono ?_
  rintro e w14 ⟨A10, n10, c10, rfl, hr10, hn10, hc10, hb⟩
  have D14 := D13.trans (hb.mono D13.size)
  clear hb
  go_wp2_with fail
  refine (digits_d A10 n10 c10 1000 _ hr10 hn10 hc10 (lenN hr10 (by decide)) 4 nd1000).mono ?_
  rintro e w15 ⟨rfl, hb⟩
  have D15 := D14.trans (hb.mono D14.size)
  clear hb hr10 hn10 hc10
  have hq := KQ.out w15 (C12.trans (D15.mono C12.size))
  go_wp2_with fail
  have B15 := B4.trans ((C12.trans (D15.mono C12.size)).mono B4.size)
  have T15 := hT.below B15
  clear hq hT
  have hrq := hrq4.below (C12.trans (D15.mono C12.size))
  refine (text_d Aq nq cq 3 _ hrq hnq hcq (lenN hrq (by decide)) T15 _ str3).mono ?_
  rintro e w16 ⟨rfl, hb⟩
  have D16 := D15.trans (hb.mono D15.size)
  have T16 := T15.below hb
  clear hb hrq T15
  have hq := KR.out w16 (C12.trans (D16.mono C12.size))
  go_wp2_with fail
  have hrr := hrr4.below (C12.trans (D16.mono C12.size))
  refine (text_d Ar nr cr 2 _ hrr hnr hcr (lenN hrr (by decide)) T16 _ str2).mono ?_
  rintro e w17 ⟨rfl, hb⟩
  have D17 := D16.trans (hb.mono D16.size)
  have T17 := T16.below hb
  clear hb hrr T16 hq
  have hq := KP.out w17 D17
  go_wp2_with fail
  have hrp := hrp.below D17
  refine (text_d Ap np cp 1024 _ hrp hnp hcp (lenN hrp (by decide)) T17 _ str1024).mono ?_
  rintro e w18 ⟨rfl, hb⟩
  have D18 := D17.trans (hb.mono D17.size)
  have T18 := T17.below hb
  clear hb hrp T17 hq
  go_wp2_with fail
  generalize hW : w18.alloc _ = W18
  obtain ⟨hb, hl⟩ := two_e hW 7 1 rfl rfl
  clear hW
  have D19 := D18.trans (hb.mono D18.size)
  have T19 := T18.below hb
  clear hb T18
  have HT := text_any _ 2 2 [7, 1] _ hl (by omega) (by simp [maxLen]) (by omega) (by simp) T19 1000000007 (by decide)
  rw [strBig] at HT
  refine HT.mono ?_
  rintro e w20 ⟨rfl, hb⟩
  have D20 := D19.trans (hb.mono D19.size)
  have T20 := T19.below hb
  clear hb hl HT T19
  go_wp2_with fail
  refine (of_any 12 _ (by omega)).mono ?_
  rintro e w21 ⟨A11, n11, c11, rfl, hr11, hn11, hc11, hb⟩
  have D21 := D20.trans (hb.mono D20.size)
  have T21 := T20.below hb
  clear hb T20
  go_wp2_with fail
  refine (of_any 18 _ (by omega)).mono ?_
  rintro e w22 ⟨A12, n12, c12, rfl, hr12, hn12, hc12, hb⟩
  have D22 := D21.trans (hb.mono D21.size)
  have T22 := T21.below hb
  have hr11 := hr11.below hb
  clear hb T21
  go_wp2_with fail
  refine (gcd_d A11 n11 c11 12 A12 n12 c12 18 _ hr11 hn11 hc11 (lenN hr11 (by decide)) hr12 hn12 hc12 (lenN hr12 (by decide)) 6 (by decide)).mono ?_
  rintro e w23 ⟨A13, n13, c13, rfl, hr13, hn13, hc13, hb⟩
  have D23 := D22.trans (hb.mono D22.size)
  have T23 := T22.below hb
  clear hb T22 hr11 hr12 hn11 hn12 hc11 hc12
  go_wp2_with fail
  refine (text_d A13 n13 c13 6 _ hr13 hn13 hc13 (lenN hr13 (by decide)) T23 _ str6).mono ?_
  rintro e w24 ⟨rfl, hb⟩
  have D24 := D23.trans (hb.mono D23.size)
  clear hb T23 hr13
  go_wp2_with fail
  generalize hW : w24.alloc _ = W24
  obtain ⟨hb, hl⟩ := two_e hW 4000000000 0 rfl rfl
  clear hW
  have D25 := D24.trans (hb.mono D24.size)
  clear hb
  refine (norm_any _ 2 2 [4000000000, 0] _ hl (by omega) (by simp [maxLen]) (by omega) (by simp)).mono ?_
  rintro e w25 ⟨A14, n14, c14, rfl, hr14, hn14, hc14, hb⟩
  rw [show val B9 [4000000000, 0] = 4000000000 by decide, dig4e9] at hr14
  have D26 := D25.trans (hb.mono D25.size)
  clear hb hl
  go_wp2_with fail
  generalize hW : w25.alloc _ = W25
  obtain ⟨hb, hl⟩ := two_e hW 0 4 rfl rfl
  clear hW
  have D27 := D26.trans (hb.mono D26.size)
  have hr14 := hr14.below hb
  clear hb
  have h14 : n14 = 2 := hr14.len.symm
  subst h14
  refine (base_same A14 2 c14 [0, 4] _ 2 _ hr14 (by simp [maxLen]) hl).mono ?_
  rintro e w27 ⟨rfl, hb⟩
  have D28 := D27.trans (hb.mono D27.size)
  go_wp2_with fail
  have B28 := B4.trans ((C12.trans (D28.mono C12.size)).mono B4.size)
  go_ret
  exact ⟨rfl, B28⟩
end Go.Proofs.YthkgiobemfnpmaaDoor
