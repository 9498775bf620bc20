/- The contracts of counting.partitions, Stirling, Surjections. -/
import Derived.Test.YtjmiaodjapclbaaDoorCProd
import Derived.Test.YtjmiaodjapclbaaDoorNRow
import Derived.Deep.RegionLaw
namespace Go.Proofs.YtjmiaodjapclbaaDoor
open Go Go.RowKit

theorem stir_self : ∀ n, stir n n = 1
  | 0 => rfl
  | n + 1 => by
    show stir n n + (n + 1) * stir n (n + 1) = 1
    rw [stir_self n, stir_zero (by omega), Nat.mul_zero]
theorem stir_le66 : ∀ n k, k ≤ 65 → stir n k ≤ 66 ^ n
  | 0, 0, _ => Nat.le_refl _
  | 0, k + 1, _ => Nat.zero_le _
  | n + 1, 0, _ => Nat.zero_le _
  | n + 1, k + 1, h => by
    show stir n k + (k + 1) * stir n (k + 1) ≤ 66 ^ n * 66
    have h1 := stir_le66 n k (by omega)
    have h2 := stir_le66 n (k + 1) h
    have h3 : (k + 1) * stir n (k + 1) ≤ 65 * 66 ^ n := Nat.mul_le_mul h h2
    omega
theorem stir_lt (n k : Nat) (h : n ≤ 64) : stir n k < B9 ^ 65 := by
  by_cases hk : k ≤ 65
  · have h1 := stir_le66 n k hk
    have h2 : 66 ^ n < B9 ^ (n + 1) := by
      rw [Nat.pow_succ]
      have h3 : 66 ^ n ≤ B9 ^ n := Nat.pow_le_pow_left (by decide) n
      have h4 : 0 < B9 ^ n := Nat.pow_pos (by decide)
      have h5 : B9 ^ n * B9 = B9 ^ n * 1000000000 := rfl
      omega
    exact Nat.lt_of_le_of_lt h1 (upB h2 (by omega))
  · rw [stir_zero (by omega)]
    exact Nat.pow_pos (by decide)
/-- the row of the numbers of partitions while its parts grow from q to q + 1 -/
def pF (q d j : Nat) : Nat := if j < d then stir (q + 1 + j) (q + 1) else stir (q + j) q
theorem pF_one (q j : Nat) : stir (q + j) q = pF q 1 j := by
  unfold pF
  split
  · obtain rfl : j = 0 := by omega
    rw [Nat.add_zero, Nat.add_zero, stir_self, stir_self]
  · rfl
theorem pF_step (q f d j : Nat) (hd : d = f + 1) : (if j = d then pF q d d + (q + 1) * pF q d f else pF q d j) = pF q (d + 1) j := by
  subst hd
  unfold pF
  by_cases h : j = f + 1
  · subst h
    rw [if_pos rfl, if_neg (by omega), if_pos (by omega), if_pos (by omega)]
    show _ = stir (q + 1 + f) q + (q + 1) * stir (q + 1 + f) (q + 1)
    rw [show q + (f + 1) = q + 1 + f by omega]
  · rw [if_neg h]
    by_cases h2 : j < f + 1
    · rw [if_pos h2, if_pos (by omega)]
    · rw [if_neg h2, if_neg (by omega)]
theorem pF_end (q m j : Nat) (h : j < m) : pF q m j = stir (q + 1 + j) (q + 1) := if_pos h
theorem pF_lt (q d j : Nat) (h : q + 1 + j ≤ 64) : pF q d j < B9 ^ 65 := by
  unfold pF
  split
  · exact stir_lt _ _ (by omega)
  · exact stir_lt _ _ (by omega)
theorem pF_sum (q f d : Nat) (hd : d = f + 1) (h : q + 1 + f ≤ 64) : pF q d d + (q + 1) * pF q d f < B9 ^ 65 := by
  have e := pF_step q f d d hd
  rw [if_pos rfl] at e
  rw [e]
  unfold pF
  rw [if_pos (by omega)]
  by_cases h2 : q + 1 + d ≤ 64
  · exact stir_lt _ _ h2
  · have e2 : stir (q + 1 + d) (q + 1) = stir (q + d) q + (q + 1) * stir (q + d) (q + 1) := by
      rw [show q + 1 + d = (q + d) + 1 by omega]; rfl
    have h1 := stir_le66 (q + 1 + d) (q + 1) (by omega)
    have h3 : q + 1 + d = 65 := by omega
    rw [h3] at h1 ⊢
    exact Nat.lt_of_le_of_lt h1 (by decide +kernel)

set_option maxHeartbeats 1000000 in
theorem part_zero (n : Nat) (k : Int) (hk : ¬(0 ≤ k ∧ k ≤ n)) (w : World) : Calls Tryd.prog 46 #[.int .i64 (n : Int), .int .i64 k] w (GivesN 0 w) := by
  have HJ := hide hk
  clear hk
  go_enter Tryd.func46, Tryd.ntmps46
  go_wp2_with fail
  generalize hW : w.alloc _ = W
  obtain ⟨hbW, bR, -⟩ := boxesA1 hW
  clear hW
  refine (within_any k n _ false ⟨fun h => absurd h HJ.out, fun h => by cases h⟩).mono ?_
  rintro e w1 ⟨rfl, rfl⟩
  go_wp2_with fail
  refine (of_zero _).mono fun e w3 h => ?_
  obtain ⟨A2, n2, c2, rfl, h2, hb2⟩ := GivesN.cn h
  clear h
  have hbA := hbW.trans (hb2.mono hbW.size)
  have bR := bR.below' hb2
  have g0 := bR.cell
  have f0 := bR.frozen 0
  have h3 := h2.far (i := 0) bR noInt1 (.slice A2 n2 c2)
  have b3 := bR.put (.slice A2 n2 c2)
  go_wp2_with fail
  have k0 := b3.cell
  refine bodyPost_ret (v := .agg #[.slice A2 n2 c2]) (by simp [results, Tryd.results46, go_sem, k0]) rfl ?_
  exact ⟨A2, n2, c2, rfl, h3.1, h3.2.1, h3.2.2, hbA.setCell (Nat.le_refl _) _⟩

set_option maxHeartbeats 4000000 in
theorem part_ok (n k m : Nat) (hn : n ≤ 64) (hm : n = k + m) (w : World) (T : Nat) (hT : stir n k = T) : Calls Tryd.prog 46 #[.int .i64 (n : Int), .int .i64 (k : Int)] w (GivesN T w) := by
  have HT := hide (show stir (k + m) k = T from by rw [← hm]; exact hT)
  have hnk : (n : Int) - (k : Int) = (m : Int) := by omega
  have hkm : k + m ≤ 64 := by omega
  have HN := hide (show k ≤ n from by omega)
  clear hT hm
  go_enter Tryd.func46, Tryd.ntmps46
  go_wp2_with fail
  generalize hW : w.alloc _ = W
  obtain ⟨hbW, bR, -⟩ := boxesA1 hW
  clear hW
  refine (within_any k n _ true ⟨fun _ => rfl, fun _ => ⟨by omega, by have := HN.out; omega⟩⟩).mono ?_
  rintro e w1 ⟨rfl, rfl⟩
  go_wp2_with (at_make; refine wpList_make_nat _ rfl _ _ 52 rfl 24 Tryd.underlying52 nat_info .i64 .i64 _ _ (m + 1) rfl rfl (by go_num) (by go_num) (by omega) (by omega) ?_; intro g w2 hg hf hb2)
  have hbA := hbW.trans (hb2.mono hbW.size)
  have HNE := hide (show w.heap.size ≠ g ∧ w.heap.size ≤ g from by have := bR.lt; omega)
  have bR := bR.below' hb2
  clear hb2 hbW hg
  go_wp2_with fail
  refine (of_one _).mono fun e w3 h => ?_
  obtain ⟨A1, n1, c1, rfl, h1, hb3⟩ := GivesN.cn h
  clear h
  have hbA := hbA.trans (hb3.mono hbA.size)
  have bR := bR.below' hb3
  have hf := hf.below hb3
  clear hb3
  obtain ⟨S0, m0, d0, q0, -⟩ := hf.at_ (j := 0) (by omega)
  have f0 := hf.frozen 0
  go_wp2_with fail
  have bR := bR.far (p := ⟨g, 0, none⟩) HNE.out.1 (.slice A1 n1 c1)
  have hbA : Below w.heap.size w (w3.setCell ⟨g, 0, none⟩ (.slice A1 n1 c1)) := hbA.setCell HNE.out.2 _
  have hf := (hf.put h1 0).cast (f' := fun j => stir (0 + j) 0) (fun j _ => by
    rcases j with _ | j
    · rfl
    · rw [Nat.zero_add]; rfl)
  clear h1 q0 f0
  generalize w3.setCell (⟨g, 0, none⟩ : Addr) (.slice A1 n1 c1) = w4 at *
  go_loopw [6, 7, 8] (fun t6 _ _ wr => ∃ q, q ≤ k ∧ t6 = .int .i64 ((q + 1 : Nat) : Int) ∧ Below w.heap.size w wr ∧ Box wr w.heap.size #[.slice none 0 0] 25 ∧ FB wr g (m + 1) (fun j => stir (q + j) q)) (fun t6 _ _ _ => k + 1 - (intOf t6).toNat)
  case atStart => exact ⟨0, by omega, rfl, hbA, bR, hf⟩
  case round =>
    obtain ⟨q, hq, rfl, hbA, bR, hf⟩ := hrel
    by_cases hlt : q < k
    · have d1 : decide (((q + 1 : Nat) : Int) ≤ (k : Int)) = true := by simp; omega
      obtain ⟨p, hp⟩ : ∃ p, q + 1 = p := ⟨_, rfl⟩
      have hp1 : p ≤ 65 := by omega
      have hpk : p ≤ k := by omega
      have hw : IntKind.u64.wrap (p : Int) = (p : Int) := IntWalk.u64_in _ (by omega)
      rw [hp] at d1
      rw [hp]
      have HP := hide hp
      clear hp
      go_wp2_with fail
      refine (of_any p _ (by omega)).mono ?_
      rintro e w5 ⟨A5, n5, c5, rfl, r5, l5, m5, hb5⟩
      have x5 : Cn w5 A5 n5 c5 p := ⟨r5, l5, m5⟩
      have hbA := hbA.trans (hb5.mono hbA.size)
      have bR := bR.below' hb5
      have hf := hf.below hb5
      clear hb5 r5 l5 m5
      go_wp2_with fail
      generalize hW : w5.alloc _ = W5
      obtain ⟨hb, bC, -⟩ := boxesA1 hW
      clear hW
      have HGC := hide (show w.heap.size ≠ w5.heap.size ∧ w5.heap.size ≠ g from ⟨Nat.ne_of_lt bR.lt, (Nat.ne_of_lt hf.lt).symm⟩)
      have hbA := hbA.trans (hb.mono hbA.size)
      have bR := bR.below' hb
      have hf := hf.below hb
      have x5 := x5.below hb
      have hf := hf.cast (fun j _ => pF_one q j)
      clear hb
      generalize w5.heap.size = gc at *
      go_loopw [8] (fun t8 wr => ∃ d, 1 ≤ d ∧ d ≤ m + 1 ∧ t8 = .int .i64 (d : Int) ∧ Below w.heap.size w wr ∧ Box wr w.heap.size #[.slice none 0 0] 25 ∧ Box wr gc #[.slice A5 n5 c5] 25 ∧ Cn wr A5 n5 c5 p ∧ FB wr g (m + 1) (pF q d)) (fun t8 _ => m + 2 - (intOf t8).toNat)
      case atStart => exact ⟨1, by omega, by omega, rfl, hbA, bR, bC, x5, hf⟩
      case round =>
        obtain ⟨d, hd0, hd, rfl, hbA, bR, bC, x5, hf⟩ := hrel
        by_cases hdm : d ≤ m
        · have d2 : decide ((d : Int) ≤ (m : Int)) = true := by simp; omega
          obtain ⟨f, hdf⟩ : ∃ f, d = f + 1 := ⟨d - 1, by omega⟩
          have he : (d : Int) - 1 = (f : Int) := by omega
          have HDF := hide hdf
          have HB1 := hide (show pF q d d < B9 ^ 100 from upB (pF_lt q d d (by omega)) (by omega))
          have HB2 := hide (show pF q d f < B9 ^ 100 from upB (pF_lt q d f (by omega)) (by omega))
          have HS := hide (pF_sum q f d hdf (by omega))
          have HB3 := hide (show p * pF q d f < B9 ^ 100 from by
            have := HS.out
            rw [HP.out] at this
            exact upB (Nat.lt_of_le_of_lt (Nat.le_add_left _ _) this) (by omega))
          have HPB := hide (show p < B9 ^ 100 from Nat.lt_of_le_of_lt hp1 (Nat.lt_of_lt_of_le (show 65 < B9 ^ 1 by decide) (Nat.pow_le_pow_right (by decide) (by omega))))
          have hwf : IntKind.i64.wrap (f : Int) = (f : Int) := IntWalk.i64_in _ (by omega)
          have hi1 : (0 : Int) ≤ (d : Int) := by omega
          have hi2 : (d : Int) < (m : Int) + 1 := by omega
          have hi3 : (0 : Int) ≤ (f : Int) := by omega
          have hi4 : (f : Int) < (m : Int) + 1 := by omega
          have hn1 : d < m + 1 := by omega
          have hn2 : f < m + 1 := by omega
          obtain ⟨S1, m1, d1, k1, x1⟩ := hf.at_ hn1
          obtain ⟨S2, m2, d2, k2, x2⟩ := hf.at_ hn2
          have KF : Hid (∀ w', Below wr.heap.size wr w' → w'.cell? ⟨g, d, none⟩ = some (.slice S1 m1 d1) ∧ w'.cell? ⟨g, f, none⟩ = some (.slice S2 m2 d2) ∧ w'.cell? ⟨gc, 0, none⟩ = some (.slice A5 n5 c5) ∧ w'.frozen? ⟨g, d, none⟩ = false) := fun w' h =>
            ⟨(h.cell (p := ⟨g, d, none⟩) hf.lt).trans k1, (h.cell (p := ⟨g, f, none⟩) hf.lt).trans k2, (bC.below' h).cell, (hf.below h).frozen d⟩
          clear k1 k2 hdf
          generalize hz : pF q d d + p * pF q d f = z
          have HZ := hide hz
          clear hz
          go_wp2_with fail
          have P0 : Below wr.heap.size wr wr.drew := (Below.refl _ _).drew
          obtain ⟨k0, k1, k2, -⟩ := KF.out _ P0
          go_region_law (first
            | (go_simp; go_at_call 35; (with_reducible refine (mul_n (L := 100) ((x5.below P0).nt HPB.out) ((x2.below P0).nt HB2.out) (by omega) _ rfl).mono ?_); rintro e w6 ⟨A6, n6, c6, rfl, r6, l6, m6, hb6⟩; have h6 : Cn w6 A6 n6 c6 (p * pF q d f) := ⟨r6, l6, m6⟩; have E6 := P0.trans (hb6.mono P0.size); obtain ⟨y0, y1, y2, -⟩ := KF.out _ E6)
            | (go_simp; go_at_call 33; (with_reducible refine (add_n (L := 100) ((x1.below E6).nt HB1.out) (h6.nt HB3.out) (by omega) z HZ.out).mono ?_); rintro e w7 ⟨A7, n7, c7, rfl, r7, l7, m7, hb7⟩; have h7 : Cn w7 A7 n7 c7 z := ⟨r7, l7, m7⟩; have E7 := E6.trans (hb7.mono E6.size); obtain ⟨z0, z1, z2, e0⟩ := KF.out _ E7))
          all_goals
            have bR := bR.below' E7
            have bC := bC.below' E7
            have x5 := x5.below E7
            have hbA := hbA.trans (E7.mono hbA.size)
            have hf := hf.below E7
            have x5 := hf.cn x5 d (.slice A7 n7 c7)
            have bR := bR.far (p := ⟨g, d, none⟩) HNE.out.1 (.slice A7 n7 c7)
            have bC := bC.far (p := ⟨g, d, none⟩) HGC.out.2 (.slice A7 n7 c7)
            have hf := (hf.put h7 d).cast (f' := pF q (d + 1)) (fun j _ => by rw [← HZ.out, ← HP.out]; exact pF_step q f d j HDF.out)
            have hbA : Below w.heap.size w (w7.setCell ⟨g, d, none⟩ (.slice A7 n7 c7)) := hbA.setCell HNE.out.2 _
            clear E6 E7 P0 KF h6 h7 k0 k1 k2 y0 y1 y2 z0 z1 z2 e0 r6 l6 m6 r7 l7 m7 hb6 hb7 x1 x2
            generalize w7.setCell (⟨g, d, none⟩ : Addr) (.slice A7 n7 c7) = w8 at *
            go_wp2
            go_roundw
            case measure => simp [intOf]; omega
            case rel => exact ⟨d + 1, by omega, by omega, by go_num, hbA, bR, bC, x5, hf⟩
        · have d2 : decide ((d : Int) ≤ (m : Int)) = false := by simp; omega
          have HF := hide (hf.cast (f' := fun j => stir (p + j) p) (fun j hj => by rw [← HP.out]; exact pF_end q d j (by omega)))
          clear hf
          go_wp2_with fail
          go_roundw
          case measure => have := HP.out; simp [intOf]; omega
          case rel => exact ⟨p, by have := HP.out; omega, by go_num, hbA, bR, HF.out⟩
    · obtain rfl : q = k := by omega
      have d1 : decide (((q + 1 : Nat) : Int) ≤ (q : Int)) = false := by simp; omega
      have hi1 : (0 : Int) ≤ (m : Int) := by omega
      have hi2 : (m : Int) < (m : Int) + 1 := by omega
      have hn1 : m < m + 1 := by omega
      obtain ⟨S1, m1, d1, k1, x1⟩ := hf.at_ hn1
      rw [HT.out] at x1
      have g0 := bR.cell
      have f0 := bR.frozen 0
      have h3 := x1.far (i := 0) bR noInt1 (.slice S1 m1 d1)
      have b3 := bR.put (.slice S1 m1 d1)
      go_wp2_with fail
      have k0 := b3.cell
      refine bodyPost_ret (v := .agg #[.slice S1 m1 d1]) (by simp [results, Tryd.results46, go_sem, k0]) rfl ?_
      exact ⟨S1, m1, d1, rfl, h3.1, h3.2.1, h3.2.2, hbA.setCell (Nat.le_refl _) _⟩
/-- the number of partitions, for any int -/
def stI (n : Nat) (k : Int) : Nat := if 0 ≤ k ∧ k ≤ n then stir n k.toNat else 0
theorem stI_nat (n k : Nat) : stI n (k : Int) = stir n k := by
  unfold stI
  split
  · rw [Int.toNat_natCast]
  · rw [stir_zero (by omega)]
theorem part_any (n : Nat) (k : Int) (hn : n ≤ 64) (w : World) (T : Nat) (hT : stI n k = T) : Calls Tryd.prog 46 #[.int .i64 (n : Int), .int .i64 k] w (GivesN T w) := by
  by_cases hk : 0 ≤ k ∧ k ≤ n
  · obtain ⟨j, rfl⟩ : ∃ j : Nat, k = (j : Int) := ⟨k.toNat, by omega⟩
    exact part_ok n j (n - j) hn (by omega) w T (by rw [← hT, stI_nat])
  · have hT0 : T = 0 := by rw [← hT]; unfold stI; rw [if_neg hk]
    subst hT0
    exact part_zero n k hk w
theorem cstir_err (i k : Int) (w : World) (h : ¬(0 ≤ i ∧ i ≤ 64)) : Calls Tryd.prog 20 #[.int .i64 i, .int .i64 k] w (GivesNE 0 2 w) := by
  have H := hide h
  clear h
  go_enter Tryd.func20, Tryd.ntmps20
  go_wp2_with fail
  generalize hW : w.alloc _ = W
  obtain ⟨hbW, bR, -⟩ := boxesA1 hW
  clear hW
  refine (within_any i 64 _ false ⟨fun h => absurd h H.out, fun h => by cases h⟩).mono ?_
  rintro e w1 ⟨rfl, rfl⟩
  have g0 := bR.cell
  have f0 := bR.frozen 0
  have b3 := bR.put (.slice none 0 0)
  go_wp2_with fail
  have k0 := b3.cell
  refine bodyPost_ret (v := .tuple #[.agg #[.slice none 0 0], .int .i64 2]) (by simp [results, Tryd.results20, go_sem, k0]) rfl ?_
  exact ⟨none, 0, 0, rfl, RL.nil_, by omega, by simp [maxLen], hbW.setCell (Nat.le_refl _) _⟩
theorem cstir_ok (n : Nat) (k : Int) (hn : n ≤ 64) (w : World) (T : Nat) (hT : stI n k = T) : Calls Tryd.prog 20 #[.int .i64 (n : Int), .int .i64 k] w (GivesNE T 0 w) := by
  have HT := hide hT
  clear hT
  go_enter Tryd.func20, Tryd.ntmps20
  go_wp2_with fail
  generalize hW : w.alloc _ = W
  obtain ⟨hbW, bR, -⟩ := boxesA1 hW
  clear hW
  refine (within_any n 64 _ true ⟨fun _ => rfl, fun _ => ⟨by omega, by omega⟩⟩).mono ?_
  rintro e w1 ⟨rfl, rfl⟩
  go_wp2_with fail
  refine (part_any n k hn _ T HT.out).mono fun e w2 h => ?_
  obtain ⟨A2, n2, c2, rfl, h2, hb2⟩ := GivesN.cn h
  clear h
  have hbA := hbW.trans (hb2.mono hbW.size)
  have bR := bR.below' hb2
  have g0 := bR.cell
  have f0 := bR.frozen 0
  have h3 := h2.far (i := 0) bR noInt1 (.slice A2 n2 c2)
  have b3 := bR.put (.slice A2 n2 c2)
  go_wp2_with fail
  have k0 := b3.cell
  refine bodyPost_ret (v := .tuple #[.agg #[.slice A2 n2 c2], .int .i64 0]) (by simp [results, Tryd.results20, go_sem, k0]) rfl ?_
  exact ⟨A2, n2, c2, rfl, h3.1, h3.2.1, h3.2.2, hbA.setCell (Nat.le_refl _) _⟩
theorem csur_err (i j : Int) (w : World) (h : ¬((0 ≤ i ∧ i ≤ 64) ∧ 0 ≤ j ∧ j ≤ 64)) : Calls Tryd.prog 22 #[.int .i64 i, .int .i64 j] w (GivesNE 0 2 w) := by
  have H := hide h
  clear h
  go_enter Tryd.func22, Tryd.ntmps22
  go_wp2_with fail
  generalize hW : w.alloc _ = W
  obtain ⟨hbW, bR, -⟩ := boxesA1 hW
  clear hW
  have g0 := bR.cell
  have f0 := bR.frozen 0
  have b3 := bR.put (.slice none 0 0)
  by_cases hi : 0 ≤ i ∧ i ≤ 64
  · have H2 := hide (show ¬(0 ≤ j ∧ j ≤ 64) from fun h => H.out ⟨hi, h⟩)
    have H1 := hide hi
    clear hi
    refine (within_any i 64 _ true ⟨fun _ => rfl, fun _ => H1.out⟩).mono ?_
    rintro e w1 ⟨rfl, rfl⟩
    go_wp2_with fail
    refine (within_any j 64 _ false ⟨fun h => absurd h H2.out, fun h => by cases h⟩).mono ?_
    rintro e w2 ⟨rfl, rfl⟩
    go_wp2_with fail
    have k0 := b3.cell
    refine bodyPost_ret (v := .tuple #[.agg #[.slice none 0 0], .int .i64 2]) (by simp [results, Tryd.results22, go_sem, k0]) rfl ?_
    exact ⟨none, 0, 0, rfl, RL.nil_, by omega, by simp [maxLen], hbW.setCell (Nat.le_refl _) _⟩
  · have H1 := hide hi
    clear hi
    refine (within_any i 64 _ false ⟨fun h => absurd h H1.out, fun h => by cases h⟩).mono ?_
    rintro e w1 ⟨rfl, rfl⟩
    go_wp2_with fail
    have k0 := b3.cell
    refine bodyPost_ret (v := .tuple #[.agg #[.slice none 0 0], .int .i64 2]) (by simp [results, Tryd.results22, go_sem, k0]) rfl ?_
    exact ⟨none, 0, 0, rfl, RL.nil_, by omega, by simp [maxLen], hbW.setCell (Nat.le_refl _) _⟩
theorem csur_ok (n k : Nat) (hn : n ≤ 64) (hk : k ≤ 64) (w : World) (T : Nat) (hT : prodf 1 k * stir n k = T) : Calls Tryd.prog 22 #[.int .i64 (n : Int), .int .i64 (k : Int)] w (GivesNE T 0 w) := by
  have HT := hide hT
  obtain ⟨M, hM⟩ : ∃ M, M = 402 := ⟨_, rfl⟩
  have HA := hide (show prodf 1 k < B9 ^ M from upB (prodf_lt 1 k (by omega)) (by omega))
  have HB := hide (show stir n k < B9 ^ M from upB (stir_lt n k hn) (by omega))
  have HS := hide (stI_nat n k)
  clear hT
  go_enter Tryd.func22, Tryd.ntmps22
  go_wp2_with fail
  generalize hW : w.alloc _ = W
  obtain ⟨hbW, bR, -⟩ := boxesA1 hW
  clear hW
  refine (within_any n 64 _ true ⟨fun _ => rfl, fun _ => ⟨by omega, by omega⟩⟩).mono ?_
  rintro e w1 ⟨rfl, rfl⟩
  go_wp2_with fail
  refine (within_any k 64 _ true ⟨fun _ => rfl, fun _ => ⟨by omega, by omega⟩⟩).mono ?_
  rintro e w2 ⟨rfl, rfl⟩
  go_wp2_with fail
  refine (cprod_any 1 k (by omega) (by omega) k (by omega) _ _ rfl).mono fun e w3 h => ?_
  obtain ⟨A3, n3, c3, rfl, h3, hb3⟩ := GivesN.cn h
  clear h
  have hbA := hbW.trans (hb3.mono hbW.size)
  have bR := bR.below' hb3
  clear hb3 hbW
  go_wp2_with fail
  refine (part_any n k hn _ _ HS.out).mono fun e w4 h => ?_
  obtain ⟨A4, n4, c4, rfl, h4, hb4⟩ := GivesN.cn h
  clear h
  have hbA := hbA.trans (hb4.mono hbA.size)
  have bR := bR.below' hb4
  have h3 := h3.below hb4
  clear hb4
  go_wp2_with fail
  refine (mul_n (L := M) (h3.nt HA.out) (h4.nt HB.out) (by omega) T HT.out).mono fun e w5 h => ?_
  obtain ⟨A2, n2, c2, rfl, h2, hb2⟩ := GivesN.cn h
  clear h
  have hbA := hbA.trans (hb2.mono hbA.size)
  have bR := bR.below' hb2
  clear hb2 h3 h4
  have g0 := bR.cell
  have f0 := bR.frozen 0
  have h3 := h2.far (i := 0) bR noInt1 (.slice A2 n2 c2)
  have b3 := bR.put (.slice A2 n2 c2)
  go_wp2_with fail
  have k0 := b3.cell
  refine bodyPost_ret (v := .tuple #[.agg #[.slice A2 n2 c2], .int .i64 0]) (by simp [results, Tryd.results22, go_sem, k0]) rfl ?_
  exact ⟨A2, n2, c2, rfl, h3.1, h3.2.1, h3.2.2, hbA.setCell (Nat.le_refl _) _⟩
end Go.Proofs.YtjmiaodjapclbaaDoor
