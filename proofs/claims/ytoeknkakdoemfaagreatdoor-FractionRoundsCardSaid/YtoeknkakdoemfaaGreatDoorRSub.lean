/- The contract of the reference's Sub. -/
import Derived.Test.YtoeknkakdoemfaaGreatDoorRCmp
import Derived.Test.YtoeknkakdoemfaaGreatDoorSub
namespace Go.Proofs.YtoeknkakdoemfaaGreatDoor
open Go Go.RowKit

theorem rsub_step {out xs : List Nat} {k C C' x y0 y1 z Y : Nat} (hk : out.length = k) (hx : xs[k]? = some x) (hz : z + (C + Y) = x + B9 * C') (hy : y1 = y0 + B9 ^ k * Y)
    (h : val B9 out + y0 = val B9 (xs.take k) + B9 ^ k * C) : val B9 (out ++ [z]) + y1 = val B9 (xs.take (k + 1)) + B9 ^ (k + 1) * C' := by
  rw [val_snoc, hk, val_take_succ B9 hx, hy, Nat.pow_succ]
  have e : B9 ^ k * (z + (C + Y)) = B9 ^ k * (x + B9 * C') := by rw [hz]
  rw [Nat.mul_add, Nat.mul_add, Nat.mul_add] at e
  rw [Nat.mul_assoc]
  omega
theorem rsub_end {out : List Nat} {k u v C : Nat} (hk : out.length = k) (ho : ∀ x ∈ out, x < B9) (h : val B9 out + v = u + B9 ^ k * C) (huv : v ≤ u) : val B9 out = u - v := by
  have h1 : val B9 out < B9 ^ k := by rw [← hk]; exact val_lt B9 (by decide) out ho
  have hC : C = 0 := by
    rcases Nat.eq_zero_or_pos C with h0 | h0
    · exact h0
    · exfalso
      have : B9 ^ k * 1 ≤ B9 ^ k * C := Nat.mul_le_mul_left _ h0
      omega
  subst hC
  omega

theorem val_take_none' {xs : List Nat} {k : Nat} (h : xs.length ≤ k) : val B9 (xs.take (k + 1)) = val B9 (xs.take k) + B9 ^ k * 0 := by
  rw [Nat.mul_zero, Nat.add_zero]; exact val_take_all B9 h (by omega)
set_option maxHeartbeats 2000000 in
theorem rsub_err (A : Option Addr) (n c : Nat) (xs : List Nat) (A' : Option Addr) (m d : Nat) (ys : List Nat) (w : World) (hr : RL w .u32 A n xs) (hn : n ≤ c) (hc : c ≤ maxLen) (hN : n ≤ 100000) (hx : ∀ x ∈ xs, x < 4294967296)
    (hr' : RL w .u32 A' m ys) (hm : m ≤ d) (hd : d ≤ maxLen) (hM : m ≤ 100000) (hy : ∀ x ∈ ys, x < 4294967296) (u v : Nat) (hu : val B9 xs = u) (hv : val B9 ys = v) (huv : u < v) :
    Calls Tryz.prog 88 #[.agg #[.slice A n c], .agg #[.slice A' m d]] w (GivesNE 0 2 w) := by
  have HX := hide hx
  have HY := hide hy
  have HU := hide hu
  have HV := hide hv
  have HL := hide hr.len
  have HL' := hide hr'.len
  clear hx hy hu hv
  have HUV := hide huv
  obtain ⟨r, hr0, hR⟩ : ∃ r, decide (r < (0 : Int)) = true ∧ cmpI u v = r := ⟨_, by rw [cmpI_lt huv]; rfl, rfl⟩
  have HR := hide hR
  clear huv hR
  go_enter Tryz.func88, Tryz.ntmps88
  go_wp2_with fail
  generalize hW : ((w.alloc _).alloc _).alloc _ = W
  obtain ⟨hbW, b0, b1, b2, hz⟩ := boxes3 hW
  clear hW
  refine (rcmp_any A n c xs A' m d ys _ (hr.below hbW) hn hc (by omega) HX.out (hr'.below hbW) hm hd (by omega) HY.out u v HU.out HV.out r HR.out).mono ?_
  rintro e w0 ⟨rfl, hx⟩
  have b0 := b0.below' hx
  have b1 := b1.below' hx
  have b2 := b2.below' hx
  have hbW := hbW.trans (hx.mono hbW.size)
  have k0 := b0.cell
  have k1 := b1.cell
  have k2 := b2.cell
  have f2 := b2.frozen 0
  clear hx hz
  go_wp2
  refine bodyPost_ret (v := .tuple #[.agg #[.slice none 0 0], .int .i64 2]) (by simp [results, Tryz.results88, go_sem, k2]) rfl ?_
  exact ⟨none, 0, 0, rfl, RL.nil_, by omega, by simp [maxLen], hbW.setCell (by simp; omega) _⟩

set_option maxHeartbeats 2000000 in
theorem rsub_ok (A : Option Addr) (n c : Nat) (xs : List Nat) (A' : Option Addr) (m d : Nat) (ys : List Nat) (w : World) (hr : RL w .u32 A n xs) (hn : n ≤ c) (hc : c ≤ maxLen) (hN : n ≤ 100000) (hx : ∀ x ∈ xs, x < 4294967296)
    (hr' : RL w .u32 A' m ys) (hm : m ≤ d) (hd : d ≤ maxLen) (hM : m ≤ 100000) (hy : ∀ x ∈ ys, x < 4294967296) (u v : Nat) (hu : val B9 xs = u) (hv : val B9 ys = v) (huv : v ≤ u) (T : Nat) (hT : u - v = T) :
    Calls Tryz.prog 88 #[.agg #[.slice A n c], .agg #[.slice A' m d]] w (GivesNE T 0 w) := by
  have HX := hide hx
  have HY := hide hy
  have HU := hide hu
  have HV := hide hv
  have HL := hide hr.len
  have HL' := hide hr'.len
  clear hx hy hu hv
  have HUV := hide huv
  have HT := hide hT
  clear hT
  obtain ⟨r, hr0, hR⟩ : ∃ r, decide (r < (0 : Int)) = false ∧ cmpI u v = r := ⟨_, by unfold cmpI; split <;> simp; omega; split <;> simp, rfl⟩
  have HR := hide hR
  clear huv hR
  go_enter Tryz.func88, Tryz.ntmps88
  go_wp2_with fail
  generalize hW : ((w.alloc _).alloc _).alloc _ = W
  obtain ⟨hbW, b0, b1, b2, hz⟩ := boxes3 hW
  clear hW
  refine (rcmp_any A n c xs A' m d ys _ (hr.below hbW) hn hc (by omega) HX.out (hr'.below hbW) hm hd (by omega) HY.out u v HU.out HV.out r HR.out).mono ?_
  rintro e w0 ⟨rfl, hx⟩
  have b0 := b0.below' hx
  have b1 := b1.below' hx
  have b2 := b2.below' hx
  have hbW := hbW.trans (hx.mono hbW.size)
  have k0 := b0.cell
  have k1 := b1.cell
  have k2 := b2.cell
  have f2 := b2.frozen 0
  clear hx hz
  have hr := hr.below hbW
  have hr' := hr'.below hbW
  go_wp2_with fail
  refine (rnorm_any A n c xs _ hr hn hc (by omega) HX.out u HU.out).mono ?_
  rintro e w1 ⟨A1, n1, c1, rfl, r1, hn1, hc1, hb1⟩
  have hl1 : n1 ≤ n + 1 := dig_len_u32 (n := n1) (m := n) (xs := xs) (by rw [HU.out]; exact r1.len) HL.out HX.out
  have b0 := b0.below' hb1
  have b1 := b1.below' hb1
  have b2 := b2.below' hb1
  have hrB := hr'.below hb1
  have hbA := hbW.trans (hb1.mono hbW.size)
  clear k0 k1 k2 f2
  have f0 := b0.frozen 0
  have k0 := b0.cell
  have k1 := b1.cell
  clear hr hr' hb1 hbW
  go_wp2_with fail
  generalize hW2 : w1.setCell _ _ = w2
  have r2 : RL w2 .u32 A1 n1 (dig B9 u) := by rw [← hW2]; exact r1.put b0 _
  have rB2 : RL w2 .u32 A' m ys := by rw [← hW2]; exact hrB.put b0 _
  have c0 : Box w2 w.heap.size #[.slice A1 n1 c1] 24 := by rw [← hW2]; exact b0.put _
  have e1 := b1.far (p := ⟨w.heap.size, 0, none⟩) (by simp) (.slice A1 n1 c1)
  rw [hW2] at e1
  have e2 := b2.far (p := ⟨w.heap.size, 0, none⟩) (by simp) (.slice A1 n1 c1)
  rw [hW2] at e2
  have hb2 : Below w.heap.size w w2 := by rw [← hW2]; exact hbA.setCell (by simp) _
  clear hW2 r1 hrB b0 b1 hbA f0 k0 k1
  refine (rnorm_any A' m d ys _ rB2 hm hd (by omega) HY.out v HV.out).mono ?_
  rintro e w3 ⟨A3, n3, c3, rfl, r3, hn3, hc3, hb3⟩
  have hl3 : n3 ≤ m + 1 := dig_len_u32 (n := n3) (m := m) (xs := ys) (by rw [HV.out]; exact r3.len) HL'.out HY.out
  have b0 := c0.below' hb3
  have b1 := e1.below' hb3
  have b2 := e2.below' hb3
  have r2 := r2.below hb3
  have hbA := hb2.trans (hb3.mono hb2.size)
  have r4 : RL (w3.setCell ⟨w.heap.size + 1, 0, none⟩ (.slice A3 n3 c3)) .u32 A1 n1 (dig B9 u) := r2.put b1 _
  have r5 : RL (w3.setCell ⟨w.heap.size + 1, 0, none⟩ (.slice A3 n3 c3)) .u32 A3 n3 (dig B9 v) := r3.put b1 _
  have d0 : Box (w3.setCell ⟨w.heap.size + 1, 0, none⟩ (.slice A3 n3 c3)) w.heap.size #[.slice A1 n1 c1] 24 := b0.far (by simp) _
  have d1 : Box (w3.setCell ⟨w.heap.size + 1, 0, none⟩ (.slice A3 n3 c3)) (w.heap.size + 1) #[.slice A3 n3 c3] 24 := b1.put _
  have d2 := b2.far (p := ⟨w.heap.size + 1, 0, none⟩) (by simp) (.slice A3 n3 c3)
  have hb4 : Below w.heap.size w (w3.setCell ⟨w.heap.size + 1, 0, none⟩ (.slice A3 n3 c3)) := hbA.setCell (by simp) _
  have f1 := b1.frozen 0
  have g0 := b0.cell
  have g1 := b1.cell
  clear r2 r3 b0 b1 hbA c0 e1 rB2 hb2 hb3 b2 e2
  have k0 := d0.cell
  have k1 := d1.cell
  have HR4 := hide r4.len
  have HR5 := hide r5.len
  have hc1' : n1 ≤ maxLen := Nat.le_trans hn1 hc1
  have hc3' : n3 ≤ maxLen := Nat.le_trans hn3 hc3
  unfold maxLen at hc1' hc3'
  have hle : n3 ≤ n1 := by
    have := dig_mono B9 (by decide) HUV.out
    rw [HR4.out, HR5.out] at this
    exact this
  go_wp2_with fail
  generalize w3.setCell (⟨w.heap.size + 1, 0, none⟩ : Addr) (.slice A3 n3 c3) = W4 at *
  have lt0 := d0.lt
  have lt1 := d1.lt
  have lt2 := d2.lt
  clear f1 g0 g1 k0 k1
  go_loopw [6, 7, 8, 9] (fun s bo i _ wr => ∃ (k C c' : Nat) (A' : Option Addr) (out : List Nat), k ≤ n1 ∧ C ≤ 1 ∧ s = .slice A' k c' ∧ bo = .int .i64 (C : Int) ∧ i = .int .i64 (k : Int) ∧ Row wr W4.heap.size .u32 71 A' k c' out ∧ Below W4.heap.size W4 wr ∧
      val B9 out + val B9 ((dig B9 v).take k) = val B9 ((dig B9 u).take k) + B9 ^ k * C ∧ ∀ x ∈ out, x < B9) (fun _ _ i _ _ => n1 - (intOf i).toNat)
  case atStart => exact ⟨0, 0, 0, none, [], by omega, by omega, rfl, rfl, rfl, Row.nil_, Below.refl _ _, by simp [val], fun x hx => by simp at hx⟩
  case round =>
    obtain ⟨k, C, c', A', out, hk, hC, rfl, rfl, rfl, hrow, hbel, hval, hall⟩ := hrel
    have q0 := (d0.below hbel lt0).cell
    have q1 := (d1.below hbel lt1).cell
    have HK := hide hrow.len
    have HVL := hide hval
    have HA := hide hall
    have hbs := hbel.size
    have hkc := hrow.le.1
    have hcm := hrow.le.2
    have hra := r4.below hbel
    have hrb := r5.below hbel
    unfold maxLen at hcm
    clear hval hall
    by_cases ha : k < n1
    · obtain ⟨b, o, x, rfl, hx, hcell⟩ := hra.at_ ha
      have hxb : x < 1000000000 := dig_lt B9 (by decide) u x (List.mem_of_getElem? hx)
      by_cases hb : k < n3
      · obtain ⟨b', o', y, rfl, hy, hcell'⟩ := hrb.at_ hb
        have hyb : y < 1000000000 := dig_lt B9 (by decide) v y (List.mem_of_getElem? hy)
        by_cases hneg : x < C + y
        · have hd5 : decide ((x : Int) - (C : Int) - (y : Int) < 0) = true := by simp; omega
          have HZ := hide (show x + 1000000000 - C - y + (C + y) = x + B9 * 1 from by show _ = x + 1000000000 * 1; omega)
          have HS := hide (rsub_step HK.out hx HZ.out (val_take_succ B9 hy) HVL.out)
          have HA2 := hide (all_snoc (v := x + 1000000000 - C - y) HA.out (show x + 1000000000 - C - y < 1000000000 by omega))
          clear hx hy hra hrb
          go_wp2_with (at_builtin; refine wpList_append_rl _ rfl _ _ 22 rfl W4.heap.size 71 .u32 4 Tryz.underlying22 u32_info A' k c' out rfl (hrow.alloc _) (some ⟨wr.heap.size, 0, none⟩) 1 1 [x + 1000000000 - C - y] rfl (RL.one wr .u32 71 (by omega)) (by omega) (k + 1) rfl (by omega) (by simp; omega) ?_; intro A2 c2 w5 hrow1 hbel1 hsz1)
          go_roundw
          case rel => exact ⟨k + 1, 1, c2, A2, out ++ [x + 1000000000 - C - y], by omega, by omega, rfl, rfl, by go_num, hrow1, (hbel.alloc hbs _).trans hbel1, HS.out, HA2.out⟩
          case measure => simp [intOf]; omega
        · have hd5 : decide ((x : Int) - (C : Int) - (y : Int) < 0) = false := by simp; omega
          have HZ := hide (show x - C - y + (C + y) = x + B9 * 0 from by show _ = x + 1000000000 * 0; omega)
          have HS := hide (rsub_step HK.out hx HZ.out (val_take_succ B9 hy) HVL.out)
          have HA2 := hide (all_snoc (v := x - C - y) HA.out (show x - C - y < 1000000000 by omega))
          clear hx hy hra hrb
          go_wp2_with (at_builtin; refine wpList_append_rl _ rfl _ _ 22 rfl W4.heap.size 71 .u32 4 Tryz.underlying22 u32_info A' k c' out rfl (hrow.alloc _) (some ⟨wr.heap.size, 0, none⟩) 1 1 [x - C - y] rfl (RL.one wr .u32 71 (by omega)) (by omega) (k + 1) rfl (by omega) (by simp; omega) ?_; intro A2 c2 w5 hrow1 hbel1 hsz1)
          go_roundw
          case rel => exact ⟨k + 1, 0, c2, A2, out ++ [x - C - y], by omega, by omega, rfl, rfl, by go_num, hrow1, (hbel.alloc hbs _).trans hbel1, HS.out, HA2.out⟩
          case measure => simp [intOf]; omega
      · have hd3 : decide (k < n3) = false := by simp; omega
        by_cases hneg : x < C
        · have hd5 : decide ((x : Int) - (C : Int) < 0) = true := by simp; omega
          have HZ := hide (show x + 1000000000 - C + (C + 0) = x + B9 * 1 from by show _ = x + 1000000000 * 1; omega)
          have HS := hide (rsub_step HK.out hx HZ.out (val_take_none' (by rw [HR5.out]; omega)) HVL.out)
          have HA2 := hide (all_snoc (v := x + 1000000000 - C) HA.out (show x + 1000000000 - C < 1000000000 by omega))
          clear hx  hra hrb
          go_wp2_with (at_builtin; refine wpList_append_rl _ rfl _ _ 22 rfl W4.heap.size 71 .u32 4 Tryz.underlying22 u32_info A' k c' out rfl (hrow.alloc _) (some ⟨wr.heap.size, 0, none⟩) 1 1 [x + 1000000000 - C] rfl (RL.one wr .u32 71 (by omega)) (by omega) (k + 1) rfl (by omega) (by simp; omega) ?_; intro A2 c2 w5 hrow1 hbel1 hsz1)
          go_roundw
          case rel => exact ⟨k + 1, 1, c2, A2, out ++ [x + 1000000000 - C], by omega, by omega, rfl, rfl, by go_num, hrow1, (hbel.alloc hbs _).trans hbel1, HS.out, HA2.out⟩
          case measure => simp [intOf]; omega
        · have hd5 : decide ((x : Int) - (C : Int) < 0) = false := by simp; omega
          have HZ := hide (show x - C + (C + 0) = x + B9 * 0 from by show _ = x + 1000000000 * 0; omega)
          have HS := hide (rsub_step HK.out hx HZ.out (val_take_none' (by rw [HR5.out]; omega)) HVL.out)
          have HA2 := hide (all_snoc (v := x - C) HA.out (show x - C < 1000000000 by omega))
          clear hx  hra hrb
          go_wp2_with (at_builtin; refine wpList_append_rl _ rfl _ _ 22 rfl W4.heap.size 71 .u32 4 Tryz.underlying22 u32_info A' k c' out rfl (hrow.alloc _) (some ⟨wr.heap.size, 0, none⟩) 1 1 [x - C] rfl (RL.one wr .u32 71 (by omega)) (by omega) (k + 1) rfl (by omega) (by simp; omega) ?_; intro A2 c2 w5 hrow1 hbel1 hsz1)
          go_roundw
          case rel => exact ⟨k + 1, 0, c2, A2, out ++ [x - C], by omega, by omega, rfl, rfl, by go_num, hrow1, (hbel.alloc hbs _).trans hbel1, HS.out, HA2.out⟩
          case measure => simp [intOf]; omega
    · obtain rfl : k = n1 := by omega
      have HE := hide (show val B9 out = T from by
        have h3 := HVL.out
        rw [val_take_dig B9 (by decide) v k (by rw [HR5.out]; exact hle), val_take_dig B9 (by decide) u k (by rw [HR4.out]; exact Nat.le_refl _)] at h3
        rw [← HT.out]
        exact rsub_end HK.out HA.out h3 HUV.out)
      have HU32 := hide (show ∀ x ∈ out, x < 4294967296 from fun x hx => by have : x < 1000000000 := HA.out x hx; omega)
      have hbA := hb4.trans (hbel.mono hb4.size)
      have d2w := d2.below hbel lt2
      have hrl := hrow.rl
      clear hra hrb
      go_wp2_with fail
      refine (rnorm_any A' k c' out _ hrl hkc (by unfold maxLen; omega) (by omega) HU32.out T HE.out).mono ?_
      rintro e w6 ⟨A6, n6, c6, rfl, r6, hn6, hc6, hb6⟩
      have q2 := (d2w.below' hb6).cell
      have g2 := (d2w.below' hb6).frozen 0
      go_wp2
      refine bodyPost_ret (v := .tuple #[.agg #[.slice A6 n6 c6], .int .i64 0]) (by simp [results, Tryz.results88, go_sem, q2]) rfl ?_
      exact fin_structE hbA hb6 (by omega) d2w r6 hn6 hc6

section
variable (A : Option Addr) (n c : Nat) (xs : List Nat) (A' : Option Addr) (m d : Nat) (ys : List Nat) (w : World) (hr : RL w .u32 A n xs) (hn : n ≤ c) (hc : c ≤ maxLen) (hN : n ≤ 100000) (hx : ∀ x ∈ xs, x < 4294967296)
    (hr' : RL w .u32 A' m ys) (hm : m ≤ d) (hd : d ≤ maxLen) (hM : m ≤ 100000) (hy : ∀ x ∈ ys, x < 4294967296) (u v : Nat) (hu : val B9 xs = u) (hv : val B9 ys = v) (T : Nat) (r : Int) (hT : subU u v = T) (hR : subE u v = r)
include hr hn hc hN hx hr' hm hd hM hy hu hv hT hR
theorem rsub_g : Calls Tryz.prog 88 #[.agg #[.slice A n c], .agg #[.slice A' m d]] w (GivesNE T r w) := by
  by_cases h : u < v
  · rw [subE, if_pos h] at hR
    obtain rfl : T = 0 := by unfold subU at hT; omega
    subst hR
    exact rsub_err A n c xs A' m d ys w hr hn hc hN hx hr' hm hd hM hy u v hu hv h
  · rw [subE, if_neg h] at hR
    subst hR
    exact rsub_ok A n c xs A' m d ys w hr hn hc hN hx hr' hm hd hM hy u v hu hv (by omega) T hT
end
end Go.Proofs.YtoeknkakdoemfaaGreatDoor
