/- The contract of the reference's Add. -/
import Derived.Test.YtoeknkakdoemfaaGreatDoorRNorm
import Derived.Test.YtoeknkakdoemfaaGreatDoorBox
namespace Go.Proofs.YtoeknkakdoemfaaGreatDoor
open Go Go.RowKit

theorem radd_step {out xs ys : List Nat} {k : Nat} (s x y : Nat) (hk : out.length = k) (h : val B9 out = val B9 (xs.take k) + val B9 (ys.take k)) (hx : val B9 (xs.take (k + 1)) = val B9 (xs.take k) + B9 ^ k * x) (hy : val B9 (ys.take (k + 1)) = val B9 (ys.take k) + B9 ^ k * y) (e : s = x + y) :
    val B9 (out ++ [s]) = val B9 (xs.take (k + 1)) + val B9 (ys.take (k + 1)) := by
  subst e
  rw [val_snoc, hk, h, hx, hy, Nat.mul_add]; omega
theorem val_take_none {xs : List Nat} {k : Nat} (h : xs.length ≤ k) : val B9 (xs.take (k + 1)) = val B9 (xs.take k) + B9 ^ k * 0 := by
  rw [Nat.mul_zero, Nat.add_zero]; exact val_take_all B9 h (by omega)

set_option maxHeartbeats 2000000 in
theorem radd_any (A : Option Addr) (n c : Nat) (xs : List Nat) (A' : Option Addr) (m d : Nat) (ys : List Nat) (w : World) (hr : RL w .u32 A n xs) (hn : n ≤ c) (hc : c ≤ maxLen) (hN : n ≤ 100000) (hx : ∀ x ∈ xs, x < 4294967296)
    (hr' : RL w .u32 A' m ys) (hm : m ≤ d) (hd : d ≤ maxLen) (hM : m ≤ 100000) (hy : ∀ x ∈ ys, x < 4294967296) (u v : Nat) (hu : val B9 xs = u) (hv : val B9 ys = v) (T : Nat) (hT : u + v = T) :
    Calls Tryz.prog 87 #[.agg #[.slice A n c], .agg #[.slice A' m d]] w (GivesN T w) := by
  have HX := hide hx
  have HY := hide hy
  have HU := hide hu
  have HV := hide hv
  have HL := hide hr.len
  have HL' := hide hr'.len
  clear hx hy hu hv
  have HT := hide hT
  clear hT
  go_enter Tryz.func87, Tryz.ntmps87
  go_wp2_with fail
  generalize hW : ((w.alloc _).alloc _).alloc _ = W
  obtain ⟨hbW, b0, b1, b2, hz⟩ := boxes3 hW
  clear hW
  refine (rnorm_any A n c xs _ (hr.below hbW) hn hc (by omega) HX.out u HU.out).mono ?_
  rintro e w1 ⟨A1, n1, c1, rfl, r1, hn1, hc1, hb1⟩
  have hl1 : n1 ≤ n + 1 := dig_len_u32 (n := n1) (m := n) (xs := xs) (by rw [HU.out]; exact r1.len) HL.out HX.out
  have b0 := b0.below' hb1
  have b1 := b1.below' hb1
  have b2 := b2.below' hb1
  have hrB := hr'.below (hbW.trans (hb1.mono hbW.size))
  have hbA := hbW.trans (hb1.mono hbW.size)
  have f0 := b0.frozen 0
  have k0 := b0.cell
  have k1 := b1.cell
  clear hr hr' hb1 hbW
  go_wp2_with fail
  generalize hW2 : w1.setCell _ _ = w2
  have r2 : RL w2 .u32 A1 n1 (dig B9 u) := by rw [← hW2]; exact r1.put b0 _
  have rB2 : RL w2 .u32 A' m ys := by rw [← hW2]; exact hrB.put b0 _
  have c0 : Box w2 w.heap.size #[.slice A1 n1 c1] 24 := by rw [← hW2]; exact b0.put _
  have e1 := b1.far (p := ⟨w.heap.size, 0, none⟩) (by simp) (.slice A1 n1 c1)
  rw [hW2] at e1
  have e2 := b2.far (p := ⟨w.heap.size, 0, none⟩) (by simp) (.slice A1 n1 c1)
  rw [hW2] at e2
  have hb2 : Below w.heap.size w w2 := by rw [← hW2]; exact hbA.setCell (by simp) _
  clear hW2 r1 hrB b0 b1 hbA f0 k0 k1
  refine (rnorm_any A' m d ys _ rB2 hm hd (by omega) HY.out v HV.out).mono ?_
  rintro e w3 ⟨A3, n3, c3, rfl, r3, hn3, hc3, hb3⟩
  have hl3 : n3 ≤ m + 1 := dig_len_u32 (n := n3) (m := m) (xs := ys) (by rw [HV.out]; exact r3.len) HL'.out HY.out
  have b0 := c0.below' hb3
  have b1 := e1.below' hb3
  have b2 := e2.below' hb3
  have r2 := r2.below hb3
  have hbA := hb2.trans (hb3.mono hb2.size)
  have r4 : RL (w3.setCell ⟨w.heap.size + 1, 0, none⟩ (.slice A3 n3 c3)) .u32 A1 n1 (dig B9 u) := r2.put b1 _
  have r5 : RL (w3.setCell ⟨w.heap.size + 1, 0, none⟩ (.slice A3 n3 c3)) .u32 A3 n3 (dig B9 v) := r3.put b1 _
  have d0 : Box (w3.setCell ⟨w.heap.size + 1, 0, none⟩ (.slice A3 n3 c3)) w.heap.size #[.slice A1 n1 c1] 24 := b0.far (by simp) _
  have d1 : Box (w3.setCell ⟨w.heap.size + 1, 0, none⟩ (.slice A3 n3 c3)) (w.heap.size + 1) #[.slice A3 n3 c3] 24 := b1.put _
  have d2 := b2.far (p := ⟨w.heap.size + 1, 0, none⟩) (by simp) (.slice A3 n3 c3)
  have hb4 : Below w.heap.size w (w3.setCell ⟨w.heap.size + 1, 0, none⟩ (.slice A3 n3 c3)) := hbA.setCell (by simp) _
  have f1 := b1.frozen 0
  have g0 := b0.cell
  have g1 := b1.cell
  clear r2 r3 b0 b1 hbA c0 e1 rB2 hb2 hb3 b2 e2
  have k0 := d0.cell
  have k1 := d1.cell
  have HR4 := hide r4.len
  have HR5 := hide r5.len
  have hc1' : n1 ≤ maxLen := Nat.le_trans hn1 hc1
  have hc3' : n3 ≤ maxLen := Nat.le_trans hn3 hc3
  unfold maxLen at hc1' hc3'
  go_wp2_with fail
  generalize w3.setCell (⟨w.heap.size + 1, 0, none⟩ : Addr) (.slice A3 n3 c3) = W4 at *
  have hlt0 := d0.lt
  have hlt1 := d1.lt
  have hlt2 := d2.lt
  clear f1 g0 g1
  go_loopw [5, 6, 7] (fun s i _ wr => ∃ (k c' : Nat) (A' : Option Addr) (out : List Nat), k ≤ 100001 ∧ k ≤ max n1 n3 ∧ s = .slice A' k c' ∧ i = .int .i64 (k : Int) ∧ Row wr W4.heap.size .u32 71 A' k c' out ∧ Below W4.heap.size W4 wr ∧
      val B9 out = val B9 ((dig B9 u).take k) + val B9 ((dig B9 v).take k) ∧ ∀ x ∈ out, x < 4294967296) (fun _ i _ _ => max n1 n3 - (intOf i).toNat)
  case atStart => exact ⟨0, 0, none, [], by omega, by omega, rfl, rfl, Row.nil_, Below.refl _ _, by simp [val], fun x hx => by simp at hx⟩
  case round =>
    obtain ⟨k, c', A', out, hk0, hk, rfl, rfl, hrow, hbel, hval, hall⟩ := hrel
    have q0 := (d0.below hbel hlt0).cell
    have q1 := (d1.below hbel hlt1).cell
    have HK := hide hrow.len
    have HVL := hide hval
    have HA := hide hall
    have hbs := hbel.size
    have hkc := hrow.le.1
    have hcm := hrow.le.2
    have hra := r4.below hbel
    have hrb := r5.below hbel
    unfold maxLen at hcm
    clear hval hall k0 k1
    by_cases ha : k < n1
    · by_cases hb : k < n3
      · obtain ⟨b, o, x, rfl, hx, hcell⟩ := hra.at_ ha
        have hxb : x < 1000000000 := dig_lt B9 (by decide) u x (List.mem_of_getElem? hx)
        obtain ⟨b', o', y, rfl, hy, hcell'⟩ := hrb.at_ hb
        have hyb : y < 1000000000 := dig_lt B9 (by decide) v y (List.mem_of_getElem? hy)
        have HS := hide (show val B9 (out ++ [x + y]) = val B9 ((dig B9 u).take (k + 1)) + val B9 ((dig B9 v).take (k + 1)) from radd_step (x + y) x y HK.out HVL.out (val_take_succ B9 hx) (val_take_succ B9 hy) (by omega))
        have HA2 := hide (all_snoc (v := x + y) HA.out (show x + y < 4294967296 by omega))
        clear hx hy hra hrb
        go_wp2_with (at_builtin; refine wpList_append_rl _ rfl _ _ 22 rfl W4.heap.size 71 .u32 4 Tryz.underlying22 u32_info A' k c' out rfl (hrow.alloc _) (some ⟨wr.heap.size, 0, none⟩) 1 1 [x + y] rfl (RL.one wr .u32 71 (by omega)) (by omega) (k + 1) rfl (by omega) (by simp; omega) ?_; intro A2 c2 w5 hrow1 hbel1 hsz1)
        go_roundw
        case rel => exact ⟨k + 1, c2, A2, out ++ [x + y], by omega, by omega, rfl, by go_num, hrow1, (hbel.alloc hbs _).trans hbel1, HS.out, HA2.out⟩
        case measure => simp [intOf]; omega
      · have hd3 : decide (k < n3) = false := by simp; omega
        obtain ⟨b, o, x, rfl, hx, hcell⟩ := hra.at_ ha
        have hxb : x < 1000000000 := dig_lt B9 (by decide) u x (List.mem_of_getElem? hx)
        have HS := hide (show val B9 (out ++ [x]) = val B9 ((dig B9 u).take (k + 1)) + val B9 ((dig B9 v).take (k + 1)) from radd_step (x) x 0 HK.out HVL.out (val_take_succ B9 hx) (val_take_none (by rw [HR5.out]; omega)) (by omega))
        have HA2 := hide (all_snoc (v := x) HA.out (show x < 4294967296 by omega))
        clear hx hra hrb
        go_wp2_with (at_builtin; refine wpList_append_rl _ rfl _ _ 22 rfl W4.heap.size 71 .u32 4 Tryz.underlying22 u32_info A' k c' out rfl (hrow.alloc _) (some ⟨wr.heap.size, 0, none⟩) 1 1 [x] rfl (RL.one wr .u32 71 (by omega)) (by omega) (k + 1) rfl (by omega) (by simp; omega) ?_; intro A2 c2 w5 hrow1 hbel1 hsz1)
        go_roundw
        case rel => exact ⟨k + 1, c2, A2, out ++ [x], by omega, by omega, rfl, by go_num, hrow1, (hbel.alloc hbs _).trans hbel1, HS.out, HA2.out⟩
        case measure => simp [intOf]; omega
    · have hd4 : decide (k < n1) = false := by simp; omega
      by_cases hb : k < n3
      · obtain ⟨b', o', y, rfl, hy, hcell'⟩ := hrb.at_ hb
        have hyb : y < 1000000000 := dig_lt B9 (by decide) v y (List.mem_of_getElem? hy)
        have HS := hide (show val B9 (out ++ [y]) = val B9 ((dig B9 u).take (k + 1)) + val B9 ((dig B9 v).take (k + 1)) from radd_step (y) 0 y HK.out HVL.out (val_take_none (by rw [HR4.out]; omega)) (val_take_succ B9 hy) (by omega))
        have HA2 := hide (all_snoc (v := y) HA.out (show y < 4294967296 by omega))
        clear hy hra hrb
        go_wp2_with (at_builtin; refine wpList_append_rl _ rfl _ _ 22 rfl W4.heap.size 71 .u32 4 Tryz.underlying22 u32_info A' k c' out rfl (hrow.alloc _) (some ⟨wr.heap.size, 0, none⟩) 1 1 [y] rfl (RL.one wr .u32 71 (by omega)) (by omega) (k + 1) rfl (by omega) (by simp; omega) ?_; intro A2 c2 w5 hrow1 hbel1 hsz1)
        go_roundw
        case rel => exact ⟨k + 1, c2, A2, out ++ [y], by omega, by omega, rfl, by go_num, hrow1, (hbel.alloc hbs _).trans hbel1, HS.out, HA2.out⟩
        case measure => simp [intOf]; omega
      · have hd3 : decide (k < n3) = false := by simp; omega
        have HE := hide (show val B9 out = T from by
          rw [HVL.out, val_take_dig B9 (by decide) u k (by rw [HR4.out]; omega), val_take_dig B9 (by decide) v k (by rw [HR5.out]; omega), HT.out])
        have hbA := hb4.trans (hbel.mono hb4.size)
        have d2w := d2.below hbel hlt2
        have hrl := hrow.rl
        clear hra hrb
        go_wp2_with fail
        refine (rnorm_any A' k c' out _ hrl hkc (by unfold maxLen; omega) (by omega) HA.out T HE.out).mono ?_
        rintro e w6 ⟨A6, n6, c6, rfl, r6, hn6, hc6, hb6⟩
        have q2 := (d2w.below' hb6).cell
        have g2 := (d2w.below' hb6).frozen 0
        go_wp2
        refine bodyPost_ret (v := .agg #[.slice A6 n6 c6]) (by simp [results, Tryz.results87, go_sem, q2]) rfl ?_
        exact fin_struct hbA hb6 (by omega) d2w r6 hn6 hc6
end Go.Proofs.YtoeknkakdoemfaaGreatDoor
