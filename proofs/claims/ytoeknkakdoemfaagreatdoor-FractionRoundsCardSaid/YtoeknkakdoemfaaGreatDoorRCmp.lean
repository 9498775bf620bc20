/- The contract of the reference's Cmp. -/
import Derived.Test.YtoeknkakdoemfaaGreatDoorRNorm
import Derived.Test.YtoeknkakdoemfaaGreatDoorBox
namespace Go.Proofs.YtoeknkakdoemfaaGreatDoor
open Go Go.RowKit

set_option maxHeartbeats 1000000 in
theorem rcmp_any (A : Option Addr) (n c : Nat) (xs : List Nat) (A' : Option Addr) (m d : Nat) (ys : List Nat) (w : World) (hr : RL w .u32 A n xs) (hn : n ≤ c) (hc : c ≤ maxLen) (hN : n ≤ 900000) (hx : ∀ x ∈ xs, x < 4294967296)
    (hr' : RL w .u32 A' m ys) (hm : m ≤ d) (hd : d ≤ maxLen) (hM : m ≤ 900000) (hy : ∀ x ∈ ys, x < 4294967296) (u v : Nat) (hu : val B9 xs = u) (hv : val B9 ys = v) (r : Int) (hcmp : cmpI u v = r) :
    Calls Tryz.prog 37 #[.agg #[.slice A n c], .agg #[.slice A' m d]] w fun e w' => e = .returned (.int .i64 r) ∧ Below w.heap.size w w' := by
  have HX := hide hx
  have HY := hide hy
  have HU := hide hu
  have HV := hide hv
  have HC := hide hcmp
  have HL := hide hr.len
  have HL' := hide hr'.len
  clear hx hy hu hv hcmp
  go_enter Tryz.func37, Tryz.ntmps37
  go_wp2_with fail
  generalize hW : (w.alloc _).alloc _ = W
  obtain ⟨hbW, b0, b1, hz⟩ := boxes2 hW
  clear hW
  refine (rnorm_any A n c xs _ (hr.below hbW) hn hc hN HX.out u HU.out).mono ?_
  rintro e w1 ⟨A1, n1, c1, rfl, r1, hn1, hc1, hb1⟩
  have hl1 : n1 ≤ 900001 := by
    have := dig_len_u32 (n := n1) (m := n) (xs := xs) (by rw [HU.out]; exact r1.len) HL.out HX.out
    omega
  have b0 := b0.below' hb1
  have b1 := b1.below' hb1
  have hrB := hr'.below (hbW.trans (hb1.mono hbW.size))
  have hbA := hbW.trans (hb1.mono hbW.size)
  have f0 := b0.frozen 0
  have f1 := b1.frozen 0
  have g0 := b0.cell
  have g1 := b1.cell
  have k0 := b0.cell
  have k1 := b1.cell
  clear hr hr' hb1 hbW
  go_wp2_with fail
  generalize hW2 : w1.setCell _ _ = w2
  have r2 : RL w2 .u32 A1 n1 (dig B9 u) := by rw [← hW2]; exact r1.put b0 _
  have rB2 : RL w2 .u32 A' m ys := by rw [← hW2]; exact hrB.put b0 _
  have c0 : Box w2 w.heap.size #[.slice A1 n1 c1] 24 := by rw [← hW2]; exact b0.put _
  have c1' : Box w2 (w.heap.size + 1) #[.slice A' m d] 24 := by rw [← hW2]; exact b1.far (by simp) _
  have hb2 : Below w.heap.size w w2 := by rw [← hW2]; exact hbA.setCell (by simp) _
  clear hW2 r1 hrB b0 b1 hbA f0 f1 k0 k1
  refine (rnorm_any A' m d ys _ rB2 hm hd hM HY.out v HV.out).mono ?_
  rintro e w3 ⟨A3, n3, c3, rfl, r3, hn3, hc3, hb3⟩
  have hl3 : n3 ≤ 900001 := by
    have := dig_len_u32 (n := n3) (m := m) (xs := ys) (by rw [HV.out]; exact r3.len) HL'.out HY.out
    omega
  have b0 := c0.below' hb3
  have b1 := c1'.below' hb3
  have r2 := r2.below hb3
  have hbA := hb2.trans (hb3.mono hb2.size)
  have r4 : RL (w3.setCell ⟨w.heap.size + 1, 0, none⟩ (.slice A3 n3 c3)) .u32 A1 n1 (dig B9 u) := r2.put b1 _
  have r5 : RL (w3.setCell ⟨w.heap.size + 1, 0, none⟩ (.slice A3 n3 c3)) .u32 A3 n3 (dig B9 v) := r3.put b1 _
  have d0 : Box (w3.setCell ⟨w.heap.size + 1, 0, none⟩ (.slice A3 n3 c3)) w.heap.size #[.slice A1 n1 c1] 24 := b0.far (by simp) _
  have d1 : Box (w3.setCell ⟨w.heap.size + 1, 0, none⟩ (.slice A3 n3 c3)) (w.heap.size + 1) #[.slice A3 n3 c3] 24 := b1.put _
  have hb4 : Below w.heap.size w (w3.setCell ⟨w.heap.size + 1, 0, none⟩ (.slice A3 n3 c3)) := hbA.setCell (by simp) _
  have f1 := b1.frozen 0
  have g0 := b0.cell
  have g1 := b1.cell
  clear r2 r3 b0 b1 hbA c0 c1' rB2 hb2 hb3
  have k0 := d0.cell
  have k1 := d1.cell
  have HR4 := hide r4.len
  have HR5 := hide r5.len
  have hc1' : n1 ≤ maxLen := Nat.le_trans hn1 hc1
  have hc3' : n3 ≤ maxLen := Nat.le_trans hn3 hc3
  unfold maxLen at hc1' hc3'
  rcases Nat.lt_trichotomy n1 n3 with h | rfl | h
  · have hd1 : ((n1 : Int) != n3) = true := by simp; omega
    have HE := hide (show r = -1 from by rw [← HC.out]; exact cmp_short (b := B9) (by decide) (by rw [r4.len, r5.len]; exact h))
    go_wp2
    go_ret
    exact ⟨ret_int HE.out.symm, hb4⟩
  · go_wp2
    generalize w3.setCell (⟨w.heap.size + 1, 0, none⟩ : Addr) (.slice A3 n1 c3) = w4 at *
    go_loopw [5] (fun t wr => ∃ k m : Nat, k ≤ n1 ∧ t = .int .i64 ((k : Int) - 1) ∧ (dig B9 u).drop k = (dig B9 v).drop k ∧ wr = w4.drewN m) (fun t _ => (intOf t + 1).toNat)
    case atStart => exact ⟨n1, 0, by omega, rfl, by rw [List.drop_eq_nil_of_le (by rw [HR4.out]; exact Nat.le_refl _), List.drop_eq_nil_of_le (by rw [HR5.out]; exact Nat.le_refl _)], rfl⟩
    case round =>
      obtain ⟨k, q, hk, rfl, ht, rfl⟩ := hrel
      by_cases h0 : k = 0
      · subst h0
        have HE := hide (show r = 0 from by rw [← HC.out]; exact cmp_same (b := B9) (u := u) (v := v) (by decide) ht)
        clear ht
        go_wp2
        go_ret
        exact ⟨ret_int HE.out.symm, below_drewN hb4 q⟩
      · obtain ⟨k, rfl⟩ : ∃ j, k = j + 1 := ⟨k - 1, by omega⟩
        obtain ⟨b, o, x, rfl, hx, hcell⟩ := r4.at_ (j := k) (by omega)
        obtain ⟨b', o', x', rfl, hx', hcell'⟩ := r5.at_ (j := k) (by omega)
        have HT := hide ht
        have HX := hide hx
        have HX' := hide hx'
        clear ht hx hx'
        rw [show (((k + 1 : Nat) : Int) - 1) = (k : Int) from by omega]
        have hcell : (w4.drewN q).cell? ⟨b, o + k, none⟩ = some (.int .u32 (x : Int)) := hcell
        have hcell' : (w4.drewN q).cell? ⟨b', o' + k, none⟩ = some (.int .u32 (x' : Int)) := hcell'
        have k0 : (w4.drewN q).cell? ⟨w.heap.size, 0, none⟩ = _ := k0
        have k1 : (w4.drewN q).cell? ⟨w.heap.size + 1, 0, none⟩ = _ := k1
        have hb5 := below_drewN hb4 q
        generalize hW : w4.drewN q = wo at *
        have HW := hide hW
        clear hW
        rcases Nat.lt_trichotomy x x' with hlt | rfl | hlt
        · have HE := hide (show r = -1 from by rw [← HC.out]; exact cmp_digit_lt (by decide) HX.out HX'.out HT.out hlt)
          go_wp2
          go_quiet (fail)
          go_wp2
          go_ret
          exact ⟨ret_int HE.out.symm, below_drewN hb5 _⟩
        · have HE := hide (drop_step HX.out HX'.out HT.out)
          go_wp2
          go_quiet (fail)
          go_wp2
          have hc2 : (wo.drewN nq).cell? ⟨b, o + k, none⟩ = some (.int .u32 (x : Int)) := hcell
          have hc2' : (wo.drewN nq).cell? ⟨b', o' + k, none⟩ = some (.int .u32 (x : Int)) := hcell'
          have k0' : (wo.drewN nq).cell? ⟨w.heap.size, 0, none⟩ = _ := k0
          have k1' : (wo.drewN nq).cell? ⟨w.heap.size + 1, 0, none⟩ = _ := k1
          generalize hW : wo.drewN nq = wo2 at *
          have HW2 := hide hW
          clear hW hcell hcell' k0 k1
          go_quiet (fail)
          go_wp2
          go_roundw
          case rel => exact ⟨k, _, by omega, rfl, HE.out, by rw [← HW2.out, ← HW.out, World.drewN_drewN, World.drewN_drewN]⟩
          case measure => simp [intOf]
        · have HE := hide (show r = 1 from by rw [← HC.out]; exact cmp_digit_gt (by decide) HX.out HX'.out HT.out hlt)
          have hd : decide (x < x') = false := by simp; omega
          go_wp2
          go_quiet (fail)
          go_wp2
          have hb6 := below_drewN hb5 nq
          have hc2 : (wo.drewN nq).cell? ⟨b, o + k, none⟩ = some (.int .u32 (x : Int)) := hcell
          have hc2' : (wo.drewN nq).cell? ⟨b', o' + k, none⟩ = some (.int .u32 (x' : Int)) := hcell'
          have k0' : (wo.drewN nq).cell? ⟨w.heap.size, 0, none⟩ = _ := k0
          have k1' : (wo.drewN nq).cell? ⟨w.heap.size + 1, 0, none⟩ = _ := k1
          generalize hW : wo.drewN nq = wo2 at *
          have HW2 := hide hW
          clear hW hcell hcell' k0 k1
          go_quiet (fail)
          go_wp2
          go_ret
          exact ⟨ret_int HE.out.symm, below_drewN hb6 _⟩
  · have hd1 : ((n1 : Int) != n3) = true := by simp; omega
    have hd2 : decide (n1 < n3) = false := by simp; omega
    have HE := hide (show r = 1 from by rw [← HC.out]; exact cmp_long (b := B9) (by decide) (by rw [r4.len, r5.len]; exact h))
    go_wp2
    go_ret
    exact ⟨ret_int HE.out.symm, hb4⟩
theorem rcmp_d (A : Option Addr) (n c u : Nat) (A' : Option Addr) (m d v : Nat) (w : World) (hr : RL w .u32 A n (dig B9 u)) (hn : n ≤ c) (hc : c ≤ maxLen) (hN : n ≤ 900000) (hr' : RL w .u32 A' m (dig B9 v)) (hm : m ≤ d) (hd : d ≤ maxLen) (hM : m ≤ 900000) (r : Int) (h : cmpI u v = r) :
    Calls Tryz.prog 37 #[.agg #[.slice A n c], .agg #[.slice A' m d]] w fun e w' => e = .returned (.int .i64 r) ∧ Below w.heap.size w w' :=
  rcmp_any A n c _ A' m d _ w hr hn hc hN (fun x hx => by have : x < 1000000000 := dig_lt B9 (by decide) _ x hx; omega) hr' hm hd hM (fun x hx => by have : x < 1000000000 := dig_lt B9 (by decide) _ x hx; omega) u v (val_dig B9 (by decide) _) (val_dig B9 (by decide) _) r h

end Go.Proofs.YtoeknkakdoemfaaGreatDoor
