/- The contract of the reference's Small. -/
import Derived.Test.YthkgiobemfnpmaaDoorRCmp
import Derived.Test.YthkgiobemfnpmaaDoorROf
import Derived.Test.YthkgiobemfnpmaaDoorSmall
import Derived.Deep.RegionHeld3
namespace Go.Proofs.YthkgiobemfnpmaaDoor
open Go Go.RowKit

theorem rof_max (M : Nat) (hM : M = 18446744073709551615) (w : World) : Calls Tryd.prog 49 #[.int .u64 18446744073709551615] w (GivesN M w) := by
  subst hM
  exact rof_any 18446744073709551615 w (by omega)
theorem val_drop_le (b : Nat) (xs : List Nat) (k : Nat) (hb : 0 < b) : val b (xs.drop k) ≤ val b xs := by
  have h := val_append b (xs.take k) (xs.drop k)
  rw [List.take_append_drop] at h
  have h2 : 1 * val b (xs.drop k) ≤ b ^ (xs.take k).length * val b (xs.drop k) := Nat.mul_le_mul_right _ (Nat.pow_pos hb)
  omega
theorem rcmp_d (A : Option Addr) (n c u : Nat) (A' : Option Addr) (m d v : Nat) (w : World) (hr : RL w .u32 A n (dig B9 u)) (hn : n ≤ c) (hc : c ≤ maxLen) (hN : n ≤ 900000) (hr' : RL w .u32 A' m (dig B9 v)) (hm : m ≤ d) (hd : d ≤ maxLen) (hM : m ≤ 900000) (r : Int) (h : cmpI u v = r) :
    Calls Tryd.prog 21 #[.agg #[.slice A n c], .agg #[.slice A' m d]] w fun e w' => e = .returned (.int .i64 r) ∧ Below w.heap.size w w' :=
  rcmp_any A n c _ A' m d _ w hr hn hc hN (fun x hx => by have : x < 1000000000 := dig_lt B9 (by decide) _ x hx; omega) hr' hm hd hM (fun x hx => by have : x < 1000000000 := dig_lt B9 (by decide) _ x hx; omega) u v (val_dig B9 (by decide) _) (val_dig B9 (by decide) _) r h

set_option maxHeartbeats 2000000 in
theorem rsmall_big (A : Option Addr) (n c : Nat) (xs : List Nat) (w : World) (hr : RL w .u32 A n xs) (hn : n ≤ c) (hc : c ≤ maxLen) (hN : n ≤ 100000) (hx : ∀ x ∈ xs, x < 4294967296) (u : Nat) (hu : val B9 xs = u) (hu64 : ¬ u < 18446744073709551616) :
    Calls Tryd.prog 31 #[.agg #[.slice A n c]] w fun e w' => e = .returned (.tuple #[.int .u64 0, .bool false]) ∧ Below w.heap.size w w' := by
  have HX := hide hx
  have HU := hide hu
  have HL := hide hr.len
  clear hx hu
  obtain ⟨M, hM⟩ : ∃ M, M = 18446744073709551615 := ⟨_, rfl⟩
  obtain ⟨r, hR⟩ : ∃ r, cmpI u M = r := ⟨_, rfl⟩
  have hr0 : decide (0 < r) = true := by
    have : M < u := by omega
    rw [← hR]; rw [cmpI_gt this]; rfl
  have HM := hide hM
  have HR := hide hR
  have H64 := hide hu64
  clear hM hR hu64
  go_enter Tryd.func31, Tryd.ntmps31
  go_wp2_with fail
  generalize hW : w.alloc _ = W
  obtain ⟨hbW, b0, hz⟩ := boxes1 hW
  clear hW
  refine (rnorm_any A n c xs _ (hr.below hbW) hn hc (by omega) HX.out u HU.out).mono ?_
  rintro e w1 ⟨A1, n1, c1, rfl, r1, hn1, hc1, hb1⟩
  have hl1 : n1 ≤ n + 1 := dig_len_u32 (n := n1) (m := n) (xs := xs) (by rw [HU.out]; exact r1.len) HL.out HX.out
  have b0 := b0.below' hb1
  have hbA := hbW.trans (hb1.mono hbW.size)
  have f0 := b0.frozen 0
  have g0 := b0.cell
  have r4 : RL (w1.setCell ⟨w.heap.size, 0, none⟩ (.slice A1 n1 c1)) .u32 A1 n1 (dig B9 u) := r1.put b0 _
  have d0 : Box (w1.setCell ⟨w.heap.size, 0, none⟩ (.slice A1 n1 c1)) w.heap.size #[.slice A1 n1 c1] 24 := b0.put _
  have hb4 : Below w.heap.size w (w1.setCell ⟨w.heap.size, 0, none⟩ (.slice A1 n1 c1)) := hbA.setCell (by simp) _
  clear hr hb1 hbW r1 b0 hbA
  have k0 := d0.cell
  have HR4 := hide r4.len
  have hc1' : n1 ≤ maxLen := Nat.le_trans hn1 hc1
  unfold maxLen at hc1'
  go_wp2_with fail
  generalize w1.setCell (⟨w.heap.size, 0, none⟩ : Addr) (.slice A1 n1 c1) = W4 at *
  have lt0 := d0.lt
  have KS : Hid (∀ w', Below W4.heap.size W4 w' → w'.cell? ⟨w.heap.size, 0, none⟩ = some (.slice A1 n1 c1)) := fun w' h => (d0.below h lt0).cell
  clear f0 g0 d0
  go_region_held3 (fun w' => w'.cell? ⟨w.heap.size, 0, none⟩ = some (.slice A1 n1 c1))
    (first | exact KS.out _ E6 | exact KS.out _ E5 | exact KS.out _ ((Below.refl _ _).drew))
    (first
      | (go_at_call_of 49 (Value.int .u64 18446744073709551615); (with_reducible refine (rof_max M HM.out _).mono ?_); rintro e w5 ⟨A5, n5, c5, rfl, h5, hn5, hc5, hx5⟩; have E5 : Below W4.heap.size W4 w5 := ((Below.refl _ _).drew).trans (hx5.mono (Nat.le_refl _)))
      | (go_at_call_of 21 (Value.slice A1 n1 c1); (with_reducible refine (rcmp_d A1 n1 c1 u A5 n5 c5 M _ (r4.below E5) hn1 hc1 (by omega) h5 hn5 hc5 (by have := (dig_length_le B9 (by decide) 3 M).2 (by have := HM.out; show M < 1000000000 ^ 3; omega); have := h5.len; omega) r HR.out).mono ?_); rintro e w6 ⟨rfl, hx6⟩; have E6 : Below W4.heap.size W4 w6 := E5.trans (hx6.mono E5.size)))
  have hb6 := hb4.trans (E6.mono hb4.size)
  have r6 := r4.below E6
  have k6 := KS.out _ E6
  clear E5 hx5 hx6 h5 r4 KS E6 hb4
  go_wp2
  go_ret2
  exact ⟨rfl, hb6⟩
set_option maxHeartbeats 2000000 in
theorem rsmall_fit (A : Option Addr) (n c : Nat) (xs : List Nat) (w : World) (hr : RL w .u32 A n xs) (hn : n ≤ c) (hc : c ≤ maxLen) (hN : n ≤ 100000) (hx : ∀ x ∈ xs, x < 4294967296) (u : Nat) (hu : val B9 xs = u) (hu64 : u < 18446744073709551616) :
    Calls Tryd.prog 31 #[.agg #[.slice A n c]] w fun e w' => e = .returned (.tuple #[.int .u64 (u : Int), .bool true]) ∧ Below w.heap.size w w' := by
  have HX := hide hx
  have HU := hide hu
  have HL := hide hr.len
  clear hx hu
  obtain ⟨M, hM⟩ : ∃ M, M = 18446744073709551615 := ⟨_, rfl⟩
  obtain ⟨r, hR⟩ : ∃ r, cmpI u M = r := ⟨_, rfl⟩
  have hr0 : decide (0 < r) = false := by
    have : u ≤ M := by omega
    rw [← hR]; unfold cmpI; split <;> simp; split <;> simp; omega
  have HM := hide hM
  have HR := hide hR
  have H64 := hide hu64
  clear hM hR hu64
  go_enter Tryd.func31, Tryd.ntmps31
  go_wp2_with fail
  generalize hW : w.alloc _ = W
  obtain ⟨hbW, b0, hz⟩ := boxes1 hW
  clear hW
  refine (rnorm_any A n c xs _ (hr.below hbW) hn hc (by omega) HX.out u HU.out).mono ?_
  rintro e w1 ⟨A1, n1, c1, rfl, r1, hn1, hc1, hb1⟩
  have hl1 : n1 ≤ n + 1 := dig_len_u32 (n := n1) (m := n) (xs := xs) (by rw [HU.out]; exact r1.len) HL.out HX.out
  have b0 := b0.below' hb1
  have hbA := hbW.trans (hb1.mono hbW.size)
  have f0 := b0.frozen 0
  have g0 := b0.cell
  have r4 : RL (w1.setCell ⟨w.heap.size, 0, none⟩ (.slice A1 n1 c1)) .u32 A1 n1 (dig B9 u) := r1.put b0 _
  have d0 : Box (w1.setCell ⟨w.heap.size, 0, none⟩ (.slice A1 n1 c1)) w.heap.size #[.slice A1 n1 c1] 24 := b0.put _
  have hb4 : Below w.heap.size w (w1.setCell ⟨w.heap.size, 0, none⟩ (.slice A1 n1 c1)) := hbA.setCell (by simp) _
  clear hr hb1 hbW r1 b0 hbA
  have k0 := d0.cell
  have HR4 := hide r4.len
  have hc1' : n1 ≤ maxLen := Nat.le_trans hn1 hc1
  unfold maxLen at hc1'
  go_wp2_with fail
  generalize w1.setCell (⟨w.heap.size, 0, none⟩ : Addr) (.slice A1 n1 c1) = W4 at *
  have lt0 := d0.lt
  have KS : Hid (∀ w', Below W4.heap.size W4 w' → w'.cell? ⟨w.heap.size, 0, none⟩ = some (.slice A1 n1 c1)) := fun w' h => (d0.below h lt0).cell
  clear f0 g0 d0
  go_region_held3 (fun w' => w'.cell? ⟨w.heap.size, 0, none⟩ = some (.slice A1 n1 c1))
    (first | exact KS.out _ E6 | exact KS.out _ E5 | exact KS.out _ ((Below.refl _ _).drew))
    (first
      | (go_at_call_of 49 (Value.int .u64 18446744073709551615); (with_reducible refine (rof_max M HM.out _).mono ?_); rintro e w5 ⟨A5, n5, c5, rfl, h5, hn5, hc5, hx5⟩; have E5 : Below W4.heap.size W4 w5 := ((Below.refl _ _).drew).trans (hx5.mono (Nat.le_refl _)))
      | (go_at_call_of 21 (Value.slice A1 n1 c1); (with_reducible refine (rcmp_d A1 n1 c1 u A5 n5 c5 M _ (r4.below E5) hn1 hc1 (by omega) h5 hn5 hc5 (by have := (dig_length_le B9 (by decide) 3 M).2 (by have := HM.out; show M < 1000000000 ^ 3; omega); have := h5.len; omega) r HR.out).mono ?_); rintro e w6 ⟨rfl, hx6⟩; have E6 : Below W4.heap.size W4 w6 := E5.trans (hx6.mono E5.size)))
  have hb6 := hb4.trans (E6.mono hb4.size)
  have r6 := r4.below E6
  have k6 := KS.out _ E6
  clear E5 hx5 hx6 h5 r4 KS E6 hb4
  go_wp2
  go_loop [4, 5] (fun v t => ∃ k V : Nat, k ≤ n1 ∧ t = .int .i64 ((k : Int) - 1) ∧ v = .int .u64 (V : Int) ∧ val B9 ((dig B9 u).drop k) = V) (fun _ t => (intOf t + 1).toNat)
  case atStart => exact ⟨n1, 0, by omega, rfl, rfl, by rw [List.drop_eq_nil_of_le (by rw [HR4.out]; exact Nat.le_refl _)]; rfl⟩
  case round =>
    obtain ⟨k, V, hk, rfl, rfl, hv⟩ := hrel
    by_cases hk0 : k = 0
    · subst hk0
      have HV := hide (show u = V from by rw [← hv]; exact (val_dig B9 (by decide) _).symm)
      clear hv
      go_wp2
      go_ret2
      exact ⟨by rw [HV.out]; rfl, hb6⟩
    · obtain ⟨k, rfl⟩ : ∃ j, k = j + 1 := ⟨k - 1, by omega⟩
      obtain ⟨b, o, x, rfl, hx, hcell⟩ := r6.at_ (j := k) (by omega)
      have hxb : x < 1000000000 := dig_lt B9 (by decide) u x (List.mem_of_getElem? hx)
      have HN := hide (show val B9 ((dig B9 u).drop k) = V * 1000000000 + x from by rw [val_drop_step B9 hx, hv]; show x + 1000000000 * V = _; omega)
      have hVb : V * 1000000000 + x < 18446744073709551616 := by
        have h1 := val_drop_le B9 (dig B9 u) k (by decide)
        rw [HN.out, val_dig B9 (by decide)] at h1
        have := H64.out
        omega
      clear hx hv
      rw [show (((k + 1 : Nat) : Int) - 1) = (k : Int) from by omega]
      go_wp2
      go_round
      case rel => exact ⟨k, V * 1000000000 + x, by omega, rfl, by go_num, HN.out⟩
      case measure => simp [intOf]
end Go.Proofs.YthkgiobemfnpmaaDoor
