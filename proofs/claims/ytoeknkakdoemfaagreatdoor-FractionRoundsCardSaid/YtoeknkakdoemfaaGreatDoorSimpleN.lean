/- The contracts of joinLimbs, smallGcd. -/
import Derived.Test.YtoeknkakdoemfaaGreatDoorBaseA
namespace Go.Proofs.YtoeknkakdoemfaaGreatDoor
open Go Go.RowKit

theorem joinLimbs_any (A : Option Addr) (n c : Nat) (xs : List Nat) (w : World) (hr : RL w .u32 A n xs) (hn : n ≤ 2) (hx : ∀ x ∈ xs, x < B9) :
    Calls Tryz.prog 74 #[.slice A n c] w fun e w' => e = .returned (.int .u64 ((val B9 xs : Nat) : Int)) ∧ w = w' := by
  have HL := hide hr.len
  have HX := hide hx
  clear hx
  go_enter Tryz.func74, Tryz.ntmps74
  go_wp2
  go_loop [3, 4] (fun v t => ∃ k V : Nat, k ≤ n ∧ t = .int .i64 ((k : Int) - 1) ∧ v = .int .u64 V ∧ val B9 (xs.drop k) = V) (fun _ t => (intOf t + 1).toNat)
  case atStart => exact ⟨n, 0, by omega, rfl, rfl, by rw [List.drop_eq_nil_of_le (by rw [HL.out]; exact Nat.le_refl _)]; rfl⟩
  case round =>
    obtain ⟨k, V, hk, rfl, rfl, hv⟩ := hrel
    by_cases h0 : k = 0
    · subst h0
      have HV := hide hv
      clear hv
      go_wp2
      go_ret
      exact ⟨ret_int (by rw [← HV.out]; rfl), rfl⟩
    · obtain ⟨k, rfl⟩ : ∃ j, k = j + 1 := ⟨k - 1, by omega⟩
      obtain ⟨b, o, x, rfl, hx, hcell⟩ := hr.at_ (j := k) (by omega)
      have hxb : x < 1000000000 := HX.out x (List.mem_of_getElem? hx)
      have hVb : V < 1000000000 := by
        have h1 := val_drop_lt B9 (by decide) HX.out (k + 1)
        have h2 : B9 ^ (xs.length - (k + 1)) ≤ B9 ^ 1 := Nat.pow_le_pow_right (by decide) (by rw [HL.out]; omega)
        rw [hv] at h1
        exact Nat.lt_of_lt_of_le h1 h2
      have HN := hide (show val B9 (xs.drop k) = V * 1000000000 + x from by rw [val_drop_step B9 hx, hv]; show x + 1000000000 * V = _; omega)
      clear hx hv
      rw [show (((k + 1 : Nat) : Int) - 1) = (k : Int) from by omega]
      go_wp2
      go_round
      case rel => exact ⟨k, V * 1000000000 + x, by omega, rfl, by go_num, HN.out⟩
      case measure => simp [intOf]

theorem smallGcd_any (a b : Nat) (w : World) (ha : a < 18446744073709551616) (hb : b < 18446744073709551616) :
    Calls Tryz.prog 73 #[.int .u64 (a : Int), .int .u64 (b : Int)] w fun e w' => e = .returned (.int .u64 ((Nat.gcd a b : Nat) : Int)) ∧ ∃ k, w' = w.drewN k := by
  go_enter Tryz.func73, Tryz.ntmps73
  go_wp2
  go_loopw [0, 1] (fun s t wr => ∃ x y m : Nat, s = .int .u64 x ∧ t = .int .u64 y ∧ x < 18446744073709551616 ∧ y < 18446744073709551616 ∧ Nat.gcd x y = Nat.gcd a b ∧ wr = w.drewN m) (fun _ t _ => (intOf t).toNat)
  case atStart => exact ⟨a, b, 0, rfl, rfl, ha, hb, rfl, rfl⟩
  case round =>
    obtain ⟨x, y, m, rfl, rfl, hx, hy, hg, rfl⟩ := hrel
    by_cases h0 : y = 0
    · subst h0
      have HG := hide hg
      clear hg
      go_wp2
      go_ret
      exact ⟨ret_int (by rw [← HG.out, Nat.gcd_zero_right]), m, rfl⟩
    · have hyp : 0 < y := by omega
      have HG := hide (show Nat.gcd y (x % y) = Nat.gcd a b from by rw [gcd_step, hg])
      have hlt : x % y < y := Nat.mod_lt _ hyp
      clear hg
      go_wp2
      go_quiet (fail)
      go_wp2
      go_roundw
      case rel => exact ⟨y, x % y, _, rfl, by go_num, hy, by omega, HG.out, by rw [World.drewN_drewN]⟩
      case measure => simp [intOf]; omega

end Go.Proofs.YtoeknkakdoemfaaGreatDoor
