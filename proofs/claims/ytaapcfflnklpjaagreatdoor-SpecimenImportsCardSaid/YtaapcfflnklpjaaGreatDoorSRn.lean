/- The reference's number. -/
import Derived.Test.YtaapcfflnklpjaaGreatDoorSRs
import Derived.Test.YtaapcfflnklpjaaGreatDoorSX
import Derived.IntWalk
namespace Go.Proofs.YtaapcfflnklpjaaGreatDoor
open Go Go.RowKit Go.Lib
theorem numS_step (f n : Nat) (c : UInt8) (l : List UInt8) (h : 48 ≤ c.toNat ∧ c.toNat ≤ 57) : numS (f + 1) n (c :: l) = numS f (10 * n + (c.toNat - 48)) l := by
  conv => lhs; unfold numS
  rw [if_pos h]
set_option maxHeartbeats 4000000 in
theorem rnum_any (s : ByteArray) (w : World) (hs : s.size ≤ 4200) (r : Nat) (hr : numS 7 0 s.data.toList = r) :
    Calls Tryz.prog 55 #[.string s] w fun e w' => e = .returned (.int .i64 (r : Int)) ∧ w = w' := by
  have HR := hide hr
  clear hr
  go_enter Tryz.func55, Tryz.ntmps55
  go_wp2_with fail
  go_loopw [3, 4, 5] (fun a b c wr => ∃ n g m : Nat, a = .int .i64 (n : Int) ∧ b = .int .i64 (g : Int) ∧ c = .int .i64 (m : Int) ∧ m ≤ s.size ∧ g ≤ 7 ∧ Hid (n < 10 ^ g) ∧ Hid (numS (7 - g) n (s.data.toList.drop m) = r) ∧ Hid (w = wr)) (fun _ _ c _ => s.size - (RowKit.intOf c).toNat)
  case atStart => exact ⟨0, 0, 0, rfl, rfl, rfl, Nat.zero_le _, Nat.zero_le _, hide (by decide), hide (by rw [List.drop_zero]; exact HR.out), hide rfl⟩
  case round =>
    obtain ⟨n, g, m, rfl, rfl, rfl, hm, hg, HN, HV, HB⟩ := hrel
    have hw := HB.out
    subst hw
    clear HB
    by_cases hlt : m < s.size
    · have d1 : decide ((m : Int) < (s.size : Int)) = true := decide_eq_true (by omega)
      by_cases hg7 : g < 7
      · have d2 : decide ((g : Int) < 7) = true := decide_eq_true (by omega)
        have i1 : (0 : Int) ≤ (m : Int) := by omega
        have HD := hide (show numS (7 - g) n (s[m] :: s.data.toList.drop (m + 1)) = r from by rw [← drop_atB (at_some s m hlt)]; exact HV.out)
        have hn7 : n < 1000000 := by
          have h1 := HN.out
          have h2 : 10 ^ g ≤ 10 ^ 6 := Nat.pow_le_pow_right (by decide) (by omega)
          have h3 : (10 : Nat) ^ 6 = 1000000 := by decide
          omega
        by_cases hc : 48 ≤ s[m].toNat ∧ s[m].toNat ≤ 57
        · obtain ⟨c1, c2⟩ := hc
          have q1 : decide ((48 : Int) ≤ (s[m].toNat : Int)) = true := decide_eq_true (by omega)
          have q2 : decide ((s[m].toNat : Int) ≤ 57) = true := decide_eq_true (by omega)
          have w1 : IntKind.u8.wrap ((s[m].toNat : Int) - 48) = (s[m].toNat : Int) - 48 := IntWalk.u8_in _ (by omega)
          have w2 : IntKind.i64.wrap ((s[m].toNat : Int) - 48) = (s[m].toNat : Int) - 48 := IntWalk.i64_in _ (by omega)
          have w3 : IntKind.i64.wrap (10 * (n : Int)) = 10 * (n : Int) := IntWalk.i64_in _ (by omega)
          have w4 : IntKind.i64.wrap (10 * (n : Int) + ((s[m].toNat : Int) - 48)) = 10 * (n : Int) + ((s[m].toNat : Int) - 48) := IntWalk.i64_in _ (by omega)
          have HX := hide (show numS (7 - (g + 1)) (10 * n + (s[m].toNat - 48)) (s.data.toList.drop (m + 1)) = r by
            have h := HD.out
            rw [show 7 - g = (7 - (g + 1)) + 1 by omega, numS_step _ _ _ _ ⟨c1, c2⟩] at h
            exact h)
          have HP := hide (show 10 * n + (s[m].toNat - 48) < 10 ^ (g + 1) by
            have h1 := HN.out
            rw [Nat.pow_succ]
            omega)
          have HE := hide (show (10 * (n : Int) + ((s[m].toNat : Int) - 48)) = ((10 * n + (s[m].toNat - 48) : Nat) : Int) by omega)
          clear HD HV HN
          go_wp2_with fail
          go_roundw
          case rel => exact ⟨10 * n + (s[m].toNat - 48), g + 1, m + 1, congrArg (Value.int .i64) HE.out, by go_num, by go_num, by omega, by omega, HP, HX, by first | exact hide rfl | exact hide trivial⟩
          case measure => simp [RowKit.intOf]; omega
        · have HX := hide (show numS (7 - g) n (s.data.toList.drop (m + 1)) = r by
            have h := HD.out
            rw [numS_skip _ _ _ _ hc] at h
            exact h)
          clear HD HV
          by_cases c1 : 48 ≤ s[m].toNat
          · have q1 : decide ((48 : Int) ≤ (s[m].toNat : Int)) = true := decide_eq_true (by omega)
            have q2 : decide ((s[m].toNat : Int) ≤ 57) = false := decide_eq_false (by omega)
            clear hc
            go_wp2_with fail
            go_roundw
            case rel => exact ⟨n, g, m + 1, rfl, rfl, by go_num, by omega, hg, HN, HX, by first | exact hide rfl | exact hide trivial⟩
            case measure => simp [RowKit.intOf]; omega
          · have q1 : decide ((48 : Int) ≤ (s[m].toNat : Int)) = false := decide_eq_false (by omega)
            clear hc
            go_wp2_with fail
            go_roundw
            case rel => exact ⟨n, g, m + 1, rfl, rfl, by go_num, by omega, hg, HN, HX, by first | exact hide rfl | exact hide trivial⟩
            case measure => simp [RowKit.intOf]; omega
      · obtain rfl : g = 7 := by omega
        have HE := hide (show n = r by
          have h := HV.out
          rw [Nat.sub_self, numS_zero] at h
          exact h)
        clear HV HN
        go_wp2_with fail
        go_ret
        exact ⟨by rw [HE.out]; rfl, rfl⟩
    · obtain rfl : m = s.size := by omega
      have d1 : decide ((s.size : Int) < (s.size : Int)) = false := decide_eq_false (by omega)
      have HE := hide (show n = r by
        have h := HV.out
        rw [List.drop_of_length_le (by rw [← Lib.size_eq]; exact Nat.le_refl _), numS_nil] at h
        exact h)
      clear HV HN
      go_wp2_with fail
      go_ret
      exact ⟨by rw [HE.out]; rfl, rfl⟩
end Go.Proofs.YtaapcfflnklpjaaGreatDoor
