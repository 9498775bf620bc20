/- The contract of natural.trim. -/
import Derived.Test.YthkgiobemfnpmaaDoorChecked
import Derived.Test.YthkgiobemfnpmaaDoorNum
import Derived.Test.YthkgiobemfnpmaaDoorMem
import Derived.LoopTactic
import Derived.WalkSpells
import Derived.Outline
namespace Go.Proofs.YthkgiobemfnpmaaDoor
open Go Go.RowKit

set_option maxHeartbeats 400000 in
theorem trim_any (A : Option Addr) (n c : Nat) (xs : List Nat) (w : World) (hr : RL w .u32 A n xs) (hn : n ≤ c) (hc : c ≤ maxLen) :
    Calls Tryd.prog 42 #[.slice A n c] w fun e w' => e = .returned (.slice A (trimL xs).length c) ∧ w = w' := by
  unfold maxLen at hc
  have hl := hr.len
  go_enter Tryd.func42, Tryd.ntmps42
  go_wp2
  go_loop [3] (fun t => ∃ k : Nat, k ≤ n ∧ t = .int .i64 k ∧ trimL (xs.take k) = trimL xs) (fun t => (intOf t).toNat)
  case atStart => exact ⟨n, by omega, rfl, by rw [List.take_of_length_le (by omega)]⟩
  case round =>
    obtain ⟨k, hk, rfl, ht⟩ := hrel
    have HT := hide ht
    clear ht
    have HL := hide hl
    clear hl
    by_cases h0 : k = 0
    · subst h0
      have e : (trimL xs).length = 0 := by rw [← HT.out]; rfl
      have HE := hide e
      clear e
      go_wp2
      go_ret
      exact ⟨ret_slice HE.out.symm, rfl⟩
    · obtain ⟨b, o, x, rfl, hx, hcell⟩ := hr.at_ (j := k - 1) (by omega)
      have HX := hide hx
      clear hx
      by_cases hx0 : x = 0
      · subst hx0
        have HT2 := hide (trim_zero h0 HT.out HX.out)
        go_wp2
        go_round
        case rel => exact ⟨k - 1, by omega, by go_num, HT2.out⟩
        case measure => simp [intOf]; omega
      · have HE := hide (trim_pos h0 HT.out HX.out hx0)
        go_wp2
        go_ret
        exact ⟨ret_slice HE.out.symm, rfl⟩
end Go.Proofs.YthkgiobemfnpmaaDoor
