/- The base's Mod and In. -/
import Derived.Test.YtalbdclcappjpaaGreatBox
import Derived.Test.YtalbdclcappjpaaGreatChecked
import Derived.Lib.Walk
import Derived.IntWalk
namespace Go.Proofs.YtalbdclcappjpaaGreat
open Go Go.RowKit Go.Lib
def modB (a b : Int) : Int := if a.tmod b < 0 then a.tmod b + b else a.tmod b
theorem modB_eq (a b : Int) (hb : 0 < b) : modB a b = a % b := by
  unfold modB
  have h1 := Int.tmod_eq_emod (a := a) (b := b)
  have h2 := Int.emod_nonneg a (show b ≠ 0 by omega)
  have h3 := Int.emod_lt_of_pos a hb
  have h4 : ((b.natAbs : Int)) = b := by omega
  by_cases hc : 0 ≤ a ∨ b ∣ a
  · rw [if_pos hc] at h1
    rw [if_neg (by omega)]; omega
  · rw [if_neg hc] at h1
    have h5 : a % b ≠ 0 := fun h => hc (Or.inr (Int.dvd_of_emod_eq_zero h))
    split <;> omega
set_option maxHeartbeats 1000000 in
theorem in_any (a l h : Int) (w : World) (v : Bool) (hv : decide (l ≤ a ∧ a ≤ h) = v) :
    Calls Tryz.prog 81 #[.int .i64 a, .int .i64 l, .int .i64 h] w fun e w' => e = .returned (.bool v) ∧ w = w' := by
  by_cases h1 : l ≤ a
  · by_cases h2 : a ≤ h
    · obtain rfl : v = true := by rw [← hv]; exact decide_eq_true ⟨h1, h2⟩
      have d1 : decide (l ≤ a) = true := decide_eq_true h1
      have d2 : decide (a ≤ h) = true := decide_eq_true h2
      clear hv
      go_enter Tryz.func81, Tryz.ntmps81
      go_wp2
      go_ret
      exact ⟨rfl, rfl⟩
    · obtain rfl : v = false := by rw [← hv]; exact decide_eq_false fun h => h2 h.2
      have d1 : decide (l ≤ a) = true := decide_eq_true h1
      have d2 : decide (a ≤ h) = false := decide_eq_false h2
      clear hv
      go_enter Tryz.func81, Tryz.ntmps81
      go_wp2
      go_ret
      exact ⟨rfl, rfl⟩
  · obtain rfl : v = false := by rw [← hv]; exact decide_eq_false fun h => h1 h.1
    have d1 : decide (l ≤ a) = false := decide_eq_false h1
    clear hv
    go_enter Tryz.func81, Tryz.ntmps81
    go_wp2
    go_ret
    exact ⟨rfl, rfl⟩
end Go.Proofs.YtalbdclcappjpaaGreat
