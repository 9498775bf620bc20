/- coinagebase.Mod -/
import Derived.Test.YtjmiaodjapclbaaDoorCSet
import Derived.IntWalk
namespace Go.Proofs.YtjmiaodjapclbaaDoor
open Go Go.RowKit

def modB (a b : Int) : Int := if a.tmod b < 0 then a.tmod b + b else a.tmod b
theorem modB_eq (a b : Int) (hb : 0 < b) : modB a b = a % b := by
  unfold modB
  have h1 := Int.tmod_eq_emod (a := a) (b := b)
  have h2 := Int.emod_nonneg a (show b ≠ 0 by omega)
  have h3 := Int.emod_lt_of_pos a hb
  have h4 : ((b.natAbs : Int)) = b := by omega
  by_cases hc : 0 ≤ a ∨ b ∣ a
  · rw [if_pos hc] at h1
    rw [if_neg (by omega)]; omega
  · rw [if_neg hc] at h1
    have h5 : a % b ≠ 0 := fun h => hc (Or.inr (Int.dvd_of_emod_eq_zero h))
    split <;> omega
set_option maxHeartbeats 1000000 in
theorem mod_any (a b : Int) (hb : 0 < b) (hb2 : b ≤ 1000) (r : Int) (hr : a % b = r) (w : World) : Calls Tryd.prog 31 #[.int .i64 a, .int .i64 b] w fun e w' => e = .returned (.int .i64 r) ∧ w = w' := by
  have hnz : ¬ b = 0 := by omega
  have HR := hide (show modB a b = r from (modB_eq a b hb).trans hr)
  have h3 : -1000 < a.tmod b ∧ a.tmod b < 1000 := by
    have h1 := Int.tmod_eq_emod (a := a) (b := b)
    have h2 := Int.emod_nonneg a (show b ≠ 0 by omega)
    have h3 := Int.emod_lt_of_pos a hb
    split at h1 <;> omega
  obtain ⟨b1, b2⟩ := h3
  clear hr
  have hwr : IntKind.i64.wrap (a.tmod b) = a.tmod b := IntWalk.i64_in _ (by omega)
  obtain ⟨t, ht⟩ : ∃ t, a.tmod b = t := ⟨_, rfl⟩
  by_cases h : t < 0
  · have d1 : decide (t < 0) = true := decide_eq_true h
    have HQ := hide (show t + b = r from by rw [← HR.out]; unfold modB; rw [ht, if_pos h])
    go_enter Tryd.func31, Tryd.ntmps31
    go_wp2_with fail
    go_ret
    exact ⟨by rw [HQ.out]; rfl, rfl⟩
  · have d1 : decide (t < 0) = false := decide_eq_false h
    have HQ := hide (show t = r from by rw [← HR.out]; unfold modB; rw [ht, if_neg h])
    go_enter Tryd.func31, Tryd.ntmps31
    go_wp2_with fail
    go_ret
    exact ⟨by rw [HQ.out]; rfl, rfl⟩
end Go.Proofs.YtjmiaodjapclbaaDoor
