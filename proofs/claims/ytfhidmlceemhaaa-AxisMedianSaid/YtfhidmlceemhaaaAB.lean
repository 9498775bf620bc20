/- The base's Mod and In; hours, turns and distances, the program's and the reference's. -/
import Derived.Test.YtfhidmlceemhaaaAM
import Derived.IntWalk
namespace Go.Proofs.Ytfhidmlceemhaaa
open Go Go.RowKit Go.Lib
open AM
def modB (a b : Int) : Int := if a.tmod b < 0 then a.tmod b + b else a.tmod b
theorem modB_eq (a b : Int) (hb : 0 < b) : modB a b = a % b := by
  unfold modB
  have h1 := Int.tmod_eq_emod (a := a) (b := b)
  have h2 := Int.emod_nonneg a (show b ≠ 0 by omega)
  have h3 := Int.emod_lt_of_pos a hb
  have h4 : ((b.natAbs : Int)) = b := by omega
  by_cases hc : 0 ≤ a ∨ b ∣ a
  · rw [if_pos hc] at h1
    rw [if_neg (by omega)]; omega
  · rw [if_neg hc] at h1
    have h5 : a % b ≠ 0 := fun h => hc (Or.inr (Int.dvd_of_emod_eq_zero h))
    split <;> omega
set_option maxHeartbeats 1000000 in
theorem mod_any (a b : Int) (hb : 0 < b) (hb2 : b ≤ 1000) (r : Int) (hr : a % b = r) (w : World) : Calls Try.prog 15 #[.int .i64 a, .int .i64 b] w fun e w' => e = .returned (.int .i64 r) ∧ w = w' := by
  have hnz : ¬ b = 0 := by omega
  have HR := hide (show modB a b = r from (modB_eq a b hb).trans hr)
  have h3 : -1000 < a.tmod b ∧ a.tmod b < 1000 := by
    have h1 := Int.tmod_eq_emod (a := a) (b := b)
    have h2 := Int.emod_nonneg a (show b ≠ 0 by omega)
    have h3 := Int.emod_lt_of_pos a hb
    split at h1 <;> omega
  obtain ⟨b1, b2⟩ := h3
  clear hr
  have hwr : IntKind.i64.wrap (a.tmod b) = a.tmod b := IntWalk.i64_in _ (by omega)
  obtain ⟨t, ht⟩ : ∃ t, a.tmod b = t := ⟨_, rfl⟩
  by_cases h : t < 0
  · have d1 : decide (t < 0) = true := decide_eq_true h
    have HQ := hide (show t + b = r from by rw [← HR.out]; unfold modB; rw [ht, if_pos h])
    go_enter Try.func15, Try.ntmps15
    go_wp2_with fail
    go_ret
    exact ⟨by rw [HQ.out]; rfl, rfl⟩
  · have d1 : decide (t < 0) = false := decide_eq_false h
    have HQ := hide (show t = r from by rw [← HR.out]; unfold modB; rw [ht, if_neg h])
    go_enter Try.func15, Try.ntmps15
    go_wp2_with fail
    go_ret
    exact ⟨by rw [HQ.out]; rfl, rfl⟩
set_option maxHeartbeats 1000000 in
theorem in_any (a l h : Int) (w : World) (v : Bool) (hv : decide (l ≤ a ∧ a ≤ h) = v) :
    Calls Try.prog 30 #[.int .i64 a, .int .i64 l, .int .i64 h] w fun e w' => e = .returned (.bool v) ∧ w = w' := by
  by_cases h1 : l ≤ a
  · by_cases h2 : a ≤ h
    · obtain rfl : v = true := by rw [← hv]; exact decide_eq_true ⟨h1, h2⟩
      have d1 : decide (l ≤ a) = true := decide_eq_true h1
      have d2 : decide (a ≤ h) = true := decide_eq_true h2
      clear hv
      go_enter Try.func30, Try.ntmps30
      go_wp2
      go_ret
      exact ⟨rfl, rfl⟩
    · obtain rfl : v = false := by rw [← hv]; exact decide_eq_false fun h => h2 h.2
      have d1 : decide (l ≤ a) = true := decide_eq_true h1
      have d2 : decide (a ≤ h) = false := decide_eq_false h2
      clear hv
      go_enter Try.func30, Try.ntmps30
      go_wp2
      go_ret
      exact ⟨rfl, rfl⟩
  · obtain rfl : v = false := by rw [← hv]; exact decide_eq_false fun h => h1 h.1
    have d1 : decide (l ≤ a) = false := decide_eq_false h1
    clear hv
    go_enter Try.func30, Try.ntmps30
    go_wp2
    go_ret
    exact ⟨rfl, rfl⟩
set_option maxHeartbeats 1000000 in
theorem hour_any (a : Int) (w : World) (v : Bool) (hv : hrX a = v) :
    Calls Try.prog 31 #[.int .i64 a] w fun e w' => e = .returned (.bool v) ∧ w = w' := by
  subst hv
  by_cases h1 : 0 ≤ a
  · by_cases h2 : a < 12
    · have d1 : decide (0 ≤ a) = true := decide_eq_true h1
      have d2 : decide (a < 12) = true := decide_eq_true h2
      have HV := hide (show hrX a = true from hrX_iff.2 ⟨h1, h2⟩)
      go_enter Try.func31, Try.ntmps31
      go_wp2
      go_ret
      exact ⟨by rw [HV.out]; rfl, rfl⟩
    · have d1 : decide (0 ≤ a) = true := decide_eq_true h1
      have d2 : decide (a < 12) = false := decide_eq_false h2
      have HV := hide (show hrX a = false from hrX_not.2 fun h => h2 h.2)
      go_enter Try.func31, Try.ntmps31
      go_wp2
      go_ret
      exact ⟨by rw [HV.out]; rfl, rfl⟩
  · have d1 : decide (0 ≤ a) = false := decide_eq_false h1
    have HV := hide (show hrX a = false from hrX_not.2 fun h => h1 h.1)
    go_enter Try.func31, Try.ntmps31
    go_wp2
    go_ret
    exact ⟨by rw [HV.out]; rfl, rfl⟩
/-- a remainder taken twice, all positive -/
theorem turn_eq (h n : Int) (h0 : 0 ≤ h) : (h + n.tmod 12 + 12).tmod 12 = (h + n) % 12 := by
  have h1 := Int.tmod_eq_emod (a := n) (b := 12)
  have h2 : -12 < n.tmod 12 := by split at h1 <;> simp at h1 <;> omega
  rw [Int.tmod_eq_emod_of_nonneg (by omega)]
  split at h1
  · omega
  · simp at h1; omega
set_option maxHeartbeats 1000000 in
theorem turn_any (h n : Int) (h0 : 0 ≤ h) (h1 : h < 12) (r : Int) (hr : (h + n) % 12 = r) (w : World) :
    Calls Try.prog 34 #[.int .i64 h, .int .i64 n] w fun e w' => e = .returned (.int .i64 r) ∧ w = w' := by
  have h3 : -12 < n.tmod 12 ∧ n.tmod 12 < 12 := by
    have h1 := Int.tmod_eq_emod (a := n) (b := 12)
    split at h1 <;> simp at h1 <;> omega
  have HR := hide (show (h + n.tmod 12 + 12).tmod 12 = r from (turn_eq h n h0).trans hr)
  clear hr
  obtain ⟨t, ht⟩ : ∃ t, n.tmod 12 = t := ⟨_, rfl⟩
  rw [ht] at h3 HR
  obtain ⟨b1, b2⟩ := h3
  have w1 : IntKind.i64.wrap t = t := IntWalk.i64_in _ (by omega)
  have w2 : IntKind.i64.wrap (h + t) = h + t := IntWalk.i64_in _ (by omega)
  have w3 : IntKind.i64.wrap (h + t + 12) = h + t + 12 := IntWalk.i64_in _ (by omega)
  obtain ⟨s, hs⟩ : ∃ s, (h + t + 12).tmod 12 = s := ⟨_, rfl⟩
  have w4 : IntKind.i64.wrap s = s := IntWalk.i64_in _ (by rw [← hs, Int.tmod_eq_emod_of_nonneg (by omega)]; omega)
  rw [hs] at HR
  go_enter Try.func34, Try.ntmps34
  go_wp2_with fail
  go_ret
  exact ⟨by rw [HR.out]; rfl, rfl⟩
end Go.Proofs.Ytfhidmlceemhaaa
