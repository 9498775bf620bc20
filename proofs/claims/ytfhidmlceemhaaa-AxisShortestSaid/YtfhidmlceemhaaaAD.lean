/- Distances, the program's and the reference's. -/
import Derived.Test.YtfhidmlceemhaaaAB
namespace Go.Proofs.Ytfhidmlceemhaaa
open Go Go.RowKit Go.Lib
open AM
set_option maxHeartbeats 1000000 in
theorem dist_any (a b : Int) (r : Int) (hr : dsX a b = r) (w : World) :
    Calls Try.prog 13 #[.int .i64 a, .int .i64 b] w fun e w' => e = .returned (.int .i64 r) ∧ w = w' := by
  by_cases h1 : 0 ≤ a ∧ a < 12
  · by_cases h2 : 0 ≤ b ∧ b < 12
    · have e1 := hide (hrX_iff.2 h1)
      have e2 := hide (hrX_iff.2 h2)
      rw [dsX_yes ⟨h1, h2⟩] at hr
      obtain ⟨a0, a1⟩ := h1
      obtain ⟨b0, b1⟩ := h2
      have HR := hide hr
      clear hr
      go_enter Try.func13, Try.ntmps13
      go_wp2_with fail
      refine (hour_any a _ true e1.out).mono ?_
      rintro e w1 ⟨rfl, rfl⟩
      go_wp2_with fail
      refine (hour_any b _ true e2.out).mono ?_
      rintro e w1 ⟨rfl, rfl⟩
      go_wp2_with fail
      go_ret
      exact ⟨by rw [HR.out]; rfl, rfl⟩
    · have e1 := hide (hrX_iff.2 h1)
      have e2 := hide (hrX_not.2 h2)
      rw [dsX_no fun h => h2 h.2] at hr
      subst hr
      clear h1 h2
      go_enter Try.func13, Try.ntmps13
      go_wp2_with fail
      refine (hour_any a _ true e1.out).mono ?_
      rintro e w1 ⟨rfl, rfl⟩
      go_wp2_with fail
      refine (hour_any b _ false e2.out).mono ?_
      rintro e w1 ⟨rfl, rfl⟩
      go_wp2_with fail
      go_ret
      exact ⟨rfl, rfl⟩
  · have e1 := hide (hrX_not.2 h1)
    rw [dsX_no fun h => h1 h.1] at hr
    subst hr
    clear h1
    go_enter Try.func13, Try.ntmps13
    go_wp2_with fail
    refine (hour_any a _ false e1.out).mono ?_
    rintro e w1 ⟨rfl, rfl⟩
    go_wp2_with fail
    go_ret
    exact ⟨rfl, rfl⟩
theorem in11 {a : Int} (h : 0 ≤ a ∧ a < 12) : decide ((0 : Int) ≤ a ∧ a ≤ 11) = true := decide_eq_true (by omega)
theorem in11_not {a : Int} (h : ¬ (0 ≤ a ∧ a < 12)) : decide ((0 : Int) ≤ a ∧ a ≤ 11) = false := decide_eq_false (by omega)
set_option maxHeartbeats 1000000 in
theorem rdist_any (a b : Int) (r : Int) (hr : dsX a b = r) (w : World) :
    Calls Try.prog 14 #[.int .i64 a, .int .i64 b] w fun e w' => e = .returned (.int .i64 r) ∧ w = w' := by
  by_cases h1 : 0 ≤ a ∧ a < 12
  · by_cases h2 : 0 ≤ b ∧ b < 12
    · have e1 := hide (in11 h1)
      have e2 := hide (in11 h2)
      rw [dsX_mod ⟨h1, h2⟩] at hr
      obtain ⟨a0, a1⟩ := h1
      obtain ⟨b0, b1⟩ := h2
      obtain ⟨m, hm⟩ : ∃ m, (a - b) % 12 = m := ⟨_, rfl⟩
      have HM := hide hm
      rw [hm] at hr
      have m0 : 0 ≤ m := by omega
      have m1 : m < 12 := by omega
      have HR := hide hr
      clear hr hm
      go_enter Try.func14, Try.ntmps14
      go_wp2_with fail
      refine (in_any a 0 11 _ true e1.out).mono ?_
      rintro e w1 ⟨rfl, rfl⟩
      go_wp2_with fail
      refine (in_any b 0 11 _ true e2.out).mono ?_
      rintro e w1 ⟨rfl, rfl⟩
      go_wp2_with fail
      refine (mod_any (a - b) 12 (by decide) (by decide) m HM.out _).mono ?_
      rintro e w1 ⟨rfl, rfl⟩
      go_wp2_with fail
      go_ret
      exact ⟨by rw [HR.out]; rfl, rfl⟩
    · have e1 := hide (in11 h1)
      have e2 := hide (in11_not h2)
      rw [dsX_no fun h => h2 h.2] at hr
      subst hr
      clear h1 h2
      go_enter Try.func14, Try.ntmps14
      go_wp2_with fail
      refine (in_any a 0 11 _ true e1.out).mono ?_
      rintro e w1 ⟨rfl, rfl⟩
      go_wp2_with fail
      refine (in_any b 0 11 _ false e2.out).mono ?_
      rintro e w1 ⟨rfl, rfl⟩
      go_wp2_with fail
      go_ret
      exact ⟨rfl, rfl⟩
  · have e1 := hide (in11_not h1)
    rw [dsX_no fun h => h1 h.1] at hr
    subst hr
    clear h1
    go_enter Try.func14, Try.ntmps14
    go_wp2_with fail
    refine (in_any a 0 11 _ false e1.out).mono ?_
    rintro e w1 ⟨rfl, rfl⟩
    go_wp2_with fail
    go_ret
    exact ⟨rfl, rfl⟩
end Go.Proofs.Ytfhidmlceemhaaa
