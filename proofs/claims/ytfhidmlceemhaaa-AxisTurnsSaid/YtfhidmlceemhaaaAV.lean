/- The first steps of the laws of axes: awake, few. -/
import Derived.Test.YtfhidmlceemhaaaAU
namespace Go.Proofs.Ytfhidmlceemhaaa
open Go Go.RowKit Go.Lib
open AM
theorem lit3_is (w : World) (a b c : Int) : IS (w.alloc (.cells #[.int .i64 a, .int .i64 b, .int .i64 c] 3)) (some ⟨w.heap.size, 0, none⟩) 3 [a, b, c] :=
  ⟨rfl, fun _ => ⟨w.heap.size, 0, rfl, by simp, fun j x hx => by
    rw [Nat.zero_add, (Box.new w _ _).at_ j]
    match j with
    | 0 => simp at hx; subst hx; rfl
    | 1 => simp at hx; subst hx; rfl
    | 2 => simp at hx; subst hx; rfl
    | j + 3 => simp at hx⟩⟩
theorem arc_ex : ArcP [11, 0, 2] 11 4 := by
  have h1 : ∀ m, m < 4 → ∀ j, j < 12 → 1 ≤ m → insX [11, 0, 2] ((j : Nat) : Int) ((m : Nat) : Int) ≠ 3 := by decide +kernel
  have h2 : ∀ j, j < 11 → insX [11, 0, 2] ((j : Nat) : Int) ((4 : Nat) : Int) ≠ 3 := by decide +kernel
  exact ⟨by decide, by decide, by decide, by decide +kernel, fun h => absurd h (by decide), fun _ j hj => h2 j hj, fun m j hm1 hm hj => h1 m hm j hj hm1⟩
theorem med_ex : MedP [11, 0, 2] 0 3 := by
  have h1 : ∀ j, j < 12 → 3 ≤ sdX [11, 0, 2] j := by decide +kernel
  exact ⟨by decide, by decide +kernel, fun j hj => ⟨h1 j hj, fun h => absurd h (by omega)⟩⟩
set_option maxHeartbeats 4000000 in
theorem awake_yes (w : World) : Calls Try.prog 12 #[] w fun e w' => e = .returned (.bool true) ∧ Below w.heap.size w w' := by
  have E0 := hide (show chkSX [11, 0, 2] = 0 from by decide +kernel)
  go_enter Try.func12, Try.ntmps12
  have F := lit3_is w 11 0 2
  have B := (Below.refl w.heap.size w).alloc (Nat.le_refl _) (.cells #[.int .i64 11, .int .i64 0, .int .i64 2] 3)
  go_wp2_with fail
  generalize w.alloc _ = W at *
  refine (arc_any _ 3 3 [11, 0, 2] _ F).mono ?_
  rintro e w1 ⟨h, k, rfl, hp, -, hb⟩
  rw [E0.out]
  obtain ⟨rfl, rfl⟩ := (hp E0.out).uniq arc_ex
  have B1 := hide (nxt B hb)
  clear hb B F hp
  have F1 := lit3_is w1 11 0 2
  have B2 := (Below.refl w1.heap.size w1).alloc (Nat.le_refl _) (.cells #[.int .i64 11, .int .i64 0, .int .i64 2] 3)
  go_wp2_with fail
  generalize w1.alloc _ = W1 at *
  refine (median_any _ 3 3 [11, 0, 2] _ F1).mono ?_
  rintro e w2 ⟨h, k, rfl, hp, -, hb⟩
  rw [E0.out]
  obtain ⟨rfl, rfl⟩ := (hp E0.out).uniq med_ex
  have B3 := hide (nxt B1.out (nxt B2 hb))
  clear hb B2 B1 F1 hp
  go_wp2_with fail
  refine (dist_any 11 1 2 (by decide +kernel) _).mono ?_
  rintro e w3 ⟨rfl, rfl⟩
  go_wp2_with fail
  go_ret
  exact ⟨rfl, B3.out⟩
set_option maxHeartbeats 1000000 in
theorem few_any (A : Option Addr) (n c : Nat) (w : World) (v : Bool) (hv : decide (n ≤ 80) = v) :
    Calls Try.prog 16 #[.slice A n c] w fun e w' => e = .returned (.bool v) ∧ w = w' := by
  have d : decide ((n : Int) ≤ 80) = v := by rw [← hv]; exact decide_eq_decide.2 (by omega)
  have HV := hide hv
  clear hv
  go_enter Try.func16, Try.ntmps16
  go_wp2_with fail
  go_ret
  exact ⟨rfl, rfl⟩
end Go.Proofs.Ytfhidmlceemhaaa
