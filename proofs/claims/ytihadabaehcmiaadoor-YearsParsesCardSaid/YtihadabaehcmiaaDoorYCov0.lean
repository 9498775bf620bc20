/- years.Cover where it has no years to cover, or an error. -/
import Derived.Test.YtihadabaehcmiaaDoorYCover
namespace Go.Proofs.YtihadabaehcmiaaDoor
open Go Go.RowKit Go.Lib

set_option maxHeartbeats 1000000 in
theorem contains_zero (A : Option Addr) (c : Nat) (w : World) :
    Calls Tryd.prog 43 #[.slice A 0 c, .func (.func 44) #[] #[]] w fun e w' => e = .returned (.bool false) ∧ w = w' := by
  have h : Calls Tryd.prog 56 #[.slice A 0 c, .func (.func 44) #[] #[]] w fun e w' => e = .returned (.int .i64 (-1)) ∧ w = w' := by
    go_enter Tryd.func56, Tryd.ntmps56
    go_wp2_with fail
    refine wp_loop_rounds 1 ?_
    rw [rounds_succ]
    go_wp2_with fail
    go_ret
    exact ⟨rfl, rfl⟩
  have H := hide h
  clear h
  go_enter Tryd.func43, Tryd.ntmps43
  go_wp2_with fail
  refine H.out.mono ?_
  rintro e w' ⟨rfl, rfl⟩
  go_wp2
  go_ret
  exact ⟨rfl, rfl⟩
set_option maxHeartbeats 1000000 in
theorem sort_zero (A : Option Addr) (c : Nat) (w : World) :
    Calls Tryd.prog 46 #[.slice A 0 c, .func (.func 47) #[] #[]] w fun e w' => e = .returned (.tuple #[]) ∧ w = w' := by
  have h0 : ∀ (W : World), Calls Tryd.prog 65 #[.slice A 0 c, .int .i64 0, .int .i64 0, .func (.func 47) #[] #[]] W fun e w' => e = .returned (.tuple #[]) ∧ W = w' := by
    intro W
    go_enter Tryd.func65, Tryd.ntmps65
    go_wp2_with fail
    refine wp_loop_rounds 1 ?_
    rw [rounds_succ]
    go_wp2_with fail
    go_end0
    exact ⟨rfl, rfl⟩
  have H0 := hide h0
  clear h0
  have h1 : ∀ (W : World) (l : Int), Calls Tryd.prog 57 #[.slice A 0 c, .int .i64 0, .int .i64 0, .int .i64 l, .func (.func 47) #[] #[]] W fun e w' => e = .returned (.tuple #[]) ∧ W = w' := by
    intro W l
    go_enter Tryd.func57, Tryd.ntmps57
    go_wp2_with fail
    refine wp_loop_rounds 1 ?_
    rw [rounds_succ]
    go_wp2_with fail
    refine (H0.out _).mono ?_
    rintro e w' ⟨rfl, rfl⟩
    go_wp2_with fail
    exact bodyPost_ret (v := .tuple #[]) (by simp [results, Tryd.results57, go_sem]) rfl ⟨rfl, rfl⟩
  have H1 := hide h1
  clear h1
  have h2 := Tryd.bits_Len 0 w (by omega) (by omega)
  have H2 := hide h2
  clear h2
  go_enter Tryd.func46, Tryd.ntmps46
  go_wp2_with fail
  refine H2.out.mono ?_
  rintro e w' ⟨rfl, rfl⟩
  go_wp2_with fail
  refine (H1.out _ _).mono ?_
  rintro e w' ⟨rfl, rfl⟩
  go_wp2_with fail
  go_end0
  exact ⟨rfl, rfl⟩
set_option maxHeartbeats 1000000 in
set_option maxRecDepth 100000 in
theorem clone_zero (A : Option Addr) (c : Nat) (w : World) :
    Calls Tryd.prog 45 #[.slice A 0 c] w fun e w' => ∃ X d, e = .returned (.slice X 0 d) ∧ Below w.heap.size w w' := by
  cases A with
  | none =>
    refine Calls.mono (AnyE.slices_Clone_nil Tryd.cloneY 0 c w) ?_
    rintro e w' ⟨rfl, rfl⟩
    exact ⟨_, _, rfl, Below.refl _ _⟩
  | some a =>
    have q := fun (w : World) (a : Option Addr) (n c n' c' : Nat) => Lib.run_eql_slice_nil (P := Tryd.prog) w _ _ a n c n' c' Tryd.underlying42
    go_enter Tryd.func45, Tryd.ntmps45
    go_wp2_with fail
    go_ret
    exact ⟨_, _, rfl, (Below.refl _ _).alloc (Nat.le_refl _) _⟩
set_option maxHeartbeats 1000000 in
theorem cover_full (A : Option Addr) (n c : Nat) (w : World) (hm : 64 < n) (hn : n ≤ maxLen) :
    Calls Tryd.prog 29 #[.slice A n c] w fun e w' => e = .returned (.tuple #[.slice none 0 0, .int .i64 6]) ∧ w = w' := by
  unfold maxLen at hn
  have d64 : decide ((64 : Int) < (n : Int)) = true := decide_eq_true (by omega)
  go_enter Tryd.func29, Tryd.ntmps29
  go_wp2_with fail
  go_ret2
  exact ⟨rfl, rfl⟩
set_option maxHeartbeats 1000000 in
theorem cover_bad (A : Option Addr) (n c : Nat) (ys : List (Int × Int)) (w : World) (hr : YL w A n ys) (hm : n ≤ 64) (hv : badY ys = true) :
    Calls Tryd.prog 29 #[.slice A n c] w fun e w' => e = .returned (.tuple #[.slice none 0 0, .int .i64 1]) ∧ Below w.heap.size w w' := by
  have hn : 0 < n := by
    rcases Nat.eq_zero_or_pos n with h | h
    · have := hr.1
      rw [h] at this
      rw [List.length_eq_zero_iff.1 this] at hv
      exact absurd hv (by decide)
    · exact h
  have d64 : decide ((64 : Int) < (n : Int)) = false := decide_eq_false (by omega)
  have HV := hide hv
  clear hv
  go_enter Tryd.func29, Tryd.ntmps29
  go_wp2_with fail
  refine (contains_v A n c ys _ hr hn (by unfold maxLen; omega) true HV.out).mono ?_
  rintro e w1 ⟨rfl, hb1⟩
  go_wp2_with fail
  go_ret2
  exact ⟨rfl, hb1⟩
set_option maxHeartbeats 1000000 in
theorem cover_zero (A : Option Addr) (c : Nat) (w : World) :
    Calls Tryd.prog 29 #[.slice A 0 c] w fun e w' => ∃ v', e = .returned (.tuple #[v', .int .i64 0]) ∧ OwnY w' w.heap.size v' [] ∧ Below w.heap.size w w' := by
  go_enter Tryd.func29, Tryd.ntmps29
  go_wp2_with fail
  refine (contains_zero A c _).mono ?_
  rintro e w1 ⟨rfl, rfl⟩
  go_wp2_with fail
  refine (clone_zero A c _).mono ?_
  rintro e w2 ⟨X, d, rfl, hb⟩
  go_wp2_with fail
  refine (sort_zero X d _).mono ?_
  rintro e w3 ⟨rfl, rfl⟩
  obtain ⟨i0, hi, hz0, hz1, hz2⟩ := info_parts infoY
  have Hz0 := hide hz0
  have Hz1 := hide hz1
  have Hz2 := hide hz2
  have Hi := hide hi
  clear hz0 hz1 hz2 hi
  go_wp2_with (at_make; refine wpList_make_own _ rfl _ _ 42 rfl w2.heap.size 23 i0 _ 2 Tryd.underlying42 Hi.out Hz0.out Hz1.out .i64 .i64 _ 0 rfl rfl rfl (by rw [Hz2.out]; omega) (by unfold maxLen; omega) (Nat.le_refl _) ?_; intro w4 ho4 hg4)
  refine wp_loop_rounds 1 ?_
  rw [rounds_succ]
  go_wp2_with fail
  go_ret2
  exact ⟨_, rfl, own_base ho4 hb.size, hb.trans ⟨hg4.os, hg4.tape, hg4.output, hg4.size, fun k hk => hg4.block k (Nat.lt_of_lt_of_le hk hb.size) (by simp)⟩⟩
end Go.Proofs.YtihadabaehcmiaaDoor
