/- Validity of specimens and dies, the reference's. -/
import Derived.Test.YtaapcfflnklpjaaGreatDoorSA
namespace Go.Proofs.YtaapcfflnklpjaaGreatDoor
open Go Go.RowKit Go.Lib
set_option maxHeartbeats 1000000 in
theorem id_any (n : Int) (w : World) (v : Bool) (hv : decide (1 ≤ n ∧ n ≤ 9999) = v) :
    Calls Tryz.prog 76 #[.int .i64 n] w fun e w' => e = .returned (.bool v) ∧ w = w' := by
  go_enter Tryz.func76, Tryz.ntmps76
  go_wp2_with fail
  refine (in_any n 1 9999 _ v hv).mono ?_
  rintro e w1 ⟨rfl, rfl⟩
  go_wp2
  go_ret
  exact ⟨rfl, rfl⟩
set_option maxHeartbeats 2000000 in
theorem rsp_0f (x : Spc) (w : World) (h0 : decide (1 ≤ x.o ∧ x.o ≤ 999) = false) (h1 : decide (1 ≤ x.i ∧ x.i ≤ 9999) = false) :
    Calls Tryz.prog 44 #[.agg #[.int .i64 x.i, .int .i64 x.o, .int .i64 x.r, .int .i64 x.a, .int .i64 x.b, .int .i64 x.h, .int .i64 x.m]] w fun e w' => e = .returned (.bool false) ∧ Below w.heap.size w w' := by
  have H0 := hide h0
  clear h0
  have H1 := hide h1
  clear h1
  go_enter Tryz.func44, Tryz.ntmps44
  go_wp2_with fail
  (with_reducible refine (num_any x.o _ false H0.out).mono ?_)
  rintro e w1 ⟨rfl, rfl⟩
  go_wp2_with fail
  (with_reducible refine (id_any x.i _ false H1.out).mono ?_)
  rintro e w1 ⟨rfl, rfl⟩
  go_wp2_with fail
  go_ret
  exact ⟨rfl, (Below.refl _ _).alloc (Nat.le_refl _) _⟩
set_option maxHeartbeats 2000000 in
theorem rsp_0t (x : Spc) (w : World) (h0 : decide (1 ≤ x.o ∧ x.o ≤ 999) = false) (h1 : decide (1 ≤ x.i ∧ x.i ≤ 9999) = true) :
    Calls Tryz.prog 44 #[.agg #[.int .i64 x.i, .int .i64 x.o, .int .i64 x.r, .int .i64 x.a, .int .i64 x.b, .int .i64 x.h, .int .i64 x.m]] w fun e w' => e = .returned (.bool false) ∧ Below w.heap.size w w' := by
  have H0 := hide h0
  clear h0
  have H1 := hide h1
  clear h1
  go_enter Tryz.func44, Tryz.ntmps44
  go_wp2_with fail
  (with_reducible refine (num_any x.o _ false H0.out).mono ?_)
  rintro e w1 ⟨rfl, rfl⟩
  go_wp2_with fail
  (with_reducible refine (id_any x.i _ true H1.out).mono ?_)
  rintro e w1 ⟨rfl, rfl⟩
  go_wp2_with fail
  go_ret
  exact ⟨rfl, (Below.refl _ _).alloc (Nat.le_refl _) _⟩
set_option maxHeartbeats 2000000 in
theorem rsp_1f (x : Spc) (w : World) (h0 : decide (1 ≤ x.o ∧ x.o ≤ 999) = true) (h1 : decide (1 ≤ x.r ∧ x.r ≤ 999) = false) (h2 : decide (1 ≤ x.i ∧ x.i ≤ 9999) = false) :
    Calls Tryz.prog 44 #[.agg #[.int .i64 x.i, .int .i64 x.o, .int .i64 x.r, .int .i64 x.a, .int .i64 x.b, .int .i64 x.h, .int .i64 x.m]] w fun e w' => e = .returned (.bool false) ∧ Below w.heap.size w w' := by
  have H0 := hide h0
  clear h0
  have H1 := hide h1
  clear h1
  have H2 := hide h2
  clear h2
  go_enter Tryz.func44, Tryz.ntmps44
  go_wp2_with fail
  (with_reducible refine (num_any x.o _ true H0.out).mono ?_)
  rintro e w1 ⟨rfl, rfl⟩
  go_wp2_with fail
  (with_reducible refine (num_any x.r _ false H1.out).mono ?_)
  rintro e w1 ⟨rfl, rfl⟩
  go_wp2_with fail
  (with_reducible refine (id_any x.i _ false H2.out).mono ?_)
  rintro e w1 ⟨rfl, rfl⟩
  go_wp2_with fail
  go_ret
  exact ⟨rfl, (Below.refl _ _).alloc (Nat.le_refl _) _⟩
set_option maxHeartbeats 2000000 in
theorem rsp_1t (x : Spc) (w : World) (h0 : decide (1 ≤ x.o ∧ x.o ≤ 999) = true) (h1 : decide (1 ≤ x.r ∧ x.r ≤ 999) = false) (h2 : decide (1 ≤ x.i ∧ x.i ≤ 9999) = true) :
    Calls Tryz.prog 44 #[.agg #[.int .i64 x.i, .int .i64 x.o, .int .i64 x.r, .int .i64 x.a, .int .i64 x.b, .int .i64 x.h, .int .i64 x.m]] w fun e w' => e = .returned (.bool false) ∧ Below w.heap.size w w' := by
  have H0 := hide h0
  clear h0
  have H1 := hide h1
  clear h1
  have H2 := hide h2
  clear h2
  go_enter Tryz.func44, Tryz.ntmps44
  go_wp2_with fail
  (with_reducible refine (num_any x.o _ true H0.out).mono ?_)
  rintro e w1 ⟨rfl, rfl⟩
  go_wp2_with fail
  (with_reducible refine (num_any x.r _ false H1.out).mono ?_)
  rintro e w1 ⟨rfl, rfl⟩
  go_wp2_with fail
  (with_reducible refine (id_any x.i _ true H2.out).mono ?_)
  rintro e w1 ⟨rfl, rfl⟩
  go_wp2_with fail
  go_ret
  exact ⟨rfl, (Below.refl _ _).alloc (Nat.le_refl _) _⟩
set_option maxHeartbeats 2000000 in
theorem rsp_2f (x : Spc) (w : World) (h0 : decide (1 ≤ x.o ∧ x.o ≤ 999) = true) (h1 : decide (1 ≤ x.r ∧ x.r ≤ 999) = true) (h2 : decide (1 ≤ x.a ∧ x.a ≤ 9) = false) (h3 : decide (1 ≤ x.i ∧ x.i ≤ 9999) = false) :
    Calls Tryz.prog 44 #[.agg #[.int .i64 x.i, .int .i64 x.o, .int .i64 x.r, .int .i64 x.a, .int .i64 x.b, .int .i64 x.h, .int .i64 x.m]] w fun e w' => e = .returned (.bool false) ∧ Below w.heap.size w w' := by
  have H0 := hide h0
  clear h0
  have H1 := hide h1
  clear h1
  have H2 := hide h2
  clear h2
  have H3 := hide h3
  clear h3
  go_enter Tryz.func44, Tryz.ntmps44
  go_wp2_with fail
  (with_reducible refine (num_any x.o _ true H0.out).mono ?_)
  rintro e w1 ⟨rfl, rfl⟩
  go_wp2_with fail
  (with_reducible refine (num_any x.r _ true H1.out).mono ?_)
  rintro e w1 ⟨rfl, rfl⟩
  go_wp2_with fail
  (with_reducible refine (in_any x.a 1 9 _ false H2.out).mono ?_)
  rintro e w1 ⟨rfl, rfl⟩
  go_wp2_with fail
  (with_reducible refine (id_any x.i _ false H3.out).mono ?_)
  rintro e w1 ⟨rfl, rfl⟩
  go_wp2_with fail
  go_ret
  exact ⟨rfl, (Below.refl _ _).alloc (Nat.le_refl _) _⟩
set_option maxHeartbeats 2000000 in
theorem rsp_2t (x : Spc) (w : World) (h0 : decide (1 ≤ x.o ∧ x.o ≤ 999) = true) (h1 : decide (1 ≤ x.r ∧ x.r ≤ 999) = true) (h2 : decide (1 ≤ x.a ∧ x.a ≤ 9) = false) (h3 : decide (1 ≤ x.i ∧ x.i ≤ 9999) = true) :
    Calls Tryz.prog 44 #[.agg #[.int .i64 x.i, .int .i64 x.o, .int .i64 x.r, .int .i64 x.a, .int .i64 x.b, .int .i64 x.h, .int .i64 x.m]] w fun e w' => e = .returned (.bool false) ∧ Below w.heap.size w w' := by
  have H0 := hide h0
  clear h0
  have H1 := hide h1
  clear h1
  have H2 := hide h2
  clear h2
  have H3 := hide h3
  clear h3
  go_enter Tryz.func44, Tryz.ntmps44
  go_wp2_with fail
  (with_reducible refine (num_any x.o _ true H0.out).mono ?_)
  rintro e w1 ⟨rfl, rfl⟩
  go_wp2_with fail
  (with_reducible refine (num_any x.r _ true H1.out).mono ?_)
  rintro e w1 ⟨rfl, rfl⟩
  go_wp2_with fail
  (with_reducible refine (in_any x.a 1 9 _ false H2.out).mono ?_)
  rintro e w1 ⟨rfl, rfl⟩
  go_wp2_with fail
  (with_reducible refine (id_any x.i _ true H3.out).mono ?_)
  rintro e w1 ⟨rfl, rfl⟩
  go_wp2_with fail
  go_ret
  exact ⟨rfl, (Below.refl _ _).alloc (Nat.le_refl _) _⟩
set_option maxHeartbeats 2000000 in
theorem rsp_3f (x : Spc) (w : World) (h0 : decide (1 ≤ x.o ∧ x.o ≤ 999) = true) (h1 : decide (1 ≤ x.r ∧ x.r ≤ 999) = true) (h2 : decide (1 ≤ x.a ∧ x.a ≤ 9) = true) (h3 : decide (1 ≤ x.b ∧ x.b ≤ 9) = false) (h4 : decide (1 ≤ x.i ∧ x.i ≤ 9999) = false) :
    Calls Tryz.prog 44 #[.agg #[.int .i64 x.i, .int .i64 x.o, .int .i64 x.r, .int .i64 x.a, .int .i64 x.b, .int .i64 x.h, .int .i64 x.m]] w fun e w' => e = .returned (.bool false) ∧ Below w.heap.size w w' := by
  have H0 := hide h0
  clear h0
  have H1 := hide h1
  clear h1
  have H2 := hide h2
  clear h2
  have H3 := hide h3
  clear h3
  have H4 := hide h4
  clear h4
  go_enter Tryz.func44, Tryz.ntmps44
  go_wp2_with fail
  (with_reducible refine (num_any x.o _ true H0.out).mono ?_)
  rintro e w1 ⟨rfl, rfl⟩
  go_wp2_with fail
  (with_reducible refine (num_any x.r _ true H1.out).mono ?_)
  rintro e w1 ⟨rfl, rfl⟩
  go_wp2_with fail
  (with_reducible refine (in_any x.a 1 9 _ true H2.out).mono ?_)
  rintro e w1 ⟨rfl, rfl⟩
  go_wp2_with fail
  (with_reducible refine (in_any x.b 1 9 _ false H3.out).mono ?_)
  rintro e w1 ⟨rfl, rfl⟩
  go_wp2_with fail
  (with_reducible refine (id_any x.i _ false H4.out).mono ?_)
  rintro e w1 ⟨rfl, rfl⟩
  go_wp2_with fail
  go_ret
  exact ⟨rfl, (Below.refl _ _).alloc (Nat.le_refl _) _⟩
set_option maxHeartbeats 2000000 in
theorem rsp_3t (x : Spc) (w : World) (h0 : decide (1 ≤ x.o ∧ x.o ≤ 999) = true) (h1 : decide (1 ≤ x.r ∧ x.r ≤ 999) = true) (h2 : decide (1 ≤ x.a ∧ x.a ≤ 9) = true) (h3 : decide (1 ≤ x.b ∧ x.b ≤ 9) = false) (h4 : decide (1 ≤ x.i ∧ x.i ≤ 9999) = true) :
    Calls Tryz.prog 44 #[.agg #[.int .i64 x.i, .int .i64 x.o, .int .i64 x.r, .int .i64 x.a, .int .i64 x.b, .int .i64 x.h, .int .i64 x.m]] w fun e w' => e = .returned (.bool false) ∧ Below w.heap.size w w' := by
  have H0 := hide h0
  clear h0
  have H1 := hide h1
  clear h1
  have H2 := hide h2
  clear h2
  have H3 := hide h3
  clear h3
  have H4 := hide h4
  clear h4
  go_enter Tryz.func44, Tryz.ntmps44
  go_wp2_with fail
  (with_reducible refine (num_any x.o _ true H0.out).mono ?_)
  rintro e w1 ⟨rfl, rfl⟩
  go_wp2_with fail
  (with_reducible refine (num_any x.r _ true H1.out).mono ?_)
  rintro e w1 ⟨rfl, rfl⟩
  go_wp2_with fail
  (with_reducible refine (in_any x.a 1 9 _ true H2.out).mono ?_)
  rintro e w1 ⟨rfl, rfl⟩
  go_wp2_with fail
  (with_reducible refine (in_any x.b 1 9 _ false H3.out).mono ?_)
  rintro e w1 ⟨rfl, rfl⟩
  go_wp2_with fail
  (with_reducible refine (id_any x.i _ true H4.out).mono ?_)
  rintro e w1 ⟨rfl, rfl⟩
  go_wp2_with fail
  go_ret
  exact ⟨rfl, (Below.refl _ _).alloc (Nat.le_refl _) _⟩
set_option maxHeartbeats 2000000 in
theorem rsp_40 (x : Spc) (w : World) (h0 : decide (1 ≤ x.o ∧ x.o ≤ 999) = true) (h1 : decide (1 ≤ x.r ∧ x.r ≤ 999) = true) (h2 : decide (1 ≤ x.a ∧ x.a ≤ 9) = true) (h3 : decide (1 ≤ x.b ∧ x.b ≤ 9) = true) (h4 : decide (1 ≤ x.i ∧ x.i ≤ 9999) = false) :
    Calls Tryz.prog 44 #[.agg #[.int .i64 x.i, .int .i64 x.o, .int .i64 x.r, .int .i64 x.a, .int .i64 x.b, .int .i64 x.h, .int .i64 x.m]] w fun e w' => e = .returned (.bool false) ∧ Below w.heap.size w w' := by
  have H0 := hide h0
  clear h0
  have H1 := hide h1
  clear h1
  have H2 := hide h2
  clear h2
  have H3 := hide h3
  clear h3
  have H4 := hide h4
  clear h4
  go_enter Tryz.func44, Tryz.ntmps44
  go_wp2_with fail
  (with_reducible refine (num_any x.o _ true H0.out).mono ?_)
  rintro e w1 ⟨rfl, rfl⟩
  go_wp2_with fail
  (with_reducible refine (num_any x.r _ true H1.out).mono ?_)
  rintro e w1 ⟨rfl, rfl⟩
  go_wp2_with fail
  (with_reducible refine (in_any x.a 1 9 _ true H2.out).mono ?_)
  rintro e w1 ⟨rfl, rfl⟩
  go_wp2_with fail
  (with_reducible refine (in_any x.b 1 9 _ true H3.out).mono ?_)
  rintro e w1 ⟨rfl, rfl⟩
  go_wp2_with fail
  (with_reducible refine (id_any x.i _ false H4.out).mono ?_)
  rintro e w1 ⟨rfl, rfl⟩
  go_wp2_with fail
  go_ret
  exact ⟨rfl, (Below.refl _ _).alloc (Nat.le_refl _) _⟩
set_option maxHeartbeats 2000000 in
theorem rsp_41 (x : Spc) (w : World) (h0 : decide (1 ≤ x.o ∧ x.o ≤ 999) = true) (h1 : decide (1 ≤ x.r ∧ x.r ≤ 999) = true) (h2 : decide (1 ≤ x.a ∧ x.a ≤ 9) = true) (h3 : decide (1 ≤ x.b ∧ x.b ≤ 9) = true) (h4 : decide (1 ≤ x.i ∧ x.i ≤ 9999) = true) (h5 : decide (0 ≤ x.h ∧ x.h ≤ 11) = false) :
    Calls Tryz.prog 44 #[.agg #[.int .i64 x.i, .int .i64 x.o, .int .i64 x.r, .int .i64 x.a, .int .i64 x.b, .int .i64 x.h, .int .i64 x.m]] w fun e w' => e = .returned (.bool false) ∧ Below w.heap.size w w' := by
  have H0 := hide h0
  clear h0
  have H1 := hide h1
  clear h1
  have H2 := hide h2
  clear h2
  have H3 := hide h3
  clear h3
  have H4 := hide h4
  clear h4
  have H5 := hide h5
  clear h5
  go_enter Tryz.func44, Tryz.ntmps44
  go_wp2_with fail
  (with_reducible refine (num_any x.o _ true H0.out).mono ?_)
  rintro e w1 ⟨rfl, rfl⟩
  go_wp2_with fail
  (with_reducible refine (num_any x.r _ true H1.out).mono ?_)
  rintro e w1 ⟨rfl, rfl⟩
  go_wp2_with fail
  (with_reducible refine (in_any x.a 1 9 _ true H2.out).mono ?_)
  rintro e w1 ⟨rfl, rfl⟩
  go_wp2_with fail
  (with_reducible refine (in_any x.b 1 9 _ true H3.out).mono ?_)
  rintro e w1 ⟨rfl, rfl⟩
  go_wp2_with fail
  (with_reducible refine (id_any x.i _ true H4.out).mono ?_)
  rintro e w1 ⟨rfl, rfl⟩
  go_wp2_with fail
  (with_reducible refine (in_any x.h 0 11 _ false H5.out).mono ?_)
  rintro e w1 ⟨rfl, rfl⟩
  go_wp2_with fail
  go_ret
  exact ⟨rfl, (Below.refl _ _).alloc (Nat.le_refl _) _⟩
set_option maxHeartbeats 2000000 in
theorem rsp_42 (x : Spc) (w : World) (h0 : decide (1 ≤ x.o ∧ x.o ≤ 999) = true) (h1 : decide (1 ≤ x.r ∧ x.r ≤ 999) = true) (h2 : decide (1 ≤ x.a ∧ x.a ≤ 9) = true) (h3 : decide (1 ≤ x.b ∧ x.b ≤ 9) = true) (h4 : decide (1 ≤ x.i ∧ x.i ≤ 9999) = true) (h5 : decide (0 ≤ x.h ∧ x.h ≤ 11) = true) (h6 : decide (1 ≤ x.m ∧ x.m ≤ 200000) = false) :
    Calls Tryz.prog 44 #[.agg #[.int .i64 x.i, .int .i64 x.o, .int .i64 x.r, .int .i64 x.a, .int .i64 x.b, .int .i64 x.h, .int .i64 x.m]] w fun e w' => e = .returned (.bool false) ∧ Below w.heap.size w w' := by
  have H0 := hide h0
  clear h0
  have H1 := hide h1
  clear h1
  have H2 := hide h2
  clear h2
  have H3 := hide h3
  clear h3
  have H4 := hide h4
  clear h4
  have H5 := hide h5
  clear h5
  have H6 := hide h6
  clear h6
  go_enter Tryz.func44, Tryz.ntmps44
  go_wp2_with fail
  (with_reducible refine (num_any x.o _ true H0.out).mono ?_)
  rintro e w1 ⟨rfl, rfl⟩
  go_wp2_with fail
  (with_reducible refine (num_any x.r _ true H1.out).mono ?_)
  rintro e w1 ⟨rfl, rfl⟩
  go_wp2_with fail
  (with_reducible refine (in_any x.a 1 9 _ true H2.out).mono ?_)
  rintro e w1 ⟨rfl, rfl⟩
  go_wp2_with fail
  (with_reducible refine (in_any x.b 1 9 _ true H3.out).mono ?_)
  rintro e w1 ⟨rfl, rfl⟩
  go_wp2_with fail
  (with_reducible refine (id_any x.i _ true H4.out).mono ?_)
  rintro e w1 ⟨rfl, rfl⟩
  go_wp2_with fail
  (with_reducible refine (in_any x.h 0 11 _ true H5.out).mono ?_)
  rintro e w1 ⟨rfl, rfl⟩
  go_wp2_with fail
  (with_reducible refine (in_any x.m 1 200000 _ false H6.out).mono ?_)
  rintro e w1 ⟨rfl, rfl⟩
  go_wp2_with fail
  go_ret
  exact ⟨rfl, (Below.refl _ _).alloc (Nat.le_refl _) _⟩
set_option maxHeartbeats 2000000 in
theorem rsp_43 (x : Spc) (w : World) (h0 : decide (1 ≤ x.o ∧ x.o ≤ 999) = true) (h1 : decide (1 ≤ x.r ∧ x.r ≤ 999) = true) (h2 : decide (1 ≤ x.a ∧ x.a ≤ 9) = true) (h3 : decide (1 ≤ x.b ∧ x.b ≤ 9) = true) (h4 : decide (1 ≤ x.i ∧ x.i ≤ 9999) = true) (h5 : decide (0 ≤ x.h ∧ x.h ≤ 11) = true) (h6 : decide (1 ≤ x.m ∧ x.m ≤ 200000) = true) :
    Calls Tryz.prog 44 #[.agg #[.int .i64 x.i, .int .i64 x.o, .int .i64 x.r, .int .i64 x.a, .int .i64 x.b, .int .i64 x.h, .int .i64 x.m]] w fun e w' => e = .returned (.bool true) ∧ Below w.heap.size w w' := by
  have H0 := hide h0
  clear h0
  have H1 := hide h1
  clear h1
  have H2 := hide h2
  clear h2
  have H3 := hide h3
  clear h3
  have H4 := hide h4
  clear h4
  have H5 := hide h5
  clear h5
  have H6 := hide h6
  clear h6
  go_enter Tryz.func44, Tryz.ntmps44
  go_wp2_with fail
  (with_reducible refine (num_any x.o _ true H0.out).mono ?_)
  rintro e w1 ⟨rfl, rfl⟩
  go_wp2_with fail
  (with_reducible refine (num_any x.r _ true H1.out).mono ?_)
  rintro e w1 ⟨rfl, rfl⟩
  go_wp2_with fail
  (with_reducible refine (in_any x.a 1 9 _ true H2.out).mono ?_)
  rintro e w1 ⟨rfl, rfl⟩
  go_wp2_with fail
  (with_reducible refine (in_any x.b 1 9 _ true H3.out).mono ?_)
  rintro e w1 ⟨rfl, rfl⟩
  go_wp2_with fail
  (with_reducible refine (id_any x.i _ true H4.out).mono ?_)
  rintro e w1 ⟨rfl, rfl⟩
  go_wp2_with fail
  (with_reducible refine (in_any x.h 0 11 _ true H5.out).mono ?_)
  rintro e w1 ⟨rfl, rfl⟩
  go_wp2_with fail
  (with_reducible refine (in_any x.m 1 200000 _ true H6.out).mono ?_)
  rintro e w1 ⟨rfl, rfl⟩
  go_wp2_with fail
  go_ret
  exact ⟨rfl, (Below.refl _ _).alloc (Nat.le_refl _) _⟩
theorem rsp_any (x : Spc) (w : World) (v : Bool) (hv : vS x = v) :
    Calls Tryz.prog 44 #[.agg #[.int .i64 x.i, .int .i64 x.o, .int .i64 x.r, .int .i64 x.a, .int .i64 x.b, .int .i64 x.h, .int .i64 x.m]] w fun e w' => e = .returned (.bool v) ∧ Below w.heap.size w w' := by
  subst hv
  rcases i : decide (1 ≤ x.i ∧ x.i ≤ 9999) with _ | _
  all_goals
    rcases a : decide (1 ≤ x.o ∧ x.o ≤ 999) with _ | _
    · rw [vS_no (by have := of_decide_eq_false a; omega)]
      first | exact rsp_0f x w a i | exact rsp_0t x w a i
    rcases b : decide (1 ≤ x.r ∧ x.r ≤ 999) with _ | _
    · rw [vS_no (by have := of_decide_eq_false b; omega)]
      first | exact rsp_1f x w a b i | exact rsp_1t x w a b i
    rcases c : decide (1 ≤ x.a ∧ x.a ≤ 9) with _ | _
    · rw [vS_no (by have := of_decide_eq_false c; omega)]
      first | exact rsp_2f x w a b c i | exact rsp_2t x w a b c i
    rcases d : decide (1 ≤ x.b ∧ x.b ≤ 9) with _ | _
    · rw [vS_no (by have := of_decide_eq_false d; omega)]
      first | exact rsp_3f x w a b c d i | exact rsp_3t x w a b c d i
  · rw [vS_no (by have := of_decide_eq_false i; omega)]
    exact rsp_40 x w a b c d i
  · rcases h : decide (0 ≤ x.h ∧ x.h ≤ 11) with _ | _
    · rw [vS_no (by have := of_decide_eq_false h; omega)]
      exact rsp_41 x w a b c d i h
    rcases m : decide (1 ≤ x.m ∧ x.m ≤ 200000) with _ | _
    · rw [vS_no (by have := of_decide_eq_false m; omega)]
      exact rsp_42 x w a b c d i h m
    rw [vS_true.2 ⟨of_decide_eq_true i, of_decide_eq_true a, of_decide_eq_true b, of_decide_eq_true c, of_decide_eq_true d, of_decide_eq_true h, of_decide_eq_true m⟩]
    exact rsp_43 x w a b c d i h m
set_option maxHeartbeats 1000000 in
theorem rvalid9_any (x : Spc) (w : World) (v : Bool) (hv : vS x = v) :
    Calls Tryz.prog 15 #[.agg #[.int .i64 x.i, .int .i64 x.o, .int .i64 x.r, .int .i64 x.a, .int .i64 x.b, .int .i64 x.h, .int .i64 x.m]] w fun e w' => e = .returned (.bool v) ∧ Below w.heap.size w w' := by
  have HV := hide hv
  clear hv
  go_enter Tryz.func15, Tryz.ntmps15
  go_wp2_with fail
  refine (rsp_any x _ v HV.out).mono ?_
  rintro e w1 ⟨rfl, E1⟩
  go_wp2_with fail
  go_ret
  exact ⟨rfl, nxt ((Below.refl _ _).alloc (Nat.le_refl _) _) E1⟩
/-- a die is valid -/
def dB (s n : Int) : Bool := decide ((s = 0 ∨ s = 1) ∧ 1 ≤ n ∧ n ≤ 999)
theorem dB_lab (s n : Int) : lB s n 0 = dB s n := by
  unfold lB dB
  exact decide_eq_decide.2 (by omega)
set_option maxHeartbeats 1000000 in
theorem rdie_f (s n : Int) (w : World) (h : decide (0 ≤ s ∧ s ≤ 1) = false) :
    Calls Tryz.prog 63 #[.agg #[.int .i64 s, .int .i64 n]] w fun e w' => e = .returned (.bool false) ∧ Below w.heap.size w w' := by
  have H := hide h
  clear h
  go_enter Tryz.func63, Tryz.ntmps63
  go_wp2_with fail
  refine (in_any s 0 1 _ false H.out).mono ?_
  rintro e w1 ⟨rfl, rfl⟩
  go_wp2_with fail
  go_ret
  exact ⟨rfl, (Below.refl _ _).alloc (Nat.le_refl _) _⟩
set_option maxHeartbeats 1000000 in
theorem rdie_t (s n : Int) (w : World) (h : decide (0 ≤ s ∧ s ≤ 1) = true) (v : Bool) (hv : decide (1 ≤ n ∧ n ≤ 999) = v) :
    Calls Tryz.prog 63 #[.agg #[.int .i64 s, .int .i64 n]] w fun e w' => e = .returned (.bool v) ∧ Below w.heap.size w w' := by
  have H := hide h
  clear h
  have HV := hide hv
  clear hv
  go_enter Tryz.func63, Tryz.ntmps63
  go_wp2_with fail
  refine (in_any s 0 1 _ true H.out).mono ?_
  rintro e w1 ⟨rfl, rfl⟩
  go_wp2_with fail
  refine (num_any n _ v HV.out).mono ?_
  rintro e w1 ⟨rfl, rfl⟩
  go_wp2_with fail
  go_ret
  exact ⟨rfl, (Below.refl _ _).alloc (Nat.le_refl _) _⟩
theorem rdie_any (s n : Int) (w : World) (v : Bool) (hv : dB s n = v) :
    Calls Tryz.prog 63 #[.agg #[.int .i64 s, .int .i64 n]] w fun e w' => e = .returned (.bool v) ∧ Below w.heap.size w w' := by
  subst hv
  rcases h : decide (0 ≤ s ∧ s ≤ 1) with _ | _
  · have : dB s n = false := by unfold dB; exact decide_eq_false (by have := of_decide_eq_false h; omega)
    rw [this]
    exact rdie_f s n w h
  · have : dB s n = decide (1 ≤ n ∧ n ≤ 999) := by unfold dB; exact decide_eq_decide.2 (by have := of_decide_eq_true h; omega)
    rw [this]
    exact rdie_t s n w h _ rfl
end Go.Proofs.YtaapcfflnklpjaaGreatDoor
