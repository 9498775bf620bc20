/- The reference's relation. -/
import Derived.Test.YtihadabaehcmiaaDoorYRel
namespace Go.Proofs.YtihadabaehcmiaaDoor
open Go Go.RowKit

set_option maxHeartbeats 1000000 in
theorem holds1 (a b c d : Int) (w : World) (h1 : -9999 ≤ a ∧ a ≤ b ∧ b ≤ 9999) (h2 : -9999 ≤ c ∧ c ≤ d ∧ d ≤ 9999)  :
    Calls Tryd.prog 42 #[.agg #[.int .i64 a, .int .i64 b], .agg #[.int .i64 c, .int .i64 d], .int .i64 1] w fun e w' => e = .returned (.bool (decide (b + 1 < c))) ∧ Below w.heap.size w w' := by
  obtain ⟨h1a, h1b, h1c⟩ := h1
  obtain ⟨h2a, h2b, h2c⟩ := h2
  go_enter Tryd.func42, Tryd.ntmps42
  go_wp2
  go_ret
  exact ⟨rfl, ((Below.refl _ _).alloc (Nat.le_refl _) _).alloc (by simp) _⟩
set_option maxHeartbeats 1000000 in
theorem holds2 (a b c d : Int) (w : World) (h1 : -9999 ≤ a ∧ a ≤ b ∧ b ≤ 9999) (h2 : -9999 ≤ c ∧ c ≤ d ∧ d ≤ 9999)  :
    Calls Tryd.prog 42 #[.agg #[.int .i64 a, .int .i64 b], .agg #[.int .i64 c, .int .i64 d], .int .i64 2] w fun e w' => e = .returned (.bool (b + 1 == c)) ∧ Below w.heap.size w w' := by
  obtain ⟨h1a, h1b, h1c⟩ := h1
  obtain ⟨h2a, h2b, h2c⟩ := h2
  go_enter Tryd.func42, Tryd.ntmps42
  go_wp2
  go_ret
  exact ⟨rfl, ((Below.refl _ _).alloc (Nat.le_refl _) _).alloc (by simp) _⟩
set_option maxHeartbeats 1000000 in
theorem holds3a (a b c d : Int) (w : World) (h1 : -9999 ≤ a ∧ a ≤ b ∧ b ≤ 9999) (h2 : -9999 ≤ c ∧ c ≤ d ∧ d ≤ 9999) (x : decide (a < c) = false) :
    Calls Tryd.prog 42 #[.agg #[.int .i64 a, .int .i64 b], .agg #[.int .i64 c, .int .i64 d], .int .i64 3] w fun e w' => e = .returned (.bool (false)) ∧ Below w.heap.size w w' := by
  obtain ⟨h1a, h1b, h1c⟩ := h1
  obtain ⟨h2a, h2b, h2c⟩ := h2
  go_enter Tryd.func42, Tryd.ntmps42
  go_wp2
  go_ret
  exact ⟨rfl, ((Below.refl _ _).alloc (Nat.le_refl _) _).alloc (by simp) _⟩
set_option maxHeartbeats 1000000 in
theorem holds3b (a b c d : Int) (w : World) (h1 : -9999 ≤ a ∧ a ≤ b ∧ b ≤ 9999) (h2 : -9999 ≤ c ∧ c ≤ d ∧ d ≤ 9999) (x : decide (a < c) = true) (y : decide (c ≤ b) = false) :
    Calls Tryd.prog 42 #[.agg #[.int .i64 a, .int .i64 b], .agg #[.int .i64 c, .int .i64 d], .int .i64 3] w fun e w' => e = .returned (.bool (false)) ∧ Below w.heap.size w w' := by
  obtain ⟨h1a, h1b, h1c⟩ := h1
  obtain ⟨h2a, h2b, h2c⟩ := h2
  go_enter Tryd.func42, Tryd.ntmps42
  go_wp2
  go_ret
  exact ⟨rfl, ((Below.refl _ _).alloc (Nat.le_refl _) _).alloc (by simp) _⟩
set_option maxHeartbeats 1000000 in
theorem holds3c (a b c d : Int) (w : World) (h1 : -9999 ≤ a ∧ a ≤ b ∧ b ≤ 9999) (h2 : -9999 ≤ c ∧ c ≤ d ∧ d ≤ 9999) (x : decide (a < c) = true) (y : decide (c ≤ b) = true) :
    Calls Tryd.prog 42 #[.agg #[.int .i64 a, .int .i64 b], .agg #[.int .i64 c, .int .i64 d], .int .i64 3] w fun e w' => e = .returned (.bool (decide (b < d))) ∧ Below w.heap.size w w' := by
  obtain ⟨h1a, h1b, h1c⟩ := h1
  obtain ⟨h2a, h2b, h2c⟩ := h2
  go_enter Tryd.func42, Tryd.ntmps42
  go_wp2
  go_ret
  exact ⟨rfl, ((Below.refl _ _).alloc (Nat.le_refl _) _).alloc (by simp) _⟩
set_option maxHeartbeats 1000000 in
theorem holds4a (a b c d : Int) (w : World) (h1 : -9999 ≤ a ∧ a ≤ b ∧ b ≤ 9999) (h2 : -9999 ≤ c ∧ c ≤ d ∧ d ≤ 9999) (x : (a == c) = false) :
    Calls Tryd.prog 42 #[.agg #[.int .i64 a, .int .i64 b], .agg #[.int .i64 c, .int .i64 d], .int .i64 4] w fun e w' => e = .returned (.bool (false)) ∧ Below w.heap.size w w' := by
  obtain ⟨h1a, h1b, h1c⟩ := h1
  obtain ⟨h2a, h2b, h2c⟩ := h2
  go_enter Tryd.func42, Tryd.ntmps42
  go_wp2
  go_ret
  exact ⟨rfl, ((Below.refl _ _).alloc (Nat.le_refl _) _).alloc (by simp) _⟩
set_option maxHeartbeats 1000000 in
theorem holds4b (a b c d : Int) (w : World) (h1 : -9999 ≤ a ∧ a ≤ b ∧ b ≤ 9999) (h2 : -9999 ≤ c ∧ c ≤ d ∧ d ≤ 9999) (x : (a == c) = true) :
    Calls Tryd.prog 42 #[.agg #[.int .i64 a, .int .i64 b], .agg #[.int .i64 c, .int .i64 d], .int .i64 4] w fun e w' => e = .returned (.bool (decide (b < d))) ∧ Below w.heap.size w w' := by
  obtain ⟨h1a, h1b, h1c⟩ := h1
  obtain ⟨h2a, h2b, h2c⟩ := h2
  go_enter Tryd.func42, Tryd.ntmps42
  go_wp2
  go_ret
  exact ⟨rfl, ((Below.refl _ _).alloc (Nat.le_refl _) _).alloc (by simp) _⟩
set_option maxHeartbeats 1000000 in
theorem holds5a (a b c d : Int) (w : World) (h1 : -9999 ≤ a ∧ a ≤ b ∧ b ≤ 9999) (h2 : -9999 ≤ c ∧ c ≤ d ∧ d ≤ 9999) (x : decide (c < a) = false) :
    Calls Tryd.prog 42 #[.agg #[.int .i64 a, .int .i64 b], .agg #[.int .i64 c, .int .i64 d], .int .i64 5] w fun e w' => e = .returned (.bool (false)) ∧ Below w.heap.size w w' := by
  obtain ⟨h1a, h1b, h1c⟩ := h1
  obtain ⟨h2a, h2b, h2c⟩ := h2
  go_enter Tryd.func42, Tryd.ntmps42
  go_wp2
  go_ret
  exact ⟨rfl, ((Below.refl _ _).alloc (Nat.le_refl _) _).alloc (by simp) _⟩
set_option maxHeartbeats 1000000 in
theorem holds5b (a b c d : Int) (w : World) (h1 : -9999 ≤ a ∧ a ≤ b ∧ b ≤ 9999) (h2 : -9999 ≤ c ∧ c ≤ d ∧ d ≤ 9999) (x : decide (c < a) = true) :
    Calls Tryd.prog 42 #[.agg #[.int .i64 a, .int .i64 b], .agg #[.int .i64 c, .int .i64 d], .int .i64 5] w fun e w' => e = .returned (.bool (decide (b < d))) ∧ Below w.heap.size w w' := by
  obtain ⟨h1a, h1b, h1c⟩ := h1
  obtain ⟨h2a, h2b, h2c⟩ := h2
  go_enter Tryd.func42, Tryd.ntmps42
  go_wp2
  go_ret
  exact ⟨rfl, ((Below.refl _ _).alloc (Nat.le_refl _) _).alloc (by simp) _⟩
set_option maxHeartbeats 1000000 in
theorem holds6a (a b c d : Int) (w : World) (h1 : -9999 ≤ a ∧ a ≤ b ∧ b ≤ 9999) (h2 : -9999 ≤ c ∧ c ≤ d ∧ d ≤ 9999) (x : decide (c < a) = false) :
    Calls Tryd.prog 42 #[.agg #[.int .i64 a, .int .i64 b], .agg #[.int .i64 c, .int .i64 d], .int .i64 6] w fun e w' => e = .returned (.bool (false)) ∧ Below w.heap.size w w' := by
  obtain ⟨h1a, h1b, h1c⟩ := h1
  obtain ⟨h2a, h2b, h2c⟩ := h2
  go_enter Tryd.func42, Tryd.ntmps42
  go_wp2
  go_ret
  exact ⟨rfl, ((Below.refl _ _).alloc (Nat.le_refl _) _).alloc (by simp) _⟩
set_option maxHeartbeats 1000000 in
theorem holds6b (a b c d : Int) (w : World) (h1 : -9999 ≤ a ∧ a ≤ b ∧ b ≤ 9999) (h2 : -9999 ≤ c ∧ c ≤ d ∧ d ≤ 9999) (x : decide (c < a) = true) :
    Calls Tryd.prog 42 #[.agg #[.int .i64 a, .int .i64 b], .agg #[.int .i64 c, .int .i64 d], .int .i64 6] w fun e w' => e = .returned (.bool (b == d)) ∧ Below w.heap.size w w' := by
  obtain ⟨h1a, h1b, h1c⟩ := h1
  obtain ⟨h2a, h2b, h2c⟩ := h2
  go_enter Tryd.func42, Tryd.ntmps42
  go_wp2
  go_ret
  exact ⟨rfl, ((Below.refl _ _).alloc (Nat.le_refl _) _).alloc (by simp) _⟩
set_option maxHeartbeats 1000000 in
theorem holds7a (a b c d : Int) (w : World) (h1 : -9999 ≤ a ∧ a ≤ b ∧ b ≤ 9999) (h2 : -9999 ≤ c ∧ c ≤ d ∧ d ≤ 9999) (x : (a == c) = true) (y : (b == d) = true) :
    Calls Tryd.prog 42 #[.agg #[.int .i64 a, .int .i64 b], .agg #[.int .i64 c, .int .i64 d], .int .i64 7] w fun e w' => e = .returned (.bool (true)) ∧ Below w.heap.size w w' := by
  obtain ⟨h1a, h1b, h1c⟩ := h1
  obtain ⟨h2a, h2b, h2c⟩ := h2
  go_enter Tryd.func42, Tryd.ntmps42
  go_wp2
  go_ret
  exact ⟨rfl, ((Below.refl _ _).alloc (Nat.le_refl _) _).alloc (by simp) _⟩
set_option maxHeartbeats 1000000 in
theorem holds7b (a b c d : Int) (w : World) (h1 : -9999 ≤ a ∧ a ≤ b ∧ b ≤ 9999) (h2 : -9999 ≤ c ∧ c ≤ d ∧ d ≤ 9999) (x : (a == c) = false) :
    Calls Tryd.prog 42 #[.agg #[.int .i64 a, .int .i64 b], .agg #[.int .i64 c, .int .i64 d], .int .i64 7] w fun e w' => e = .returned (.bool (false)) ∧ Below w.heap.size w w' := by
  obtain ⟨h1a, h1b, h1c⟩ := h1
  obtain ⟨h2a, h2b, h2c⟩ := h2
  go_enter Tryd.func42, Tryd.ntmps42
  go_wp2
  go_ret
  exact ⟨rfl, ((Below.refl _ _).alloc (Nat.le_refl _) _).alloc (by simp) _⟩
set_option maxHeartbeats 1000000 in
theorem holds7c (a b c d : Int) (w : World) (h1 : -9999 ≤ a ∧ a ≤ b ∧ b ≤ 9999) (h2 : -9999 ≤ c ∧ c ≤ d ∧ d ≤ 9999) (x : (a == c) = true) (y : (b == d) = false) :
    Calls Tryd.prog 42 #[.agg #[.int .i64 a, .int .i64 b], .agg #[.int .i64 c, .int .i64 d], .int .i64 7] w fun e w' => e = .returned (.bool (false)) ∧ Below w.heap.size w w' := by
  obtain ⟨h1a, h1b, h1c⟩ := h1
  obtain ⟨h2a, h2b, h2c⟩ := h2
  go_enter Tryd.func42, Tryd.ntmps42
  go_wp2
  go_ret
  exact ⟨rfl, ((Below.refl _ _).alloc (Nat.le_refl _) _).alloc (by simp) _⟩
end Go.Proofs.YtihadabaehcmiaaDoor
