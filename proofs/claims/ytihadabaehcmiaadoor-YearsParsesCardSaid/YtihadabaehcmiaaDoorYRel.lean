/- The relation of two years: the program's. -/
import Derived.Test.YtihadabaehcmiaaDoorYVal
namespace Go.Proofs.YtihadabaehcmiaaDoor
open Go Go.RowKit

/-- the number of the relation between a .. b and c .. d if it is none of the inverses -/
def rel7 (a b c d : Int) : Int :=
  if b + 1 < c then 1 else if b + 1 = c then 2 else if a < c ∧ c ≤ b ∧ b < d then 3 else if a = c ∧ b < d then 4 else if c < a ∧ b < d then 5 else if c < a ∧ b = d then 6 else if a = c ∧ b = d then 7 else 0
/-- the number of the relation -/
def rel13 (a b c d : Int) : Int := if rel7 a b c d = 0 then 14 - rel7 c d a b else rel7 a b c d
theorem rel7_cases {a b c d : Int} (h1 : a ≤ b) (h2 : c ≤ d) : (rel7 a b c d = 1 ∧ b + 1 < c) ∨ (rel7 a b c d = 2 ∧ b + 1 = c) ∨ (rel7 a b c d = 3 ∧ a < c ∧ c ≤ b ∧ b < d) ∨ (rel7 a b c d = 4 ∧ a = c ∧ b < d) ∨ (rel7 a b c d = 5 ∧ c < a ∧ b < d) ∨ (rel7 a b c d = 6 ∧ c < a ∧ b = d) ∨ (rel7 a b c d = 7 ∧ a = c ∧ b = d) ∨ (rel7 a b c d = 0 ∧ (d < b ∨ (b = d ∧ a < c)) ∧ c ≤ b) := by
  by_cases x1 : b + 1 < c
  · have e : rel7 a b c d = 1 := by unfold rel7; rw [if_pos x1]
    exact Or.inl ⟨e, x1⟩
  by_cases x2 : b + 1 = c
  · have e : rel7 a b c d = 2 := by unfold rel7; rw [if_neg x1, if_pos x2]
    exact Or.inr (Or.inl ⟨e, x2⟩)
  by_cases x3 : a < c ∧ c ≤ b ∧ b < d
  · have e : rel7 a b c d = 3 := by unfold rel7; rw [if_neg x1, if_neg x2, if_pos x3]
    exact Or.inr (Or.inr (Or.inl ⟨e, x3⟩))
  by_cases x4 : a = c ∧ b < d
  · have e : rel7 a b c d = 4 := by unfold rel7; rw [if_neg x1, if_neg x2, if_neg x3, if_pos x4]
    exact Or.inr (Or.inr (Or.inr (Or.inl ⟨e, x4⟩)))
  by_cases x5 : c < a ∧ b < d
  · have e : rel7 a b c d = 5 := by unfold rel7; rw [if_neg x1, if_neg x2, if_neg x3, if_neg x4, if_pos x5]
    exact Or.inr (Or.inr (Or.inr (Or.inr (Or.inl ⟨e, x5⟩))))
  by_cases x6 : c < a ∧ b = d
  · have e : rel7 a b c d = 6 := by unfold rel7; rw [if_neg x1, if_neg x2, if_neg x3, if_neg x4, if_neg x5, if_pos x6]
    exact Or.inr (Or.inr (Or.inr (Or.inr (Or.inr (Or.inl ⟨e, x6⟩)))))
  by_cases x7 : a = c ∧ b = d
  · have e : rel7 a b c d = 7 := by unfold rel7; rw [if_neg x1, if_neg x2, if_neg x3, if_neg x4, if_neg x5, if_neg x6, if_pos x7]
    exact Or.inr (Or.inr (Or.inr (Or.inr (Or.inr (Or.inr (Or.inl ⟨e, x7⟩))))))
  · have e : rel7 a b c d = 0 := by unfold rel7; rw [if_neg x1, if_neg x2, if_neg x3, if_neg x4, if_neg x5, if_neg x6, if_neg x7]
    exact Or.inr (Or.inr (Or.inr (Or.inr (Or.inr (Or.inr (Or.inr (⟨e, by omega, by omega⟩)))))))
theorem rel13_cases {a b c d : Int} (h1 : a ≤ b) (h2 : c ≤ d) : (rel7 a b c d ≠ 0 ∧ rel13 a b c d = rel7 a b c d) ∨ (rel7 a b c d = 0 ∧ 1 ≤ rel7 c d a b ∧ rel7 c d a b ≤ 6 ∧ rel13 a b c d = 14 - rel7 c d a b) := by
  have p := rel7_cases h1 h2
  have q := rel7_cases h2 h1
  by_cases h : rel7 a b c d = 0
  · exact Or.inr ⟨h, by omega, by omega, if_pos h⟩
  · exact Or.inl ⟨h, if_neg h⟩
theorem rel7_range {a b c d : Int} (h1 : a ≤ b) (h2 : c ≤ d) : 0 ≤ rel7 a b c d ∧ rel7 a b c d ≤ 7 := by
  have p := rel7_cases h1 h2
  omega

set_option maxHeartbeats 1000000 in
theorem fwd1 (a b c d : Int) (w : World) (h1 : -9999 ≤ a ∧ a ≤ b ∧ b ≤ 9999) (h2 : -9999 ≤ c ∧ c ≤ d ∧ d ≤ 9999) (x : b + 1 < c) :
    Calls Tryd.prog 41 #[.agg #[.int .i64 a, .int .i64 b], .agg #[.int .i64 c, .int .i64 d]] w fun e w' => e = .returned (.int .i64 1) ∧ Below w.heap.size w w' := by
  obtain ⟨h1a, h1b, h1c⟩ := h1
  obtain ⟨h2a, h2b, h2c⟩ := h2
  go_enter Tryd.func41, Tryd.ntmps41
  go_wp2
  go_ret
  exact ⟨rfl, ((Below.refl _ _).alloc (Nat.le_refl _) _).alloc (by simp) _⟩
set_option maxHeartbeats 1000000 in
theorem fwd2 (a b c d : Int) (w : World) (h1 : -9999 ≤ a ∧ a ≤ b ∧ b ≤ 9999) (h2 : -9999 ≤ c ∧ c ≤ d ∧ d ≤ 9999) (x : b + 1 = c) :
    Calls Tryd.prog 41 #[.agg #[.int .i64 a, .int .i64 b], .agg #[.int .i64 c, .int .i64 d]] w fun e w' => e = .returned (.int .i64 2) ∧ Below w.heap.size w w' := by
  obtain ⟨h1a, h1b, h1c⟩ := h1
  obtain ⟨h2a, h2b, h2c⟩ := h2
  have y0 : decide (b + 1 < c) = false := decide_eq_false (by omega)
  have y1 : (b + 1 == c) = true := beq_iff_eq.2 x
  clear x
  go_enter Tryd.func41, Tryd.ntmps41
  go_wp2
  go_ret
  exact ⟨rfl, ((Below.refl _ _).alloc (Nat.le_refl _) _).alloc (by simp) _⟩
set_option maxHeartbeats 1000000 in
theorem fwd_ll (a b c d : Int) (w : World) (h1 : -9999 ≤ a ∧ a ≤ b ∧ b ≤ 9999) (h2 : -9999 ≤ c ∧ c ≤ d ∧ d ≤ 9999) (u : c ≤ b) (x : a < c) (z : b < d) :
    Calls Tryd.prog 41 #[.agg #[.int .i64 a, .int .i64 b], .agg #[.int .i64 c, .int .i64 d]] w fun e w' => e = .returned (.int .i64 3) ∧ Below w.heap.size w w' := by
  obtain ⟨h1a, h1b, h1c⟩ := h1
  obtain ⟨h2a, h2b, h2c⟩ := h2
  have y0 : decide (b + 1 < c) = false := decide_eq_false (by omega)
  have y1 : (b + 1 == c) = false := beq_eq_false_iff_ne.2 (by omega)
  have y2 : decide (c ≤ b) = true := decide_eq_true (by omega)
  have p0 : decide (a < c) = true := decide_eq_true (by omega)
  have p1 : (a == c) = false := beq_eq_false_iff_ne.2 (by omega)
  have p2 : decide (c < a) = false := decide_eq_false (by omega)
  have q0 : decide (b < d) = true := decide_eq_true (by omega)
  have q1 : (b == d) = false := beq_eq_false_iff_ne.2 (by omega)
  have q2 : decide (d < b) = false := decide_eq_false (by omega)
  clear x z
  go_enter Tryd.func41, Tryd.ntmps41
  go_wp2
  go_ret
  exact ⟨rfl, ((Below.refl _ _).alloc (Nat.le_refl _) _).alloc (by simp) _⟩
set_option maxHeartbeats 1000000 in
theorem fwd_le (a b c d : Int) (w : World) (h1 : -9999 ≤ a ∧ a ≤ b ∧ b ≤ 9999) (h2 : -9999 ≤ c ∧ c ≤ d ∧ d ≤ 9999) (u : c ≤ b) (x : a < c) (z : b = d) :
    Calls Tryd.prog 41 #[.agg #[.int .i64 a, .int .i64 b], .agg #[.int .i64 c, .int .i64 d]] w fun e w' => e = .returned (.int .i64 0) ∧ Below w.heap.size w w' := by
  obtain ⟨h1a, h1b, h1c⟩ := h1
  obtain ⟨h2a, h2b, h2c⟩ := h2
  have y0 : decide (b + 1 < c) = false := decide_eq_false (by omega)
  have y1 : (b + 1 == c) = false := beq_eq_false_iff_ne.2 (by omega)
  have y2 : decide (c ≤ b) = true := decide_eq_true (by omega)
  have p0 : decide (a < c) = true := decide_eq_true (by omega)
  have p1 : (a == c) = false := beq_eq_false_iff_ne.2 (by omega)
  have p2 : decide (c < a) = false := decide_eq_false (by omega)
  have q0 : decide (b < d) = false := decide_eq_false (by omega)
  have q1 : (b == d) = true := beq_iff_eq.2 (by omega)
  have q2 : decide (d < b) = false := decide_eq_false (by omega)
  clear x z
  go_enter Tryd.func41, Tryd.ntmps41
  go_wp2
  go_ret
  exact ⟨rfl, ((Below.refl _ _).alloc (Nat.le_refl _) _).alloc (by simp) _⟩
set_option maxHeartbeats 1000000 in
theorem fwd_lg (a b c d : Int) (w : World) (h1 : -9999 ≤ a ∧ a ≤ b ∧ b ≤ 9999) (h2 : -9999 ≤ c ∧ c ≤ d ∧ d ≤ 9999) (u : c ≤ b) (x : a < c) (z : b > d) :
    Calls Tryd.prog 41 #[.agg #[.int .i64 a, .int .i64 b], .agg #[.int .i64 c, .int .i64 d]] w fun e w' => e = .returned (.int .i64 0) ∧ Below w.heap.size w w' := by
  obtain ⟨h1a, h1b, h1c⟩ := h1
  obtain ⟨h2a, h2b, h2c⟩ := h2
  have y0 : decide (b + 1 < c) = false := decide_eq_false (by omega)
  have y1 : (b + 1 == c) = false := beq_eq_false_iff_ne.2 (by omega)
  have y2 : decide (c ≤ b) = true := decide_eq_true (by omega)
  have p0 : decide (a < c) = true := decide_eq_true (by omega)
  have p1 : (a == c) = false := beq_eq_false_iff_ne.2 (by omega)
  have p2 : decide (c < a) = false := decide_eq_false (by omega)
  have q0 : decide (b < d) = false := decide_eq_false (by omega)
  have q1 : (b == d) = false := beq_eq_false_iff_ne.2 (by omega)
  have q2 : decide (d < b) = true := decide_eq_true (by omega)
  clear x z
  go_enter Tryd.func41, Tryd.ntmps41
  go_wp2
  go_ret
  exact ⟨rfl, ((Below.refl _ _).alloc (Nat.le_refl _) _).alloc (by simp) _⟩
set_option maxHeartbeats 1000000 in
theorem fwd_el (a b c d : Int) (w : World) (h1 : -9999 ≤ a ∧ a ≤ b ∧ b ≤ 9999) (h2 : -9999 ≤ c ∧ c ≤ d ∧ d ≤ 9999) (u : c ≤ b) (x : a = c) (z : b < d) :
    Calls Tryd.prog 41 #[.agg #[.int .i64 a, .int .i64 b], .agg #[.int .i64 c, .int .i64 d]] w fun e w' => e = .returned (.int .i64 4) ∧ Below w.heap.size w w' := by
  obtain ⟨h1a, h1b, h1c⟩ := h1
  obtain ⟨h2a, h2b, h2c⟩ := h2
  have y0 : decide (b + 1 < c) = false := decide_eq_false (by omega)
  have y1 : (b + 1 == c) = false := beq_eq_false_iff_ne.2 (by omega)
  have y2 : decide (c ≤ b) = true := decide_eq_true (by omega)
  have p0 : decide (a < c) = false := decide_eq_false (by omega)
  have p1 : (a == c) = true := beq_iff_eq.2 (by omega)
  have p2 : decide (c < a) = false := decide_eq_false (by omega)
  have q0 : decide (b < d) = true := decide_eq_true (by omega)
  have q1 : (b == d) = false := beq_eq_false_iff_ne.2 (by omega)
  have q2 : decide (d < b) = false := decide_eq_false (by omega)
  clear x z
  go_enter Tryd.func41, Tryd.ntmps41
  go_wp2
  go_ret
  exact ⟨rfl, ((Below.refl _ _).alloc (Nat.le_refl _) _).alloc (by simp) _⟩
set_option maxHeartbeats 1000000 in
theorem fwd_eg (a b c d : Int) (w : World) (h1 : -9999 ≤ a ∧ a ≤ b ∧ b ≤ 9999) (h2 : -9999 ≤ c ∧ c ≤ d ∧ d ≤ 9999) (u : c ≤ b) (x : a = c) (z : b > d) :
    Calls Tryd.prog 41 #[.agg #[.int .i64 a, .int .i64 b], .agg #[.int .i64 c, .int .i64 d]] w fun e w' => e = .returned (.int .i64 0) ∧ Below w.heap.size w w' := by
  obtain ⟨h1a, h1b, h1c⟩ := h1
  obtain ⟨h2a, h2b, h2c⟩ := h2
  have y0 : decide (b + 1 < c) = false := decide_eq_false (by omega)
  have y1 : (b + 1 == c) = false := beq_eq_false_iff_ne.2 (by omega)
  have y2 : decide (c ≤ b) = true := decide_eq_true (by omega)
  have p0 : decide (a < c) = false := decide_eq_false (by omega)
  have p1 : (a == c) = true := beq_iff_eq.2 (by omega)
  have p2 : decide (c < a) = false := decide_eq_false (by omega)
  have q0 : decide (b < d) = false := decide_eq_false (by omega)
  have q1 : (b == d) = false := beq_eq_false_iff_ne.2 (by omega)
  have q2 : decide (d < b) = true := decide_eq_true (by omega)
  clear x z
  go_enter Tryd.func41, Tryd.ntmps41
  go_wp2
  go_ret
  exact ⟨rfl, ((Below.refl _ _).alloc (Nat.le_refl _) _).alloc (by simp) _⟩
set_option maxHeartbeats 1000000 in
theorem fwd_gl (a b c d : Int) (w : World) (h1 : -9999 ≤ a ∧ a ≤ b ∧ b ≤ 9999) (h2 : -9999 ≤ c ∧ c ≤ d ∧ d ≤ 9999) (u : c ≤ b) (x : a > c) (z : b < d) :
    Calls Tryd.prog 41 #[.agg #[.int .i64 a, .int .i64 b], .agg #[.int .i64 c, .int .i64 d]] w fun e w' => e = .returned (.int .i64 5) ∧ Below w.heap.size w w' := by
  obtain ⟨h1a, h1b, h1c⟩ := h1
  obtain ⟨h2a, h2b, h2c⟩ := h2
  have y0 : decide (b + 1 < c) = false := decide_eq_false (by omega)
  have y1 : (b + 1 == c) = false := beq_eq_false_iff_ne.2 (by omega)
  have y2 : decide (c ≤ b) = true := decide_eq_true (by omega)
  have p0 : decide (a < c) = false := decide_eq_false (by omega)
  have p1 : (a == c) = false := beq_eq_false_iff_ne.2 (by omega)
  have p2 : decide (c < a) = true := decide_eq_true (by omega)
  have q0 : decide (b < d) = true := decide_eq_true (by omega)
  have q1 : (b == d) = false := beq_eq_false_iff_ne.2 (by omega)
  have q2 : decide (d < b) = false := decide_eq_false (by omega)
  clear x z
  go_enter Tryd.func41, Tryd.ntmps41
  go_wp2
  go_ret
  exact ⟨rfl, ((Below.refl _ _).alloc (Nat.le_refl _) _).alloc (by simp) _⟩
set_option maxHeartbeats 1000000 in
theorem fwd_ge (a b c d : Int) (w : World) (h1 : -9999 ≤ a ∧ a ≤ b ∧ b ≤ 9999) (h2 : -9999 ≤ c ∧ c ≤ d ∧ d ≤ 9999) (u : c ≤ b) (x : a > c) (z : b = d) :
    Calls Tryd.prog 41 #[.agg #[.int .i64 a, .int .i64 b], .agg #[.int .i64 c, .int .i64 d]] w fun e w' => e = .returned (.int .i64 6) ∧ Below w.heap.size w w' := by
  obtain ⟨h1a, h1b, h1c⟩ := h1
  obtain ⟨h2a, h2b, h2c⟩ := h2
  have y0 : decide (b + 1 < c) = false := decide_eq_false (by omega)
  have y1 : (b + 1 == c) = false := beq_eq_false_iff_ne.2 (by omega)
  have y2 : decide (c ≤ b) = true := decide_eq_true (by omega)
  have p0 : decide (a < c) = false := decide_eq_false (by omega)
  have p1 : (a == c) = false := beq_eq_false_iff_ne.2 (by omega)
  have p2 : decide (c < a) = true := decide_eq_true (by omega)
  have q0 : decide (b < d) = false := decide_eq_false (by omega)
  have q1 : (b == d) = true := beq_iff_eq.2 (by omega)
  have q2 : decide (d < b) = false := decide_eq_false (by omega)
  clear x z
  go_enter Tryd.func41, Tryd.ntmps41
  go_wp2
  go_ret
  exact ⟨rfl, ((Below.refl _ _).alloc (Nat.le_refl _) _).alloc (by simp) _⟩
set_option maxHeartbeats 1000000 in
theorem fwd_gg (a b c d : Int) (w : World) (h1 : -9999 ≤ a ∧ a ≤ b ∧ b ≤ 9999) (h2 : -9999 ≤ c ∧ c ≤ d ∧ d ≤ 9999) (u : c ≤ b) (x : a > c) (z : b > d) :
    Calls Tryd.prog 41 #[.agg #[.int .i64 a, .int .i64 b], .agg #[.int .i64 c, .int .i64 d]] w fun e w' => e = .returned (.int .i64 0) ∧ Below w.heap.size w w' := by
  obtain ⟨h1a, h1b, h1c⟩ := h1
  obtain ⟨h2a, h2b, h2c⟩ := h2
  have y0 : decide (b + 1 < c) = false := decide_eq_false (by omega)
  have y1 : (b + 1 == c) = false := beq_eq_false_iff_ne.2 (by omega)
  have y2 : decide (c ≤ b) = true := decide_eq_true (by omega)
  have p0 : decide (a < c) = false := decide_eq_false (by omega)
  have p1 : (a == c) = false := beq_eq_false_iff_ne.2 (by omega)
  have p2 : decide (c < a) = true := decide_eq_true (by omega)
  have q0 : decide (b < d) = false := decide_eq_false (by omega)
  have q1 : (b == d) = false := beq_eq_false_iff_ne.2 (by omega)
  have q2 : decide (d < b) = true := decide_eq_true (by omega)
  clear x z
  go_enter Tryd.func41, Tryd.ntmps41
  go_wp2
  go_ret
  exact ⟨rfl, ((Below.refl _ _).alloc (Nat.le_refl _) _).alloc (by simp) _⟩
set_option maxHeartbeats 1000000 in
theorem fwd_ee (a b : Int) (w : World) (h1 : -9999 ≤ a ∧ a ≤ b ∧ b ≤ 9999) :
    Calls Tryd.prog 41 #[.agg #[.int .i64 a, .int .i64 b], .agg #[.int .i64 a, .int .i64 b]] w fun e w' => e = .returned (.int .i64 7) ∧ Below w.heap.size w w' := by
  obtain ⟨h1a, h1b, h1c⟩ := h1
  have y0 : decide (b + 1 < a) = false := decide_eq_false (by omega)
  have y1 : (b + 1 == a) = false := beq_eq_false_iff_ne.2 (by omega)
  go_enter Tryd.func41, Tryd.ntmps41
  go_wp2
  go_ret
  exact ⟨rfl, ((Below.refl _ _).alloc (Nat.le_refl _) _).alloc (by simp) _⟩
theorem fwd_any (a b c d : Int) (w : World) (h1 : yB a b = true) (h2 : yB c d = true) (r : Int) (hr : rel7 a b c d = r) :
    Calls Tryd.prog 41 #[.agg #[.int .i64 a, .int .i64 b], .agg #[.int .i64 c, .int .i64 d]] w fun e w' => e = .returned (.int .i64 r) ∧ Below w.heap.size w w' := by
  have j1 := yB_true.1 h1
  have j2 := yB_true.1 h2
  subst hr
  rcases rel7_cases j1.2.1 j2.2.1 with ⟨e, x⟩ | ⟨e, x⟩ | ⟨e, x, y, z⟩ | ⟨e, x, z⟩ | ⟨e, x, z⟩ | ⟨e, x, z⟩ | ⟨e, x, z⟩ | ⟨e, x | ⟨x, y⟩, z⟩
  · rw [e]; exact fwd1 a b c d w j1 j2 x
  · rw [e]; exact fwd2 a b c d w j1 j2 x
  · rw [e]; exact fwd_ll a b c d w j1 j2 y x z
  · rw [e]; exact fwd_el a b c d w j1 j2 (by omega) x z
  · rw [e]; exact fwd_gl a b c d w j1 j2 (by omega) x z
  · rw [e]; exact fwd_ge a b c d w j1 j2 (by omega) x z
  · rw [e]; subst x; subst z; exact fwd_ee a b w j1
  · rw [e]
    rcases Int.lt_trichotomy a c with y | y | y
    · exact fwd_lg a b c d w j1 j2 z y x
    · exact fwd_eg a b c d w j1 j2 z y x
    · exact fwd_gg a b c d w j1 j2 z y x
  · rw [e]; exact fwd_le a b c d w j1 j2 z y x
set_option maxHeartbeats 1000000 in
theorem rel_one (a b c d : Int) (w : World) (h1 : yB a b = false) :
    Calls Tryd.prog 25 #[.agg #[.int .i64 a, .int .i64 b], .agg #[.int .i64 c, .int .i64 d]] w fun e w' => e = .returned (.int .i64 0) ∧ Below w.heap.size w w' := by
  have H1 := hide h1
  clear h1
  go_enter Tryd.func25, Tryd.ntmps25
  go_wp2_with fail
  refine (valid_any _ _ _ false H1.out).mono ?_
  rintro e w1 ⟨rfl, hb1⟩
  obtain ⟨hc1, hf1⟩ := bcell hb1
  have z10 : w.heap.size < w1.heap.size := by have := hb1.size; simp at this; omega
  have z11 : w.heap.size + 1 < w1.heap.size := by have := hb1.size; simp at this; omega
  go_wp2
  go_ret
  exact ⟨rfl, ((((Below.refl _ _).alloc (Nat.le_refl _) _).alloc (by simp) _).trans (hb1.mono (by simp <;> omega)))⟩
set_option maxHeartbeats 1000000 in
theorem rel_two (a b c d : Int) (w : World) (h1 : yB a b = true) (h2 : yB c d = false) :
    Calls Tryd.prog 25 #[.agg #[.int .i64 a, .int .i64 b], .agg #[.int .i64 c, .int .i64 d]] w fun e w' => e = .returned (.int .i64 0) ∧ Below w.heap.size w w' := by
  have H1 := hide h1
  have H2 := hide h2
  clear h1 h2
  go_enter Tryd.func25, Tryd.ntmps25
  go_wp2_with fail
  refine (valid_any _ _ _ true H1.out).mono ?_
  rintro e w1 ⟨rfl, hb1⟩
  obtain ⟨hc1, hf1⟩ := bcell hb1
  have z10 : w.heap.size < w1.heap.size := by have := hb1.size; simp at this; omega
  have z11 : w.heap.size + 1 < w1.heap.size := by have := hb1.size; simp at this; omega
  go_wp2_with fail
  refine (valid_any _ _ _ false H2.out).mono ?_
  rintro e w2 ⟨rfl, hb2⟩
  obtain ⟨hc2, hf2⟩ := bcell hb2
  have z20 : w.heap.size < w2.heap.size := by have := hb2.size; omega
  have z21 : w.heap.size + 1 < w2.heap.size := by have := hb2.size; omega
  go_wp2
  go_ret
  exact ⟨rfl, (((((Below.refl _ _).alloc (Nat.le_refl _) _).alloc (by simp) _).trans (hb1.mono (by simp <;> omega))).trans (hb2.mono (by omega)))⟩
set_option maxHeartbeats 1000000 in
theorem rel_fwd (a b c d : Int) (w : World) (h1 : yB a b = true) (h2 : yB c d = true) (r : Int) (h3 : rel7 a b c d = r) (h0' : (r != 0) = true) :
    Calls Tryd.prog 25 #[.agg #[.int .i64 a, .int .i64 b], .agg #[.int .i64 c, .int .i64 d]] w fun e w' => e = .returned (.int .i64 r) ∧ Below w.heap.size w w' := by
  have H1 := hide h1
  have H2 := hide h2
  have H3 := hide h3
  clear h1 h2 h3
  go_enter Tryd.func25, Tryd.ntmps25
  go_wp2_with fail
  refine (valid_any _ _ _ true H1.out).mono ?_
  rintro e w1 ⟨rfl, hb1⟩
  obtain ⟨hc1, hf1⟩ := bcell hb1
  have z10 : w.heap.size < w1.heap.size := by have := hb1.size; simp at this; omega
  have z11 : w.heap.size + 1 < w1.heap.size := by have := hb1.size; simp at this; omega
  go_wp2_with fail
  refine (valid_any _ _ _ true H2.out).mono ?_
  rintro e w2 ⟨rfl, hb2⟩
  obtain ⟨hc2, hf2⟩ := bcell hb2
  have z20 : w.heap.size < w2.heap.size := by have := hb2.size; omega
  have z21 : w.heap.size + 1 < w2.heap.size := by have := hb2.size; omega
  go_wp2_with fail
  refine (fwd_any _ _ _ _ _ H1.out H2.out _ H3.out).mono ?_
  rintro e w3 ⟨rfl, hb3⟩
  obtain ⟨hc3, hf3⟩ := bcell hb3
  have z30 : w.heap.size < w3.heap.size := by have := hb3.size; omega
  have z31 : w.heap.size + 1 < w3.heap.size := by have := hb3.size; omega
  go_wp2
  go_ret
  exact ⟨rfl, ((((((Below.refl _ _).alloc (Nat.le_refl _) _).alloc (by simp) _).trans (hb1.mono (by simp <;> omega))).trans (hb2.mono (by omega))).trans (hb3.mono (by omega)))⟩
set_option maxHeartbeats 1000000 in
theorem rel_bwd (a b c d : Int) (w : World) (h1 : yB a b = true) (h2 : yB c d = true) (h3 : rel7 a b c d = 0) (r : Int) (h4 : rel7 c d a b = r) (r1 : 0 ≤ r) (r2 : r ≤ 7) :
    Calls Tryd.prog 25 #[.agg #[.int .i64 a, .int .i64 b], .agg #[.int .i64 c, .int .i64 d]] w fun e w' => e = .returned (.int .i64 (14 - r)) ∧ Below w.heap.size w w' := by
  have H1 := hide h1
  have H2 := hide h2
  have H3 := hide h3
  have H4 := hide h4
  clear h1 h2 h3 h4
  go_enter Tryd.func25, Tryd.ntmps25
  go_wp2_with fail
  refine (valid_any _ _ _ true H1.out).mono ?_
  rintro e w1 ⟨rfl, hb1⟩
  obtain ⟨hc1, hf1⟩ := bcell hb1
  have z10 : w.heap.size < w1.heap.size := by have := hb1.size; simp at this; omega
  have z11 : w.heap.size + 1 < w1.heap.size := by have := hb1.size; simp at this; omega
  go_wp2_with fail
  refine (valid_any _ _ _ true H2.out).mono ?_
  rintro e w2 ⟨rfl, hb2⟩
  obtain ⟨hc2, hf2⟩ := bcell hb2
  have z20 : w.heap.size < w2.heap.size := by have := hb2.size; omega
  have z21 : w.heap.size + 1 < w2.heap.size := by have := hb2.size; omega
  go_wp2_with fail
  refine (fwd_any _ _ _ _ _ H1.out H2.out _ H3.out).mono ?_
  rintro e w3 ⟨rfl, hb3⟩
  obtain ⟨hc3, hf3⟩ := bcell hb3
  have z30 : w.heap.size < w3.heap.size := by have := hb3.size; omega
  have z31 : w.heap.size + 1 < w3.heap.size := by have := hb3.size; omega
  go_wp2_with fail
  refine (fwd_any _ _ _ _ _ H2.out H1.out _ H4.out).mono ?_
  rintro e w4 ⟨rfl, hb4⟩
  obtain ⟨hc4, hf4⟩ := bcell hb4
  have z40 : w.heap.size < w4.heap.size := by have := hb4.size; omega
  have z41 : w.heap.size + 1 < w4.heap.size := by have := hb4.size; omega
  go_wp2
  go_ret
  exact ⟨rfl, (((((((Below.refl _ _).alloc (Nat.le_refl _) _).alloc (by simp) _).trans (hb1.mono (by simp <;> omega))).trans (hb2.mono (by omega))).trans (hb3.mono (by omega))).trans (hb4.mono (by omega)))⟩
theorem rel_any (a b c d : Int) (w : World) (h1 : yB a b = true) (h2 : yB c d = true) :
    Calls Tryd.prog 25 #[.agg #[.int .i64 a, .int .i64 b], .agg #[.int .i64 c, .int .i64 d]] w fun e w' => e = .returned (.int .i64 (rel13 a b c d)) ∧ Below w.heap.size w w' := by
  have j1 := yB_true.1 h1
  have j2 := yB_true.1 h2
  rcases rel13_cases j1.2.1 j2.2.1 with ⟨e, x⟩ | ⟨e, y, z, x⟩
  · rw [x]; exact rel_fwd a b c d w h1 h2 _ rfl (bne_iff_ne.2 e)
  · rw [x]; exact rel_bwd a b c d w h1 h2 e _ rfl (by omega) (by omega)
end Go.Proofs.YtihadabaehcmiaaDoor
