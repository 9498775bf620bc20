/- The reference's relation: its loop. -/
import Derived.Test.YtihadabaehcmiaaDoorYHolds
namespace Go.Proofs.YtihadabaehcmiaaDoor
open Go Go.RowKit

set_option maxHeartbeats 4000000 in
theorem holds_any (a b c d n : Int) (w : World) (h1 : -9999 ≤ a ∧ a ≤ b ∧ b ≤ 9999) (h2 : -9999 ≤ c ∧ c ≤ d ∧ d ≤ 9999) (hn : 1 ≤ n ∧ n ≤ 7) (v : Bool) (hv : decide (rel7 a b c d = n) = v) :
    Calls Tryd.prog 42 #[.agg #[.int .i64 a, .int .i64 b], .agg #[.int .i64 c, .int .i64 d], .int .i64 n] w fun e w' => e = .returned (.bool v) ∧ Below w.heap.size w w' := by
  have p := rel7_cases h1.2.1 h2.2.1
  subst hv
  obtain rfl | rfl | rfl | rfl | rfl | rfl | rfl : n = 1 ∨ n = 2 ∨ n = 3 ∨ n = 4 ∨ n = 5 ∨ n = 6 ∨ n = 7 := by omega
  · rw [show decide (rel7 a b c d = 1) = decide (b + 1 < c) from decide_eq_decide.2 (by omega)]
    exact holds1 a b c d w h1 h2
  · rw [show decide (rel7 a b c d = 2) = (b + 1 == c) from by rw [Bool.eq_iff_iff, decide_eq_true_iff, beq_iff_eq]; omega]
    exact holds2 a b c d w h1 h2
  · by_cases x : a < c
    · by_cases y : c ≤ b
      · rw [show decide (rel7 a b c d = 3) = decide (b < d) from decide_eq_decide.2 (by omega)]
        exact holds3c a b c d w h1 h2 (decide_eq_true x) (decide_eq_true y)
      · rw [decide_eq_false (p := rel7 a b c d = 3) (by omega)]
        exact holds3b a b c d w h1 h2 (decide_eq_true x) (decide_eq_false y)
    · rw [decide_eq_false (p := rel7 a b c d = 3) (by omega)]
      exact holds3a a b c d w h1 h2 (decide_eq_false x)
  · by_cases x : a = c
    · rw [show decide (rel7 a b c d = 4) = decide (b < d) from decide_eq_decide.2 (by omega)]
      exact holds4b a b c d w h1 h2 (beq_iff_eq.2 x)
    · rw [decide_eq_false (p := rel7 a b c d = 4) (by omega)]
      exact holds4a a b c d w h1 h2 (beq_eq_false_iff_ne.2 x)
  · by_cases x : c < a
    · rw [show decide (rel7 a b c d = 5) = decide (b < d) from decide_eq_decide.2 (by omega)]
      exact holds5b a b c d w h1 h2 (decide_eq_true x)
    · rw [decide_eq_false (p := rel7 a b c d = 5) (by omega)]
      exact holds5a a b c d w h1 h2 (decide_eq_false x)
  · by_cases x : c < a
    · rw [show decide (rel7 a b c d = 6) = (b == d) from by rw [Bool.eq_iff_iff, decide_eq_true_iff, beq_iff_eq]; omega]
      exact holds6b a b c d w h1 h2 (decide_eq_true x)
    · rw [decide_eq_false (p := rel7 a b c d = 6) (by omega)]
      exact holds6a a b c d w h1 h2 (decide_eq_false x)
  · by_cases x : a = c
    · by_cases y : b = d
      · rw [decide_eq_true (p := rel7 a b c d = 7) (by omega)]
        exact holds7a a b c d w h1 h2 (beq_iff_eq.2 x) (beq_iff_eq.2 y)
      · rw [decide_eq_false (p := rel7 a b c d = 7) (by omega)]
        exact holds7c a b c d w h1 h2 (beq_iff_eq.2 x) (beq_eq_false_iff_ne.2 y)
    · rw [decide_eq_false (p := rel7 a b c d = 7) (by omega)]
      exact holds7b a b c d w h1 h2 (beq_eq_false_iff_ne.2 x)

/-- what holds at the head of a round -/
def RelIn (a b c d : Int) (w : World) (t : Value) (wr : World) : Prop :=
  ∃ k : Nat, 1 ≤ k ∧ k ≤ 7 ∧ t = .int .i64 k ∧ (∀ m : Int, 1 ≤ m → m < k → rel7 a b c d ≠ m ∧ rel7 c d a b ≠ m) ∧ Below w.heap.size w wr ∧ Box wr w.heap.size #[.int .i64 a, .int .i64 b] 23 ∧ Box wr (w.heap.size + 1) #[.int .i64 c, .int .i64 d] 23
theorem rel_hit {a b c d : Int} {k : Nat} (h1 : -9999 ≤ a ∧ a ≤ b ∧ b ≤ 9999) (h2 : -9999 ≤ c ∧ c ≤ d ∧ d ≤ 9999) (k1 : 1 ≤ k) (e : rel7 a b c d = k) : rel13 a b c d = k := by
  rcases rel13_cases h1.2.1 h2.2.1 with ⟨_, x⟩ | ⟨x, _⟩
  · rw [x, e]
  · omega
theorem rel_inv {a b c d : Int} {k : Nat} (h1 : -9999 ≤ a ∧ a ≤ b ∧ b ≤ 9999) (h2 : -9999 ≤ c ∧ c ≤ d ∧ d ≤ 9999) (k1 : 1 ≤ k) (hall : ∀ m : Int, 1 ≤ m → m < k → rel7 a b c d ≠ m ∧ rel7 c d a b ≠ m) (n : rel7 a b c d ≠ k) (e : rel7 c d a b = k) : rel13 a b c d = 14 - k := by
  have p := rel7_cases h1.2.1 h2.2.1
  have q := rel7_cases h2.2.1 h1.2.1
  rcases rel13_cases h1.2.1 h2.2.1 with ⟨x, _⟩ | ⟨_, _, _, y⟩
  · exfalso
    have r := rel7_range h1.2.1 h2.2.1
    by_cases hk : rel7 a b c d < k
    · exact (hall _ (by omega) hk).1 rfl
    · omega
  · rw [y, e]
theorem rel_on {a b c d : Int} {k : Nat} (h1 : -9999 ≤ a ∧ a ≤ b ∧ b ≤ 9999) (h2 : -9999 ≤ c ∧ c ≤ d ∧ d ≤ 9999) (k7 : k ≤ 7) (hall : ∀ m : Int, 1 ≤ m → m < k → rel7 a b c d ≠ m ∧ rel7 c d a b ≠ m) (n : rel7 a b c d ≠ k) (n' : rel7 c d a b ≠ k) : k + 1 ≤ 7 ∧ ∀ m : Int, 1 ≤ m → m < (k + 1 : Nat) → rel7 a b c d ≠ m ∧ rel7 c d a b ≠ m := by
  have all : ∀ m : Int, 1 ≤ m → m < (k + 1 : Nat) → rel7 a b c d ≠ m ∧ rel7 c d a b ≠ m := by
    intro m m1 m2
    by_cases e : m = k
    · subst e; exact ⟨n, n'⟩
    · exact hall m m1 (by omega)
  refine ⟨?_, all⟩
  have r := rel7_range h1.2.1 h2.2.1
  rcases rel13_cases h1.2.1 h2.2.1 with ⟨x, _⟩ | ⟨_, x, y, _⟩
  · rcases Nat.lt_or_ge k 7 with h | h
    · exact h
    · exact absurd rfl (all (rel7 a b c d) (by omega) (by omega)).1
  · rcases Nat.lt_or_ge k 7 with h | h
    · exact h
    · exact absurd rfl (all (rel7 c d a b) (by omega) (by omega)).2
set_option maxHeartbeats 4000000 in
theorem rrel_yes (a b c d : Int) (w : World) (h1 : yB a b = true) (h2 : yB c d = true) :
    Calls Tryd.prog 26 #[.agg #[.int .i64 a, .int .i64 b], .agg #[.int .i64 c, .int .i64 d]] w fun e w' => e = .returned (.int .i64 (rel13 a b c d)) ∧ Below w.heap.size w w' := by
  have H1 := hide h1
  have H2 := hide h2
  have J1 := hide (yB_true.1 h1)
  have J2 := hide (yB_true.1 h2)
  clear h1 h2
  go_enter Tryd.func26, Tryd.ntmps26
  go_wp2_with fail
  have HB : Below w.heap.size w ((w.alloc (.cells #[.int .i64 a, .int .i64 b] 23)).alloc (.cells #[.int .i64 c, .int .i64 d] 23)) ∧ Box ((w.alloc (.cells #[.int .i64 a, .int .i64 b] 23)).alloc (.cells #[.int .i64 c, .int .i64 d] 23)) w.heap.size #[.int .i64 a, .int .i64 b] 23 ∧ Box ((w.alloc (.cells #[.int .i64 a, .int .i64 b] 23)).alloc (.cells #[.int .i64 c, .int .i64 d] 23)) (w.heap.size + 1) #[.int .i64 c, .int .i64 d] 23 :=
    ⟨((Below.refl _ _).alloc (Nat.le_refl _) _).alloc (by simp) _, (Box.new _ _ _).alloc _, by have h := Box.new (w.alloc (.cells #[.int .i64 a, .int .i64 b] 23)) #[.int .i64 c, .int .i64 d] 23; simpa using h⟩
  generalize (w.alloc (.cells #[.int .i64 a, .int .i64 b] 23)).alloc (.cells #[.int .i64 c, .int .i64 d] 23) = W at HB ⊢
  obtain ⟨hW, b1, b2⟩ := HB
  go_loopw [5] (fun t wr => RelIn a b c d w t wr) (fun t _ => 8 - (intOf t).toNat)
  case atStart => exact ⟨1, by omega, by omega, rfl, fun m _ _ => by omega, hW, b1, b2⟩
  case round =>
    obtain ⟨k, k1, k7, rfl, hall, hb, c1, c2⟩ := hrel
    have HA := hide hall
    have C1 := hide c1
    have C2 := hide c2
    have z00 := c1.lt
    have z01 := c2.lt
    have e1 := c1.at_ 0
    have e2 := c1.at_ 1
    have e3 := c2.at_ 0
    have e4 := c2.at_ 1
    simp at e1 e2 e3 e4
    clear hall c1 c2 b1 b2 hW
    have dk : decide ((k : Int) ≤ 7) = true := decide_eq_true (by omega)
    go_wp2_with fail
    refine (rvalid_any _ _ _ true H1.out).mono ?_
    rintro e w1 ⟨rfl, hb1⟩
    obtain ⟨hc1, hf1⟩ := bcell hb1
    have z10 : w.heap.size < w1.heap.size := by have := hb1.size; omega
    have z11 : w.heap.size + 1 < w1.heap.size := by have := hb1.size; omega
    go_wp2_with fail
    refine (rvalid_any _ _ _ true H2.out).mono ?_
    rintro e w2 ⟨rfl, hb2⟩
    obtain ⟨hc2, hf2⟩ := bcell hb2
    have z20 : w.heap.size < w2.heap.size := by have := hb2.size; omega
    have z21 : w.heap.size + 1 < w2.heap.size := by have := hb2.size; omega
    go_wp2_with fail
    rcases Bool.eq_false_or_eq_true (decide (rel7 a b c d = k)) with hv | hv
    · have HV := hide hv
      clear hv
      refine (holds_any _ _ _ _ _ _ J1.out J2.out (by omega) true HV.out).mono ?_
      rintro e w3 ⟨rfl, hb3⟩
      go_wp2_with fail
      have hr := rel_hit J1.out J2.out k1 (of_decide_eq_true HV.out)
      go_ret
      exact ⟨ret_int hr.symm, ((hb.trans (hb1.mono (by omega))).trans (hb2.mono (by omega))).trans (hb3.mono (by omega))⟩
    · have HV := hide hv
      clear hv
      refine (holds_any _ _ _ _ _ _ J1.out J2.out (by omega) false HV.out).mono ?_
      rintro e w3 ⟨rfl, hb3⟩
      obtain ⟨hc3, hf3⟩ := bcell hb3
      have z30 : w.heap.size < w3.heap.size := by have := hb3.size; omega
      have z31 : w.heap.size + 1 < w3.heap.size := by have := hb3.size; omega
      go_wp2_with fail
      rcases Bool.eq_false_or_eq_true (decide (rel7 c d a b = k)) with hu | hu
      · have HU := hide hu
        clear hu
        refine (holds_any _ _ _ _ _ _ J2.out J1.out (by omega) true HU.out).mono ?_
        rintro e w4 ⟨rfl, hb4⟩
        go_wp2_with fail
        have hr := rel_inv J1.out J2.out k1 HA.out (of_decide_eq_false HV.out) (of_decide_eq_true HU.out)
        go_ret
        exact ⟨ret_int hr.symm, (((hb.trans (hb1.mono (by omega))).trans (hb2.mono (by omega))).trans (hb3.mono (by omega))).trans (hb4.mono (by omega))⟩
      · have HU := hide hu
        clear hu
        refine (holds_any _ _ _ _ _ _ J2.out J1.out (by omega) false HU.out).mono ?_
        rintro e w4 ⟨rfl, hb4⟩
        go_wp2_with fail
        have hr := rel_on J1.out J2.out k7 HA.out (of_decide_eq_false HV.out) (of_decide_eq_false HU.out)
        have B := (((hb.trans (hb1.mono (by omega))).trans (hb2.mono (by omega))).trans (hb3.mono (by omega))).trans (hb4.mono (by omega))
        have D1 := (((C1.out.below' hb1).below' hb2).below' hb3).below' hb4
        have D2 := (((C2.out.below' hb1).below' hb2).below' hb3).below' hb4
        go_roundw
        case rel => exact ⟨k + 1, by omega, hr.1, by go_num, hr.2, B, D1, D2⟩
        case measure => simp [intOf]; omega
set_option maxHeartbeats 1000000 in
theorem rrel_one (a b c d : Int) (w : World) (h1 : yB a b = false) :
    Calls Tryd.prog 26 #[.agg #[.int .i64 a, .int .i64 b], .agg #[.int .i64 c, .int .i64 d]] w fun e w' => e = .returned (.int .i64 0) ∧ Below w.heap.size w w' := by
  have H1 := hide h1
  clear h1
  go_enter Tryd.func26, Tryd.ntmps26
  go_wp2_with fail
  refine wp_loop_rounds 1 ?_
  rw [rounds_succ]
  go_wp2_with fail
  refine (rvalid_any _ _ _ false H1.out).mono ?_
  rintro e w1 ⟨rfl, hb1⟩
  obtain ⟨hc1, hf1⟩ := bcell hb1
  go_wp2_with fail
  go_ret
  exact ⟨rfl, ((((Below.refl _ _).alloc (Nat.le_refl _) _).alloc (by simp) _).trans (hb1.mono (by simp <;> omega)))⟩
set_option maxHeartbeats 1000000 in
theorem rrel_two (a b c d : Int) (w : World) (h1 : yB a b = true) (h2 : yB c d = false) :
    Calls Tryd.prog 26 #[.agg #[.int .i64 a, .int .i64 b], .agg #[.int .i64 c, .int .i64 d]] w fun e w' => e = .returned (.int .i64 0) ∧ Below w.heap.size w w' := by
  have H1 := hide h1
  have H2 := hide h2
  clear h1 h2
  go_enter Tryd.func26, Tryd.ntmps26
  go_wp2_with fail
  refine wp_loop_rounds 1 ?_
  rw [rounds_succ]
  go_wp2_with fail
  refine (rvalid_any _ _ _ true H1.out).mono ?_
  rintro e w1 ⟨rfl, hb1⟩
  obtain ⟨hc1, hf1⟩ := bcell hb1
  have z10 : w.heap.size < w1.heap.size := by have := hb1.size; simp at this; omega
  have z11 : w.heap.size + 1 < w1.heap.size := by have := hb1.size; simp at this; omega
  go_wp2_with fail
  refine (rvalid_any _ _ _ false H2.out).mono ?_
  rintro e w2 ⟨rfl, hb2⟩
  obtain ⟨hc2, hf2⟩ := bcell hb2
  have z20 : w.heap.size < w2.heap.size := by have := hb2.size; omega
  have z21 : w.heap.size + 1 < w2.heap.size := by have := hb2.size; omega
  go_wp2_with fail
  go_ret
  exact ⟨rfl, (((((Below.refl _ _).alloc (Nat.le_refl _) _).alloc (by simp) _).trans (hb1.mono (by simp <;> omega))).trans (hb2.mono (by omega)))⟩
end Go.Proofs.YtihadabaehcmiaaDoor
