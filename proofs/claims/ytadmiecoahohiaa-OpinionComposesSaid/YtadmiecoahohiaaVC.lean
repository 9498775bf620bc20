/- OpinionComposes. -/
import Derived.Test.YtadmiecoahohiaaUX
namespace Go.Proofs.Ytadmiecoahohiaa
open Go Go.RowKit Go.Lib

set_option maxHeartbeats 4000000 in
set_option maxRecDepth 100000 in
theorem cmp_s_few0 (A0 : Option Addr) (n0 c0 : Nat) (A1 : Option Addr) (n1 c1 : Nat) (w : World)  (h0 : ¬ n0 ≤ 100) : Calls Try.prog 6 #[.slice A0 n0 c0, .slice A1 n1 c1] w fun e w' => e = .returned (.bool true) ∧ Below w.heap.size w w' := by
  go_enter Try.func6, Try.ntmps6
  go_wp2_with fail
  refine (awake_yes w).mono ?_
  rintro e w1 ⟨rfl, b1⟩
  have B1 := hide b1
  clear b1
  go_wp2_with fail
  refine (some_any A0 n0 c0 w1 false (decide_eq_false h0)).mono ?_
  rintro e w2 ⟨rfl, rfl⟩
  go_wp2_with fail
  refine (awake_yes w1).mono ?_
  rintro e w2 ⟨rfl, b2⟩
  have B2 := hide (Below.next B1.out b2)
  clear b2
  go_wp2_with fail
  go_ret
  exact ⟨rfl, B2.out⟩

set_option maxHeartbeats 4000000 in
set_option maxRecDepth 100000 in
theorem cmp_s_few1 (A0 : Option Addr) (n0 c0 : Nat) (A1 : Option Addr) (n1 c1 : Nat) (w : World) (h0 : n0 ≤ 100) (h1 : ¬ n1 ≤ 100) : Calls Try.prog 6 #[.slice A0 n0 c0, .slice A1 n1 c1] w fun e w' => e = .returned (.bool true) ∧ Below w.heap.size w w' := by
  go_enter Try.func6, Try.ntmps6
  go_wp2_with fail
  refine (awake_yes w).mono ?_
  rintro e w1 ⟨rfl, b1⟩
  have B1 := hide b1
  clear b1
  go_wp2_with fail
  refine (some_any A0 n0 c0 w1 true (decide_eq_true h0)).mono ?_
  rintro e w2 ⟨rfl, rfl⟩
  go_wp2_with fail
  refine (some_any A1 n1 c1 w1 false (decide_eq_false h1)).mono ?_
  rintro e w2 ⟨rfl, rfl⟩
  go_wp2_with fail
  refine (awake_yes w1).mono ?_
  rintro e w2 ⟨rfl, b2⟩
  have B2 := hide (Below.next B1.out b2)
  clear b2
  go_wp2_with fail
  go_ret
  exact ⟨rfl, B2.out⟩

set_option maxHeartbeats 16000000 in
set_option maxRecDepth 100000 in
theorem cmp_s_main (A0 : Option Addr) (n0 c0 : Nat) (l0 : List Chg) (A1 : Option Addr) (n1 c1 : Nat) (l1 : List Chg) (w : World) (ha0 : SL eC w A0 n0 l0) (ha1 : SL eC w A1 n1 l1) (h0 : n0 ≤ 100) (h1 : n1 ≤ 100) : Calls Try.prog 6 #[.slice A0 n0 c0, .slice A1 n1 c1] w fun e w' => e = .returned (.bool true) ∧ Below w.heap.size w w' := by
  have HA0 := hide ha0
  have HA1 := hide ha1
  clear ha0 ha1
  obtain ⟨L, er, hR⟩ : ∃ L er, comR l0 l1 = (L, er) := ⟨_, _, rfl⟩
  have HR := hide hR
  have HLB := hide (show L.length ≤ 64 by have := comR_len l0 l1; rw [hR] at this; exact this)
  have q1 : (er == er) = true := beq_self_eq_true _
  clear hR
  go_enter Try.func6, Try.ntmps6
  go_wp2_with fail
  refine (awake_yes w).mono ?_
  rintro e w1 ⟨rfl, b1⟩
  have B1 := hide b1
  clear b1
  go_wp2_with fail
  refine (some_any A0 n0 c0 w1 true (decide_eq_true h0)).mono ?_
  rintro e w2 ⟨rfl, rfl⟩
  go_wp2_with fail
  refine (some_any A1 n1 c1 w1 true (decide_eq_true h1)).mono ?_
  rintro e w2 ⟨rfl, rfl⟩
  go_wp2_with fail
  have S_0 := hide (HA0.out.keep B1.out)
  have S_1 := hide (HA1.out.keep B1.out)
  go_wp2_with fail
  refine (compose_any A0 n0 c0 l0 A1 n1 c1 l1 w1 S_0.out S_1.out (by omega) (by omega)).mono ?_
  rintro e w11 h
  obtain ⟨A_d, c_d, n_d, rfl, hn, s, b⟩ := giv_is HR.out h
  have hn_d : n_d ≤ 100 := Nat.le_trans (by rw [← hn]; exact HLB.out) (by decide)
  have S_0 := hide (S_0.out.keep b)
  have S_1 := hide (S_1.out.keep b)
  have B2 := hide (Below.next B1.out b)
  have S_d := hide s
  have HL_d := hide hn
  clear h hn s b
  go_wp2_with fail
  refine (rcompose_any A0 n0 c0 l0 A1 n1 c1 l1 w11 S_0.out S_1.out (by omega) (by omega)).mono ?_
  rintro e w12 h
  obtain ⟨A_e, c_e, n_e, rfl, hn, s, b⟩ := giv_is HR.out h
  have hn_e : n_e ≤ 100 := Nat.le_trans (by rw [← hn]; exact HLB.out) (by decide)
  have S_0 := hide (S_0.out.keep b)
  have S_1 := hide (S_1.out.keep b)
  have S_d := hide (S_d.out.keep b)
  have B3 := hide (Below.next B2.out b)
  have S_e := hide s
  have HL_e := hide hn
  clear h hn s b
  go_wp2_with fail
  refine (baseC_any A_d n_d c_d L A_e n_e c_e L w12 S_d.out S_e.out (by omega) (by omega) true (decide_eq_true rfl)).mono ?_
  rintro e w13 ⟨rfl, g⟩
  have b := g.below
  have S_0 := hide (S_0.out.keep b)
  have S_1 := hide (S_1.out.keep b)
  have S_d := hide (S_d.out.keep b)
  have S_e := hide (S_e.out.keep b)
  have B4 := hide (Below.next B3.out b)
  clear g b q1
  by_cases h0 : er = 0
  · subst h0
    have HVL := hide (com_valid HR.out)
    go_wp2_with fail
    refine (validC_any A_d n_d c_d L w13 S_d.out (by omega) true HVL.out).mono ?_
    rintro e w14 ⟨rfl, g⟩
    have b := g.below
    have S_0 := hide (S_0.out.keep b)
    have S_1 := hide (S_1.out.keep b)
    have S_d := hide (S_d.out.keep b)
    have S_e := hide (S_e.out.keep b)
    have B5 := hide (Below.next B4.out b)
    clear g b
    go_wp2_with fail
    go_ret
    exact ⟨rfl, B5.out⟩
  · have e1 : (er == 0) = false := beq_eq_false_iff_ne.2 h0
    have e2 : (er != 0) = true := by rw [bne, e1]; rfl
    clear h0
    go_wp2_with fail
    go_ret
    exact ⟨rfl, B4.out⟩

theorem cmp_s_all (A0 : Option Addr) (n0 c0 : Nat) (l0 : List Chg) (A1 : Option Addr) (n1 c1 : Nat) (l1 : List Chg) (w : World) (ha0 : SL eC w A0 n0 l0) (ha1 : SL eC w A1 n1 l1) : Calls Try.prog 6 #[.slice A0 n0 c0, .slice A1 n1 c1] w fun e w' => e = .returned (.bool true) ∧ Below w.heap.size w w' := by
  by_cases h0 : n0 ≤ 100
  · skip
    by_cases h1 : n1 ≤ 100
    · exact cmp_s_main A0 n0 c0 l0 A1 n1 c1 l1 w ha0 ha1 h0 h1
    · exact cmp_s_few1 A0 n0 c0 A1 n1 c1 w h0 h1
  · exact cmp_s_few0 A0 n0 c0 A1 n1 c1 w h0
end Go.Proofs.Ytadmiecoahohiaa
