/- OpinionMerges. -/
import Derived.Test.YtadmiecoahohiaaUX
import Derived.Test.YtadmiecoahohiaaUW
namespace Go.Proofs.Ytadmiecoahohiaa
open Go Go.RowKit Go.Lib

set_option maxHeartbeats 4000000 in
set_option maxRecDepth 100000 in
theorem mes_few0 (A0 : Option Addr) (n0 c0 : Nat) (A1 : Option Addr) (n1 c1 : Nat) (A2 : Option Addr) (n2 c2 : Nat) (w : World)  (h0 : ¬ n0 ≤ 100) : Calls Try.prog 7 #[.slice A0 n0 c0, .slice A1 n1 c1, .slice A2 n2 c2] w fun e w' => e = .returned (.bool true) ∧ Below w.heap.size w w' := by
  go_enter Try.func7, Try.ntmps7
  go_wp2_with fail
  refine (awake_yes w).mono ?_
  rintro e w1 ⟨rfl, b1⟩
  have B1 := hide b1
  clear b1
  go_wp2_with fail
  refine (few_any A0 n0 c0 w1 false (decide_eq_false h0)).mono ?_
  rintro e w2 ⟨rfl, rfl⟩
  go_wp2_with fail
  refine (awake_yes w1).mono ?_
  rintro e w2 ⟨rfl, b2⟩
  have B2 := hide (Below.next B1.out b2)
  clear b2
  go_wp2_with fail
  go_ret
  exact ⟨rfl, B2.out⟩

set_option maxHeartbeats 4000000 in
set_option maxRecDepth 100000 in
theorem mes_few1 (A0 : Option Addr) (n0 c0 : Nat) (A1 : Option Addr) (n1 c1 : Nat) (A2 : Option Addr) (n2 c2 : Nat) (w : World) (h0 : n0 ≤ 100) (h1 : ¬ n1 ≤ 100) : Calls Try.prog 7 #[.slice A0 n0 c0, .slice A1 n1 c1, .slice A2 n2 c2] w fun e w' => e = .returned (.bool true) ∧ Below w.heap.size w w' := by
  go_enter Try.func7, Try.ntmps7
  go_wp2_with fail
  refine (awake_yes w).mono ?_
  rintro e w1 ⟨rfl, b1⟩
  have B1 := hide b1
  clear b1
  go_wp2_with fail
  refine (few_any A0 n0 c0 w1 true (decide_eq_true h0)).mono ?_
  rintro e w2 ⟨rfl, rfl⟩
  go_wp2_with fail
  refine (few_any A1 n1 c1 w1 false (decide_eq_false h1)).mono ?_
  rintro e w2 ⟨rfl, rfl⟩
  go_wp2_with fail
  refine (awake_yes w1).mono ?_
  rintro e w2 ⟨rfl, b2⟩
  have B2 := hide (Below.next B1.out b2)
  clear b2
  go_wp2_with fail
  go_ret
  exact ⟨rfl, B2.out⟩

set_option maxHeartbeats 4000000 in
set_option maxRecDepth 100000 in
theorem mes_few2 (A0 : Option Addr) (n0 c0 : Nat) (A1 : Option Addr) (n1 c1 : Nat) (A2 : Option Addr) (n2 c2 : Nat) (w : World) (h0 : n0 ≤ 100) (h1 : n1 ≤ 100) (h2 : ¬ n2 ≤ 100) : Calls Try.prog 7 #[.slice A0 n0 c0, .slice A1 n1 c1, .slice A2 n2 c2] w fun e w' => e = .returned (.bool true) ∧ Below w.heap.size w w' := by
  go_enter Try.func7, Try.ntmps7
  go_wp2_with fail
  refine (awake_yes w).mono ?_
  rintro e w1 ⟨rfl, b1⟩
  have B1 := hide b1
  clear b1
  go_wp2_with fail
  refine (few_any A0 n0 c0 w1 true (decide_eq_true h0)).mono ?_
  rintro e w2 ⟨rfl, rfl⟩
  go_wp2_with fail
  refine (few_any A1 n1 c1 w1 true (decide_eq_true h1)).mono ?_
  rintro e w2 ⟨rfl, rfl⟩
  go_wp2_with fail
  refine (few_any A2 n2 c2 w1 false (decide_eq_false h2)).mono ?_
  rintro e w2 ⟨rfl, rfl⟩
  go_wp2_with fail
  refine (awake_yes w1).mono ?_
  rintro e w2 ⟨rfl, b2⟩
  have B2 := hide (Below.next B1.out b2)
  clear b2
  go_wp2_with fail
  go_ret
  exact ⟨rfl, B2.out⟩

set_option maxHeartbeats 16000000 in
set_option maxRecDepth 100000 in
theorem mes_main (A0 : Option Addr) (n0 c0 : Nat) (l0 : List Ent) (A1 : Option Addr) (n1 c1 : Nat) (l1 : List Ent) (A2 : Option Addr) (n2 c2 : Nat) (l2 : List Ent) (w : World) (ha0 : SL eE w A0 n0 l0) (ha1 : SL eE w A1 n1 l1) (ha2 : SL eE w A2 n2 l2) (h0 : n0 ≤ 100) (h1 : n1 ≤ 100) (h2 : n2 ≤ 100) : Calls Try.prog 7 #[.slice A0 n0 c0, .slice A1 n1 c1, .slice A2 n2 c2] w fun e w' => e = .returned (.bool true) ∧ Below w.heap.size w w' := by
  have HA0 := hide ha0
  have HA1 := hide ha1
  have HA2 := hide ha2
  clear ha0 ha1 ha2
  obtain ⟨L, Q, er, hR⟩ : ∃ L Q er, merR l0 l1 l2 = (L, Q, er) := ⟨_, _, _, rfl⟩
  have HR := hide hR
  have HR2 := hide (show merR l0 l2 l1 = (L, Q, er) by rw [mer_comm]; exact hR)
  have HLB := hide (show L.length ≤ 64 ∧ Q.length ≤ 64 by have := merR_len l0 l1 l2; rw [hR] at this; exact this)
  have q1 : (er == er) = true := beq_self_eq_true _
  clear hR
  go_enter Try.func7, Try.ntmps7
  go_wp2_with fail
  refine (awake_yes w).mono ?_
  rintro e w1 ⟨rfl, b1⟩
  have B1 := hide b1
  clear b1
  go_wp2_with fail
  refine (few_any A0 n0 c0 w1 true (decide_eq_true h0)).mono ?_
  rintro e w2 ⟨rfl, rfl⟩
  go_wp2_with fail
  refine (few_any A1 n1 c1 w1 true (decide_eq_true h1)).mono ?_
  rintro e w2 ⟨rfl, rfl⟩
  go_wp2_with fail
  refine (few_any A2 n2 c2 w1 true (decide_eq_true h2)).mono ?_
  rintro e w2 ⟨rfl, rfl⟩
  have S_0 := hide (HA0.out.keep B1.out)
  have S_1 := hide (HA1.out.keep B1.out)
  have S_2 := hide (HA2.out.keep B1.out)
  go_wp2_with fail
  refine (merge_any A0 n0 c0 l0 A1 n1 c1 l1 A2 n2 c2 l2 w1 S_0.out S_1.out S_2.out (by omega) (by omega) (by omega)).mono ?_
  rintro e w11 h
  obtain ⟨A_l, c_l, n_l, A_x, c_x, n_x, rfl, hn, hn2, s, s2, b⟩ := givM_is HR.out h
  have hn_l : n_l ≤ 100 := Nat.le_trans (by rw [← hn]; exact (HLB.out).1) (by decide)
  have hn_x : n_x ≤ 100 := Nat.le_trans (by rw [← hn2]; exact (HLB.out).2) (by decide)
  have S_0 := hide (S_0.out.keep b)
  have S_1 := hide (S_1.out.keep b)
  have S_2 := hide (S_2.out.keep b)
  have B2 := hide (Below.next B1.out b)
  have S_l := hide s
  have S_x := hide s2
  have HL_l := hide hn
  have HL_x := hide hn2
  clear h hn hn2 s s2 b
  go_wp2_with fail
  refine (merge_any A0 n0 c0 l0 A2 n2 c2 l2 A1 n1 c1 l1 w11 S_0.out S_2.out S_1.out (by omega) (by omega) (by omega)).mono ?_
  rintro e w12 h
  obtain ⟨A_m, c_m, n_m, A_y, c_y, n_y, rfl, hn, hn2, s, s2, b⟩ := givM_is HR2.out h
  have hn_m : n_m ≤ 100 := Nat.le_trans (by rw [← hn]; exact (HLB.out).1) (by decide)
  have hn_y : n_y ≤ 100 := Nat.le_trans (by rw [← hn2]; exact (HLB.out).2) (by decide)
  have S_0 := hide (S_0.out.keep b)
  have S_1 := hide (S_1.out.keep b)
  have S_2 := hide (S_2.out.keep b)
  have S_l := hide (S_l.out.keep b)
  have S_x := hide (S_x.out.keep b)
  have B3 := hide (Below.next B2.out b)
  have S_m := hide s
  have S_y := hide s2
  have HL_m := hide hn
  have HL_y := hide hn2
  clear h hn hn2 s s2 b
  go_wp2_with fail
  refine (rmerge_any A0 n0 c0 l0 A1 n1 c1 l1 A2 n2 c2 l2 w12 S_0.out S_1.out S_2.out (by omega) (by omega) (by omega)).mono ?_
  rintro e w13 h
  obtain ⟨A_t, c_t, n_t, A_z, c_z, n_z, rfl, hn, hn2, s, s2, b⟩ := givM_is HR.out h
  have hn_t : n_t ≤ 100 := Nat.le_trans (by rw [← hn]; exact (HLB.out).1) (by decide)
  have hn_z : n_z ≤ 100 := Nat.le_trans (by rw [← hn2]; exact (HLB.out).2) (by decide)
  have S_0 := hide (S_0.out.keep b)
  have S_1 := hide (S_1.out.keep b)
  have S_2 := hide (S_2.out.keep b)
  have S_l := hide (S_l.out.keep b)
  have S_x := hide (S_x.out.keep b)
  have S_m := hide (S_m.out.keep b)
  have S_y := hide (S_y.out.keep b)
  have B4 := hide (Below.next B3.out b)
  have S_t := hide s
  have S_z := hide s2
  have HL_t := hide hn
  have HL_z := hide hn2
  clear h hn hn2 s s2 b
  go_wp2_with fail
  refine (baseE_any A_l n_l c_l L A_t n_t c_t L w13 S_l.out S_t.out (by omega) (by omega) true (decide_eq_true rfl)).mono ?_
  rintro e w14 ⟨rfl, g⟩
  have b := g.below
  have S_0 := hide (S_0.out.keep b)
  have S_1 := hide (S_1.out.keep b)
  have S_2 := hide (S_2.out.keep b)
  have S_l := hide (S_l.out.keep b)
  have S_x := hide (S_x.out.keep b)
  have S_m := hide (S_m.out.keep b)
  have S_y := hide (S_y.out.keep b)
  have S_t := hide (S_t.out.keep b)
  have S_z := hide (S_z.out.keep b)
  have B5 := hide (Below.next B4.out b)
  clear g b
  go_wp2_with fail
  refine (baseE_any A_m n_m c_m L A_t n_t c_t L w14 S_m.out S_t.out (by omega) (by omega) true (decide_eq_true rfl)).mono ?_
  rintro e w15 ⟨rfl, g⟩
  have b := g.below
  have S_0 := hide (S_0.out.keep b)
  have S_1 := hide (S_1.out.keep b)
  have S_2 := hide (S_2.out.keep b)
  have S_l := hide (S_l.out.keep b)
  have S_x := hide (S_x.out.keep b)
  have S_m := hide (S_m.out.keep b)
  have S_y := hide (S_y.out.keep b)
  have S_t := hide (S_t.out.keep b)
  have S_z := hide (S_z.out.keep b)
  have B6 := hide (Below.next B5.out b)
  clear g b
  go_wp2_with fail
  refine (baseI_any A_x n_x c_x Q A_z n_z c_z Q w15 S_x.out S_z.out (by omega) (by omega) true (decide_eq_true rfl)).mono ?_
  rintro e w16 ⟨rfl, g⟩
  have b := g.below
  have S_0 := hide (S_0.out.keep b)
  have S_1 := hide (S_1.out.keep b)
  have S_2 := hide (S_2.out.keep b)
  have S_l := hide (S_l.out.keep b)
  have S_x := hide (S_x.out.keep b)
  have S_m := hide (S_m.out.keep b)
  have S_y := hide (S_y.out.keep b)
  have S_t := hide (S_t.out.keep b)
  have S_z := hide (S_z.out.keep b)
  have B7 := hide (Below.next B6.out b)
  clear g b
  go_wp2_with fail
  refine (baseI_any A_y n_y c_y Q A_z n_z c_z Q w16 S_y.out S_z.out (by omega) (by omega) true (decide_eq_true rfl)).mono ?_
  rintro e w17 ⟨rfl, g⟩
  have b := g.below
  have S_0 := hide (S_0.out.keep b)
  have S_1 := hide (S_1.out.keep b)
  have S_2 := hide (S_2.out.keep b)
  have S_l := hide (S_l.out.keep b)
  have S_x := hide (S_x.out.keep b)
  have S_m := hide (S_m.out.keep b)
  have S_y := hide (S_y.out.keep b)
  have S_t := hide (S_t.out.keep b)
  have S_z := hide (S_z.out.keep b)
  have B8 := hide (Below.next B7.out b)
  clear g b
  go_wp2_with fail
  go_ret
  exact ⟨rfl, B8.out⟩

theorem mes_all (A0 : Option Addr) (n0 c0 : Nat) (l0 : List Ent) (A1 : Option Addr) (n1 c1 : Nat) (l1 : List Ent) (A2 : Option Addr) (n2 c2 : Nat) (l2 : List Ent) (w : World) (ha0 : SL eE w A0 n0 l0) (ha1 : SL eE w A1 n1 l1) (ha2 : SL eE w A2 n2 l2) : Calls Try.prog 7 #[.slice A0 n0 c0, .slice A1 n1 c1, .slice A2 n2 c2] w fun e w' => e = .returned (.bool true) ∧ Below w.heap.size w w' := by
  by_cases h0 : n0 ≤ 100
  · skip
    by_cases h1 : n1 ≤ 100
    · skip
      by_cases h2 : n2 ≤ 100
      · exact mes_main A0 n0 c0 l0 A1 n1 c1 l1 A2 n2 c2 l2 w ha0 ha1 ha2 h0 h1 h2
      · exact mes_few2 A0 n0 c0 A1 n1 c1 A2 n2 c2 w h0 h1 h2
    · exact mes_few1 A0 n0 c0 A1 n1 c1 A2 n2 c2 w h0 h1
  · exact mes_few0 A0 n0 c0 A1 n1 c1 A2 n2 c2 w h0
end Go.Proofs.Ytadmiecoahohiaa
