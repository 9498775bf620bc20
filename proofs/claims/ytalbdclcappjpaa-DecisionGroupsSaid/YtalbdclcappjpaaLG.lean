/- DecisionGroups. -/
import Derived.Test.YtalbdclcappjpaaOA
namespace Go.Proofs.Ytalbdclcappjpaa
open Go Go.RowKit Go.Lib
theorem jL_both {s t : Led} (h : jE s t = 0) : jL s t = both s t := by unfold jL; rw [if_pos h]

set_option maxHeartbeats 4000000 in
set_option maxRecDepth 100000 in
theorem grp_few0 (A0 : Option Addr) (n0 c0 : Nat) (A1 : Option Addr) (n1 c1 : Nat) (A2 : Option Addr) (n2 c2 : Nat)  (w : World)  (h0 : ¬ n0 ≤ 60) : Calls Try.prog 6 #[.slice A0 n0 c0, .slice A1 n1 c1, .slice A2 n2 c2] w fun e w' => e = .returned (.bool true) ∧ Below w.heap.size w w' := by
  go_enter Try.func6, Try.ntmps6
  go_wp2_with fail
  refine (awake_yes w).mono ?_
  rintro e w1 ⟨rfl, b1⟩
  have B1 := hide b1
  clear b1
  go_wp2_with fail
  refine (few_any A0 n0 c0 w1 false (decide_eq_false h0)).mono ?_
  rintro e w2 ⟨rfl, rfl⟩
  go_wp2_with fail
  refine (awake_yes w1).mono ?_
  rintro e w2 ⟨rfl, b2⟩
  have B2 := hide (Below.next B1.out b2)
  clear b2
  go_wp2_with fail
  go_ret
  exact ⟨rfl, B2.out⟩

set_option maxHeartbeats 4000000 in
set_option maxRecDepth 100000 in
theorem grp_few1 (A0 : Option Addr) (n0 c0 : Nat) (A1 : Option Addr) (n1 c1 : Nat) (A2 : Option Addr) (n2 c2 : Nat)  (w : World) (h0 : n0 ≤ 60) (h1 : ¬ n1 ≤ 60) : Calls Try.prog 6 #[.slice A0 n0 c0, .slice A1 n1 c1, .slice A2 n2 c2] w fun e w' => e = .returned (.bool true) ∧ Below w.heap.size w w' := by
  go_enter Try.func6, Try.ntmps6
  go_wp2_with fail
  refine (awake_yes w).mono ?_
  rintro e w1 ⟨rfl, b1⟩
  have B1 := hide b1
  clear b1
  go_wp2_with fail
  refine (few_any A0 n0 c0 w1 true (decide_eq_true h0)).mono ?_
  rintro e w2 ⟨rfl, rfl⟩
  go_wp2_with fail
  refine (few_any A1 n1 c1 w1 false (decide_eq_false h1)).mono ?_
  rintro e w2 ⟨rfl, rfl⟩
  go_wp2_with fail
  refine (awake_yes w1).mono ?_
  rintro e w2 ⟨rfl, b2⟩
  have B2 := hide (Below.next B1.out b2)
  clear b2
  go_wp2_with fail
  go_ret
  exact ⟨rfl, B2.out⟩

set_option maxHeartbeats 4000000 in
set_option maxRecDepth 100000 in
theorem grp_few2 (A0 : Option Addr) (n0 c0 : Nat) (A1 : Option Addr) (n1 c1 : Nat) (A2 : Option Addr) (n2 c2 : Nat)  (w : World) (h0 : n0 ≤ 60) (h1 : n1 ≤ 60) (h2 : ¬ n2 ≤ 60) : Calls Try.prog 6 #[.slice A0 n0 c0, .slice A1 n1 c1, .slice A2 n2 c2] w fun e w' => e = .returned (.bool true) ∧ Below w.heap.size w w' := by
  go_enter Try.func6, Try.ntmps6
  go_wp2_with fail
  refine (awake_yes w).mono ?_
  rintro e w1 ⟨rfl, b1⟩
  have B1 := hide b1
  clear b1
  go_wp2_with fail
  refine (few_any A0 n0 c0 w1 true (decide_eq_true h0)).mono ?_
  rintro e w2 ⟨rfl, rfl⟩
  go_wp2_with fail
  refine (few_any A1 n1 c1 w1 true (decide_eq_true h1)).mono ?_
  rintro e w2 ⟨rfl, rfl⟩
  go_wp2_with fail
  refine (few_any A2 n2 c2 w1 false (decide_eq_false h2)).mono ?_
  rintro e w2 ⟨rfl, rfl⟩
  go_wp2_with fail
  refine (awake_yes w1).mono ?_
  rintro e w2 ⟨rfl, b2⟩
  have B2 := hide (Below.next B1.out b2)
  clear b2
  go_wp2_with fail
  go_ret
  exact ⟨rfl, B2.out⟩

set_option maxHeartbeats 16000000 in
set_option maxRecDepth 100000 in
theorem grp_main (A0 : Option Addr) (n0 c0 : Nat) (ops0 : List Opr) (A1 : Option Addr) (n1 c1 : Nat) (ops1 : List Opr) (A2 : Option Addr) (n2 c2 : Nat) (ops2 : List Opr)  (w : World) (ha0 : AR w w.heap.size A0 n0 ops0) (ha1 : AR w w.heap.size A1 n1 ops1) (ha2 : AR w w.heap.size A2 n2 ops2) (h0 : n0 ≤ 60) (h1 : n1 ≤ 60) (h2 : n2 ≤ 60) : Calls Try.prog 6 #[.slice A0 n0 c0, .slice A1 n1 c1, .slice A2 n2 c2] w fun e w' => e = .returned (.bool true) ∧ Below w.heap.size w w' := by
  have HA0 := hide ha0
  have HA1 := hide ha1
  have HA2 := hide ha2
  clear ha0 ha1 ha2
  go_enter Try.func6, Try.ntmps6
  go_wp2_with fail
  refine (awake_yes w).mono ?_
  rintro e w1 ⟨rfl, b1⟩
  have B1 := hide b1
  clear b1
  go_wp2_with fail
  refine (few_any A0 n0 c0 w1 true (decide_eq_true h0)).mono ?_
  rintro e w2 ⟨rfl, rfl⟩
  go_wp2_with fail
  refine (few_any A1 n1 c1 w1 true (decide_eq_true h1)).mono ?_
  rintro e w2 ⟨rfl, rfl⟩
  go_wp2_with fail
  refine (few_any A2 n2 c2 w1 true (decide_eq_true h2)).mono ?_
  rintro e w2 ⟨rfl, rfl⟩
  go_wp2_with fail
  have E1 := hide (show Ext w.heap.size w w1 from ⟨Nat.le_refl _, B1.out⟩)
  have L0 := hide (show Lot w1 w.heap.size [] from Lot.nil_ B1.out.size)

  refine (mades_any A0 n0 c0 ops0 w1 _ _ L0.out (HA0.out.ext E1.out) h0).mono ?_
  rintro e w2 ⟨p0, rfl, l2, x2⟩
  have L1 := hide (show Lot w2 w.heap.size [.prog p0 (runL ops0)] from l2)
  have E2 := hide (E1.out.ext x2)
  clear l2 x2 L0 E1
  go_wp2_with fail
  refine (mades_any A1 n1 c1 ops1 w2 _ _ L1.out (HA1.out.ext E2.out) h1).mono ?_
  rintro e w3 ⟨p1, rfl, l2, x2⟩
  have L2 := hide (show Lot w3 w.heap.size [.prog p0 (runL ops0), .prog p1 (runL ops1)] from l2)
  have E3 := hide (E2.out.ext x2)
  clear l2 x2 L1 E2
  go_wp2_with fail
  refine (mades_any A2 n2 c2 ops2 w3 _ _ L2.out (HA2.out.ext E3.out) h2).mono ?_
  rintro e w4 ⟨p2, rfl, l2, x2⟩
  have L3 := hide (show Lot w4 w.heap.size [.prog p0 (runL ops0), .prog p1 (runL ops1), .prog p2 (runL ops2)] from l2)
  have E4 := hide (E3.out.ext x2)
  clear l2 x2 L2 E3
  go_wp2_with fail
  obtain ⟨s0, hs0⟩ : ∃ s, runL ops0 = s := ⟨_, rfl⟩
  obtain ⟨s1, hs1⟩ : ∃ s, runL ops1 = s := ⟨_, rfl⟩
  obtain ⟨s2, hs2⟩ : ∃ s, runL ops2 = s := ⟨_, rfl⟩
  have K0 := hide (show s0.Ok from hs0 ▸ runL_ok ops0)
  have K1 := hide (show s1.Ok from hs1 ▸ runL_ok ops1)
  have K2 := hide (show s2.Ok from hs2 ▸ runL_ok ops2)
  rw [hs0, hs1, hs2] at L3
  clear hs0 hs1 hs2
  refine (lot_clone w4 _ _ 0 p0 s0 L3.out rfl).mono ?_
  rintro e w5 ⟨x, rfl, l5, x5⟩
  have L4 := hide (show Lot w5 w.heap.size [.prog p0 s0, .prog p1 s1, .prog p2 s2, .prog x s0] from l5)
  have E5 := hide (E4.out.ext x5)
  clear l5 x5 L3 E4
  go_wp2_with fail
  refine (lot_clone w5 _ _ 1 p1 s1 L4.out rfl).mono ?_
  rintro e w6 ⟨y, rfl, l6, x6⟩
  have L5 := hide (show Lot w6 w.heap.size [.prog p0 s0, .prog p1 s1, .prog p2 s2, .prog x s0, .prog y s1] from l6)
  have E6 := hide (E5.out.ext x6)
  clear l6 x6 L4 E5
  go_wp2_with fail
  refine (lot_join w6 _ _ 3 x 1 p1 s0 s1 L5.out rfl rfl).mono ?_
  rintro e w7 ⟨rfl, l7, x7⟩
  have E7 := hide (E6.out.ext x7)
  by_cases j1 : jE s0 s1 = 0
  · have J1 := hide j1
    have L6 := hide (show Lot w7 w.heap.size [.prog p0 s0, .prog p1 s1, .prog p2 s2, .prog x (both s0 s1), .prog y s1] from by rw [← jL_both j1]; exact l7)
    rw [j1]
    clear l7 x7 L5 E6 j1
    go_wp2_with fail
    refine (lot_join w7 _ _ 3 x 2 p2 (both s0 s1) s2 L6.out rfl rfl).mono ?_
    rintro e w8 ⟨rfl, l8, x8⟩
    have E8 := hide (E7.out.ext x8)
    by_cases j2 : jE (both s0 s1) s2 = 0
    · have J3 := hide (join3 K0.out K1.out K2.out J1.out j2)
      have J4 := hide (both_ok (both_ok K0.out K1.out J1.out) K2.out j2)
      have L7 := hide (show Lot w8 w.heap.size [.prog p0 s0, .prog p1 s1, .prog p2 s2, .prog x (both (both s0 s1) s2), .prog y s1] from by rw [← jL_both j2]; exact l8)
      rw [j2]
      clear l8 x8 L6 E7 j2
      go_wp2_with fail
      refine (lot_join w8 _ _ 4 y 2 p2 s1 s2 L7.out rfl rfl).mono ?_
      rintro e w9 ⟨rfl, l9, x9⟩
      have E9 := hide (E8.out.ext x9)
      have L8 := hide (show Lot w9 w.heap.size [.prog p0 s0, .prog p1 s1, .prog p2 s2, .prog x (both (both s0 s1) s2), .prog y (both s1 s2)] from by rw [← jL_both J3.out.1]; exact l9)
      rw [J3.out.1]
      clear l9 x9 L7 E8
      go_wp2_with fail
      refine (lot_join w9 _ _ 0 p0 4 y s0 (both s1 s2) L8.out rfl rfl).mono ?_
      rintro e w10 ⟨rfl, l10, x10⟩
      have E10 := hide (E9.out.ext x10)
      have L9 := hide (show Lot w10 w.heap.size [.prog p0 (both (both s0 s1) s2), .prog p1 s1, .prog p2 s2, .prog x (both (both s0 s1) s2), .prog y (both s1 s2)] from by rw [show jL s0 (both s1 s2) = both (both s0 s1) s2 by rw [jL_both J3.out.2.1, J3.out.2.2]] at l10; exact l10)
      rw [J3.out.2.1]
      clear l10 x10 L8 E9
      go_wp2_with fail
      refine (lot_same w10 _ _ 0 p0 3 x _ _ L9.out rfl rfl true (decide_eq_true rfl)).mono ?_
      rintro e w11 ⟨rfl, l11, x11⟩
      have L10 := hide l11
      have E11 := hide (E10.out.ext x11)
      clear l11 x11 L9 E10
      go_wp2_with fail
      refine (lot_stand w11 _ _ 0 p0 _ L10.out rfl).mono ?_
      rintro e w12 ⟨A5, c5, rfl, l12, x12, -, -⟩
      have L11 := hide l12
      have E12 := hide (E11.out.ext x12)
      clear l12 x12 L10 E11
      go_wp2_with fail
      refine (lot_stand w12 _ _ 3 x _ L11.out rfl).mono ?_
      rintro e w13 ⟨A6, c6, rfl, l13, x13, -, -⟩
      have L12 := hide l13
      have E13 := hide (E12.out.ext x13)
      clear l13 x13 L11 E12
      obtain ⟨F1, r1⟩ := L12.out.get (i := 5) rfl
      obtain ⟨F2, r2⟩ := L12.out.get (i := 6) rfl
      have hst : (stL (both (both s0 s1) s2)).length ≤ 1000 := by
        have h1 := stL_len (both (both s0 s1) s2)
        have h2 := J4.out.2.2.1
        omega
      have R1 := hide r1.1
      have R2 := hide r2.1
      clear r1 r2
      go_wp2_with fail
      refine (baseD_any A5 _ c5 _ A6 _ c6 _ w13 R1.out R2.out hst hst true (decide_eq_true rfl)).mono ?_
      rintro e w14 ⟨rfl, g14⟩
      have E14 := hide (E13.out.gr g14)
      clear g14
      go_wp2_with fail
      go_ret
      exact ⟨rfl, E14.out.2⟩
    · obtain ⟨v, hv⟩ : ∃ v, jE (both s0 s1) s2 = v := ⟨_, rfl⟩
      rw [hv] at j2 ⊢
      have e0 : (v == 0) = false := beq_eq_false_iff_ne.2 j2
      have e1 : (v != 0) = true := by simp [bne, e0]
      clear l8 x8 hv j2
      go_wp2_with fail
      go_ret
      exact ⟨rfl, E8.out.2⟩
  · obtain ⟨v, hv⟩ : ∃ v, jE s0 s1 = v := ⟨_, rfl⟩
    rw [hv] at j1 ⊢
    have e0 : (v == 0) = false := beq_eq_false_iff_ne.2 j1
    have e1 : (v != 0) = true := by simp [bne, e0]
    clear l7 x7 hv j1
    go_wp2_with fail
    go_ret
    exact ⟨rfl, E7.out.2⟩

theorem grp_all (A0 : Option Addr) (n0 c0 : Nat) (ops0 : List Opr) (A1 : Option Addr) (n1 c1 : Nat) (ops1 : List Opr) (A2 : Option Addr) (n2 c2 : Nat) (ops2 : List Opr)  (w : World) (ha0 : AR w w.heap.size A0 n0 ops0) (ha1 : AR w w.heap.size A1 n1 ops1) (ha2 : AR w w.heap.size A2 n2 ops2) : Calls Try.prog 6 #[.slice A0 n0 c0, .slice A1 n1 c1, .slice A2 n2 c2] w fun e w' => e = .returned (.bool true) ∧ Below w.heap.size w w' := by
  by_cases h0 : n0 ≤ 60
  · skip
    by_cases h1 : n1 ≤ 60
    · skip
      by_cases h2 : n2 ≤ 60
      · exact grp_main A0 n0 c0 ops0 A1 n1 c1 ops1 A2 n2 c2 ops2  w ha0 ha1 ha2 h0 h1 h2
      · exact grp_few2 A0 n0 c0 A1 n1 c1 A2 n2 c2  w h0 h1 h2
    · exact grp_few1 A0 n0 c0 A1 n1 c1 A2 n2 c2  w h0 h1
  · exact grp_few0 A0 n0 c0 A1 n1 c1 A2 n2 c2  w h0
end Go.Proofs.Ytalbdclcappjpaa
