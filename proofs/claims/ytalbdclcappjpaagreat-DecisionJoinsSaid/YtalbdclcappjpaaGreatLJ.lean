/- DecisionJoins. -/
import Derived.Test.YtalbdclcappjpaaGreatRJ
namespace Go.Proofs.YtalbdclcappjpaaGreat
open Go Go.RowKit Go.Lib

set_option maxHeartbeats 4000000 in
set_option maxRecDepth 100000 in
theorem joi_few0 (A0 : Option Addr) (n0 c0 : Nat) (A1 : Option Addr) (n1 c1 : Nat)  (w : World)  (h0 : ¬ n0 ≤ 60) : Calls Tryz.prog 3 #[.slice A0 n0 c0, .slice A1 n1 c1] w fun e w' => e = .returned (.bool true) ∧ Below w.heap.size w w' := by
  go_enter Tryz.func3, Tryz.ntmps3
  go_wp2_with fail
  refine (awake_yes w).mono ?_
  rintro e w1 ⟨rfl, b1⟩
  have B1 := hide b1
  clear b1
  go_wp2_with fail
  refine (few_any A0 n0 c0 w1 false (decide_eq_false h0)).mono ?_
  rintro e w2 ⟨rfl, rfl⟩
  go_wp2_with fail
  refine (awake_yes w1).mono ?_
  rintro e w2 ⟨rfl, b2⟩
  have B2 := hide (Below.next B1.out b2)
  clear b2
  go_wp2_with fail
  go_ret
  exact ⟨rfl, B2.out⟩

set_option maxHeartbeats 4000000 in
set_option maxRecDepth 100000 in
theorem joi_few1 (A0 : Option Addr) (n0 c0 : Nat) (A1 : Option Addr) (n1 c1 : Nat)  (w : World) (h0 : n0 ≤ 60) (h1 : ¬ n1 ≤ 60) : Calls Tryz.prog 3 #[.slice A0 n0 c0, .slice A1 n1 c1] w fun e w' => e = .returned (.bool true) ∧ Below w.heap.size w w' := by
  go_enter Tryz.func3, Tryz.ntmps3
  go_wp2_with fail
  refine (awake_yes w).mono ?_
  rintro e w1 ⟨rfl, b1⟩
  have B1 := hide b1
  clear b1
  go_wp2_with fail
  refine (few_any A0 n0 c0 w1 true (decide_eq_true h0)).mono ?_
  rintro e w2 ⟨rfl, rfl⟩
  go_wp2_with fail
  refine (few_any A1 n1 c1 w1 false (decide_eq_false h1)).mono ?_
  rintro e w2 ⟨rfl, rfl⟩
  go_wp2_with fail
  refine (awake_yes w1).mono ?_
  rintro e w2 ⟨rfl, b2⟩
  have B2 := hide (Below.next B1.out b2)
  clear b2
  go_wp2_with fail
  go_ret
  exact ⟨rfl, B2.out⟩

set_option maxHeartbeats 16000000 in
set_option maxRecDepth 100000 in
theorem joi_main (A0 : Option Addr) (n0 c0 : Nat) (ops0 : List Opr) (A1 : Option Addr) (n1 c1 : Nat) (ops1 : List Opr)  (w : World) (ha0 : AR w w.heap.size A0 n0 ops0) (ha1 : AR w w.heap.size A1 n1 ops1) (h0 : n0 ≤ 60) (h1 : n1 ≤ 60) : Calls Tryz.prog 3 #[.slice A0 n0 c0, .slice A1 n1 c1] w fun e w' => e = .returned (.bool true) ∧ Below w.heap.size w w' := by
  have HA0 := hide ha0
  have HA1 := hide ha1
  clear ha0 ha1
  go_enter Tryz.func3, Tryz.ntmps3
  go_wp2_with fail
  refine (awake_yes w).mono ?_
  rintro e w1 ⟨rfl, b1⟩
  have B1 := hide b1
  clear b1
  go_wp2_with fail
  refine (few_any A0 n0 c0 w1 true (decide_eq_true h0)).mono ?_
  rintro e w2 ⟨rfl, rfl⟩
  go_wp2_with fail
  refine (few_any A1 n1 c1 w1 true (decide_eq_true h1)).mono ?_
  rintro e w2 ⟨rfl, rfl⟩
  go_wp2_with fail
  have E1 := hide (show Ext w.heap.size w w1 from ⟨Nat.le_refl _, B1.out⟩)
  have L0 := hide (show Lot w1 w.heap.size [] from Lot.nil_ B1.out.size)

  refine (mades_any A0 n0 c0 ops0 w1 _ _ L0.out (HA0.out.ext E1.out) h0).mono ?_
  rintro e w2 ⟨p0, rfl, l2, x2⟩
  have L1 := hide (show Lot w2 w.heap.size [.prog p0 (runL ops0)] from l2)
  have E2 := hide (E1.out.ext x2)
  clear l2 x2 L0 E1
  go_wp2_with fail
  refine (mades_any A1 n1 c1 ops1 w2 _ _ L1.out (HA1.out.ext E2.out) h1).mono ?_
  rintro e w3 ⟨p1, rfl, l2, x2⟩
  have L2 := hide (show Lot w3 w.heap.size [.prog p0 (runL ops0), .prog p1 (runL ops1)] from l2)
  have E3 := hide (E2.out.ext x2)
  clear l2 x2 L1 E2
  go_wp2_with fail
  refine (mades_any A0 n0 c0 ops0 w3 _ _ L2.out (HA0.out.ext E3.out) h0).mono ?_
  rintro e w4 ⟨p2, rfl, l2, x2⟩
  have L3 := hide (show Lot w4 w.heap.size [.prog p0 (runL ops0), .prog p1 (runL ops1), .prog p2 (runL ops0)] from l2)
  have E4 := hide (E3.out.ext x2)
  clear l2 x2 L2 E3
  go_wp2_with fail
  refine (mades_any A1 n1 c1 ops1 w4 _ _ L3.out (HA1.out.ext E4.out) h1).mono ?_
  rintro e w5 ⟨p3, rfl, l2, x2⟩
  have L4 := hide (show Lot w5 w.heap.size [.prog p0 (runL ops0), .prog p1 (runL ops1), .prog p2 (runL ops0), .prog p3 (runL ops1)] from l2)
  have E5 := hide (E4.out.ext x2)
  clear l2 x2 L3 E4
  go_wp2_with fail
  refine (model_any A0 n0 c0 ops0 w5 _ _ L4.out (HA0.out.ext E5.out) (Nat.le_trans h0 (by decide))).mono ?_
  rintro e w6 ⟨q, rfl, l6, x6⟩
  obtain ⟨s, hs⟩ : ∃ s, runL ops0 = s := ⟨_, rfl⟩
  obtain ⟨t, ht⟩ : ∃ s, runL ops1 = s := ⟨_, rfl⟩
  have K0 := hide (show s.Ok from hs ▸ runL_ok ops0)
  have K1 := hide (show t.Ok from ht ▸ runL_ok ops1)
  have L5 := hide (show Lot w6 w.heap.size [.prog p0 s, .prog p1 t, .prog p2 s, .prog p3 t, .refr q s] from by
    have := l6
    rw [hs, ht] at this
    exact this)
  have HT := hide ht
  have E6 := hide (E5.out.ext x6)
  clear l6 x6 L4 E5 hs ht
  go_wp2_with fail
  refine (lot_join w6 _ _ 0 p0 1 p1 s t L5.out rfl rfl).mono ?_
  rintro e w7 ⟨rfl, l7, x7⟩
  have L6 := hide (show Lot w7 w.heap.size [.prog p0 (jL s t), .prog p1 t, .prog p2 s, .prog p3 t, .refr q s] from l7)
  have E7 := hide (E6.out.ext x7)
  have VC := hide (jE_comm K0.out K1.out)
  obtain ⟨v, hv⟩ : ∃ v, jE s t = v := ⟨_, rfl⟩
  have HV := hide hv
  rw [hv]
  rw [hv] at VC
  have e1 : (v == v) = true := beq_iff_eq.2 rfl
  clear l7 x7 L5 E6 hv
  go_wp2_with fail
  refine (model_any A1 n1 c1 ops1 w7 _ _ L6.out (HA1.out.ext E7.out) (Nat.le_trans h1 (by decide))).mono ?_
  rintro e w8 ⟨q2, rfl, l8, x8⟩
  have L7 := hide (show Lot w8 w.heap.size [.prog p0 (jL s t), .prog p1 t, .prog p2 s, .prog p3 t, .refr q s, .refr q2 t] from by
    have := l8
    rw [HT.out] at this
    exact this)
  have E8 := hide (E7.out.ext x8)
  clear l8 x8 L6 E7
  go_wp2_with fail
  refine (lot_rjoin w8 _ _ 4 q 5 q2 s t L7.out rfl rfl).mono ?_
  rintro e w9 ⟨rfl, l9, x9⟩
  have L8 := hide (show Lot w9 w.heap.size [.prog p0 (jL s t), .prog p1 t, .prog p2 s, .prog p3 t, .refr q (jL s t), .refr q2 t] from l9)
  have E9 := hide (E8.out.ext x9)
  rw [HV.out]
  clear l9 x9 L7 E8
  go_wp2_with fail
  refine (same_all w9 _ _ 0 4 p0 q _ _ L8.out rfl rfl true (decide_eq_true rfl)).mono ?_
  rintro e w10 ⟨rfl, l10, x10⟩
  have L9 := hide l10
  have E10 := hide (E9.out.ext x10)
  clear l10 x10 L8 E9
  go_wp2_with fail
  refine (lot_same w10 _ _ 1 p1 3 p3 _ _ L9.out rfl rfl true (decide_eq_true rfl)).mono ?_
  rintro e w11 ⟨rfl, l11, x11⟩
  have L10 := hide l11
  have E11 := hide (E10.out.ext x11)
  clear l11 x11 L9 E10
  go_wp2_with fail
  refine (lot_join w11 _ _ 3 p3 2 p2 t s L10.out rfl rfl).mono ?_
  rintro e w12 ⟨rfl, l12, x12⟩
  have L11 := hide (show Lot w12 w.heap.size [.prog p0 (jL s t), .prog p1 t, .prog p2 s, .prog p3 (jL t s), .refr q (jL s t), .refr q2 t] from l12)
  have E12 := hide (E11.out.ext x12)
  rw [← VC.out]
  clear l12 x12 L10 E11
  by_cases hv0 : v = 0
  · have J0 := hide (show jE s t = 0 from HV.out.trans hv0)
    have JC := hide (jL_comm K0.out K1.out J0.out)
    have JB := hide (show jL s t = both s t from by unfold jL; rw [if_pos J0.out])
    have JA := hide (both_again K0.out K1.out J0.out)
    have JS := hide (both_self (both_ok K0.out K1.out J0.out))
    have L12 := hide (show Lot w12 w.heap.size [.prog p0 (both s t), .prog p1 t, .prog p2 s, .prog p3 (both s t), .refr q (both s t), .refr q2 t] from by
      have := L11.out
      rw [← JC.out, JB.out] at this
      exact this)
    subst hv0
    clear L11 e1
    go_wp2_with fail
    refine (lot_same w12 _ _ 0 p0 3 p3 _ _ L12.out rfl rfl true (decide_eq_true rfl)).mono ?_
    rintro e w13 ⟨rfl, l13, x13⟩
    have L13 := hide l13
    have E13 := hide (E12.out.ext x13)
    clear l13 x13 L12 E12
    go_wp2_with fail
    refine (lot_join w13 _ _ 0 p0 1 p1 (both s t) t L13.out rfl rfl).mono ?_
    rintro e w14 ⟨rfl, l14, x14⟩
    have L14 := hide (show Lot w14 w.heap.size [.prog p0 (both s t), .prog p1 t, .prog p2 s, .prog p3 (both s t), .refr q (both s t), .refr q2 t] from by
      have := l14
      rw [JA.out.2] at this
      exact this)
    have E14 := hide (E13.out.ext x14)
    rw [JA.out.1]
    clear l14 x14 L13 E13
    go_wp2_with fail
    refine (lot_join w14 _ _ 0 p0 0 p0 (both s t) (both s t) L14.out rfl rfl).mono ?_
    rintro e w15 ⟨rfl, l15, x15⟩
    have L15 := hide (show Lot w15 w.heap.size [.prog p0 (both s t), .prog p1 t, .prog p2 s, .prog p3 (both s t), .refr q (both s t), .refr q2 t] from by
      have := l15
      rw [JS.out.2] at this
      exact this)
    have E15 := hide (E14.out.ext x15)
    rw [JS.out.1]
    clear l15 x15 L14 E14
    go_wp2_with fail
    refine (same_all w15 _ _ 0 4 p0 q _ _ L15.out rfl rfl true (decide_eq_true rfl)).mono ?_
    rintro e w16 ⟨rfl, l16, x16⟩
    have E16 := hide (E15.out.ext x16)
    clear l16 x16
    go_wp2_with fail
    go_ret
    exact ⟨rfl, E16.out.2⟩
  · have e2 : (v == 0) = false := beq_eq_false_iff_ne.2 hv0
    have e3 : (v != 0) = true := by simp [bne, e2]
    have L12 := hide (show Lot w12 w.heap.size [.prog p0 s, .prog p1 t, .prog p2 s, .prog p3 t, .refr q (jL s t), .refr q2 t] from by
      have h3 : jL s t = s := by unfold jL; rw [if_neg (by rw [HV.out]; exact hv0)]
      have h4 : jL t s = t := by unfold jL; rw [if_neg (by rw [← VC.out]; exact hv0)]
      have := L11.out
      rw [h4] at this
      rw [show (Ob.prog p0 s) = Ob.prog p0 (jL s t) by rw [h3]]
      exact this)
    clear L11 hv0
    go_wp2_with fail
    refine (lot_same w12 _ _ 0 p0 2 p2 _ _ L12.out rfl rfl true (decide_eq_true rfl)).mono ?_
    rintro e w13 ⟨rfl, l13, x13⟩
    have L13 := hide l13
    have E13 := hide (E12.out.ext x13)
    clear l13 x13 L12 E12
    go_wp2_with fail
    refine (lot_same w13 _ _ 3 p3 1 p1 _ _ L13.out rfl rfl true (decide_eq_true rfl)).mono ?_
    rintro e w14 ⟨rfl, l14, x14⟩
    have E14 := hide (E13.out.ext x14)
    clear l14 x14
    go_wp2_with fail
    go_ret
    exact ⟨rfl, E14.out.2⟩

theorem joi_all (A0 : Option Addr) (n0 c0 : Nat) (ops0 : List Opr) (A1 : Option Addr) (n1 c1 : Nat) (ops1 : List Opr)  (w : World) (ha0 : AR w w.heap.size A0 n0 ops0) (ha1 : AR w w.heap.size A1 n1 ops1) : Calls Tryz.prog 3 #[.slice A0 n0 c0, .slice A1 n1 c1] w fun e w' => e = .returned (.bool true) ∧ Below w.heap.size w w' := by
  by_cases h0 : n0 ≤ 60
  · skip
    by_cases h1 : n1 ≤ 60
    · exact joi_main A0 n0 c0 ops0 A1 n1 c1 ops1  w ha0 ha1 h0 h1
    · exact joi_few1 A0 n0 c0 A1 n1 c1  w h0 h1
  · exact joi_few0 A0 n0 c0 A1 n1 c1  w h0
end Go.Proofs.YtalbdclcappjpaaGreat
