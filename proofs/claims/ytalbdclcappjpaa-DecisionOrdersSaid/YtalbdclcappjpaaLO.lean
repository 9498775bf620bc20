/- DecisionOrders. -/
import Derived.Test.YtalbdclcappjpaaOA
namespace Go.Proofs.Ytalbdclcappjpaa
open Go Go.RowKit Go.Lib

set_option maxHeartbeats 4000000 in
set_option maxRecDepth 100000 in
theorem ord_few0 (A0 : Option Addr) (n0 c0 : Nat)  (w : World)  (h0 : ¬ n0 ≤ 60) : Calls Try.prog 5 #[.slice A0 n0 c0] w fun e w' => e = .returned (.bool true) ∧ Below w.heap.size w w' := by
  go_enter Try.func5, Try.ntmps5
  go_wp2_with fail
  refine (awake_yes w).mono ?_
  rintro e w1 ⟨rfl, b1⟩
  have B1 := hide b1
  clear b1
  go_wp2_with fail
  refine (few_any A0 n0 c0 w1 false (decide_eq_false h0)).mono ?_
  rintro e w2 ⟨rfl, rfl⟩
  go_wp2_with fail
  refine (awake_yes w1).mono ?_
  rintro e w2 ⟨rfl, b2⟩
  have B2 := hide (Below.next B1.out b2)
  clear b2
  go_wp2_with fail
  go_ret
  exact ⟨rfl, B2.out⟩

set_option maxHeartbeats 16000000 in
set_option maxRecDepth 100000 in
theorem ord_main (A0 : Option Addr) (n0 c0 : Nat) (ops0 : List Opr)  (w : World) (ha0 : AR w w.heap.size A0 n0 ops0) (h0 : n0 ≤ 60) : Calls Try.prog 5 #[.slice A0 n0 c0] w fun e w' => e = .returned (.bool true) ∧ Below w.heap.size w w' := by
  have HA0 := hide ha0
  clear ha0
  go_enter Try.func5, Try.ntmps5
  go_wp2_with fail
  refine (awake_yes w).mono ?_
  rintro e w1 ⟨rfl, b1⟩
  have B1 := hide b1
  clear b1
  go_wp2_with fail
  refine (few_any A0 n0 c0 w1 true (decide_eq_true h0)).mono ?_
  rintro e w2 ⟨rfl, rfl⟩
  go_wp2_with fail
  have E1 := hide (show Ext w.heap.size w w1 from ⟨Nat.le_refl _, B1.out⟩)
  have L0 := hide (show Lot w1 w.heap.size [] from Lot.nil_ B1.out.size)

  refine (mades_any A0 n0 c0 ops0 w1 _ [] L0.out (HA0.out.ext E1.out) h0).mono ?_
  rintro e w2 ⟨p, rfl, l2, x2⟩
  have L2 := hide (show Lot w2 w.heap.size [.prog p (runL ops0)] from l2)
  have E2 := hide (E1.out.ext x2)
  have HLn := hide HA0.out.len
  clear l2 x2 L0 E1
  cases hf : fineL ops0 with
  | false =>
    go_wp2_with fail
    go_ret
    exact ⟨rfl, E2.out.2⟩
  | true =>
    have HC := hide (fineL_facts hf)
    clear hf
    go_wp2_with fail
    refine (lot_new w2 _ _ L2.out).mono ?_
    rintro e w3 ⟨q, rfl, l3, x3⟩
    have L3 := hide (show Lot w3 w.heap.size [.prog p (runL ops0), .prog q Led.none] from l3)
    have E3 := hide (E2.out.ext x3)
    clear l3 x3 L2 E2
    have i0 : IntKind.i64.wrap ((n0 : Int) - 1) = (n0 : Int) - 1 := IntWalk.i64_in _ (by omega)
    go_wp2_with fail
    clear i0
    go_loopw [6] (fun iv wr => ∃ k : Nat, iv = .int .i64 ((k : Int) - 1) ∧ k ≤ n0 ∧ Hid (∃ T : Led, Lot wr w.heap.size [.prog p (runL ops0), .prog q T] ∧ T.Ok ∧ Hol T (ops0.drop k) ∧ T.d.length ≤ 2 * (n0 - k) ∧ T.w.length ≤ 2 * (n0 - k)) ∧ Hid (Ext w.heap.size w wr)) (fun iv _ => (RowKit.intOf iv + 1).toNat)
    case atStart =>
      refine ⟨n0, rfl, Nat.le_refl _, hide ⟨Led.none, L3.out, none_ok, ?_, by simp [Led.none], by simp [Led.none]⟩, E3⟩
      rw [List.drop_of_length_le (by rw [HLn.out]; exact Nat.le_refl _)]
      exact hol_none
    case round =>
      obtain ⟨k, rfl, hk, HT, HE⟩ := hrel
      rcases Nat.eq_zero_or_pos k with rfl | hk0
      · obtain ⟨T, hT1, hT2, hT3, -, -⟩ := HT.out
        have hTe : T = runL ops0 := hol_eq hT2 (runL_ok _) hT3 HC.out.2
        subst hTe
        have L4 := hide hT1
        clear hT1 hT2 hT3 HT
        go_wp2_with fail
        refine (lot_same wr _ _ 0 p 1 q _ _ L4.out rfl rfl true (decide_eq_true rfl)).mono ?_
        rintro e w4 ⟨rfl, l4, x4⟩
        have L5 := hide l4
        have E5 := hide (HE.out.ext x4)
        clear l4 x4 L4
        go_wp2_with fail
        refine (lot_same w4 _ _ 1 q 0 p _ _ L5.out rfl rfl true (decide_eq_true rfl)).mono ?_
        rintro e w5 ⟨rfl, l5, x5⟩
        have L6 := hide l5
        have E6 := hide (E5.out.ext x5)
        clear l5 x5 L5 E5
        go_wp2_with fail
        refine (lot_stand w5 _ _ 0 p _ L6.out rfl).mono ?_
        rintro e w6 ⟨A5, c5, rfl, l6, x6, -, -⟩
        have L7 := hide l6
        have E7 := hide (E6.out.ext x6)
        clear l6 x6 L6 E6
        go_wp2_with fail
        refine (lot_stand w6 _ _ 1 q _ L7.out rfl).mono ?_
        rintro e w7 ⟨A6, c6, rfl, l7, x7, -, -⟩
        have L8 := hide l7
        have E8 := hide (E7.out.ext x7)
        clear l7 x7 L7 E7
        obtain ⟨F1, r1⟩ := L8.out.get (i := 2) rfl
        obtain ⟨F2, r2⟩ := L8.out.get (i := 3) rfl
        have hst : (stL (runL ops0)).length ≤ 1000 := by
          have h1 := stL_len (runL ops0)
          have h2 := (runL_ok ops0).2.2.1
          omega
        have R1 := hide r1.1
        have R2 := hide r2.1
        clear r1 r2
        go_wp2_with fail
        refine (baseD_any A5 _ c5 _ A6 _ c6 _ w7 R1.out R2.out hst hst true (decide_eq_true rfl)).mono ?_
        rintro e w8 ⟨rfl, g8⟩
        have E9 := hide (E8.out.gr g8)
        clear g8
        go_wp2_with fail
        go_ret
        exact ⟨rfl, E9.out.2⟩
      · obtain ⟨j, rfl⟩ : ∃ j, k = j + 1 := ⟨k - 1, by omega⟩
        have e1 : ((j + 1 : Nat) : Int) - 1 = (j : Int) := by omega
        rw [e1]
        obtain ⟨b, o, y, rfl, hb, hy, hc⟩ := (HA0.out.ext HE.out).at_ (show j < n0 by omega)
        obtain ⟨k0, k1, k2, k3, k4, k5, k6, k7⟩ := hc _ (Ext.refl (Nat.le_trans HE.out.1 HE.out.size))
        obtain ⟨T, hT1, hT2, hT3, hT4, hT5⟩ := HT.out
        have hmem := List.mem_of_getElem? hy
        have hdr : ops0.drop j = y :: ops0.drop (j + 1) := by
          have h1 := (List.getElem?_eq_some_iff.1 hy)
          rw [List.drop_eq_getElem_cons h1.1, h1.2]
        have hsub : ∀ x ∈ ops0.drop (j + 1), x ∈ ops0 := fun x hx => List.mem_of_mem_drop hx
        have c1 : T.code y = 0 := coh_code HC.out.1 hT3 hsub hmem (by omega) (by omega)
        have hH1 := hol_step hT3 c1
        have hl1 := step_len T y
        have c2 : (T.step y).code y = 0 := coh_code HC.out.1 hH1 (fun x hx => by
          rcases List.mem_cons.1 hx with h | h
          · rw [h]; exact hmem
          · exact hsub x h) hmem (by omega) (by omega)
        have hH2 := hol_dup (hol_step hH1 c2)
        have hl2 := step_len (T.step y) y
        have hok := step_ok (step_ok hT2 y) y
        have FIN := hide (show ((T.step y).step y).Ok ∧ Hol ((T.step y).step y) (ops0.drop j) ∧ ((T.step y).step y).d.length ≤ 2 * (n0 - j) ∧ ((T.step y).step y).w.length ≤ 2 * (n0 - j) from ⟨hok, by rw [hdr]; exact hH2, by omega, by omega⟩)
        have C1 := hide c1
        have C2 := hide c2
        have L4 := hide hT1
        have d0 : decide (0 ≤ (j : Int)) = true := decide_eq_true (by omega)
        have a1 : (0 : Int) ≤ (j : Int) := by omega
        have a2 : (j : Int) < (n0 : Int) := by omega
        have i1 : IntKind.i64.wrap ((j : Int) - 1) = (j : Int) - 1 := IntWalk.i64_in _ (by omega)
        have KX := hide hc
        clear hT1 hT2 hT3 hT4 hT5 hdr hsub c1 c2 hH1 hH2 hl1 hl2 hok hy HT e1 hc hmem
        go_wp2_with fail
        refine (lot_do wr _ _ 1 q _ y L4.out rfl).mono ?_
        rintro e w4 ⟨rfl, l4, x4⟩
        rw [C1.out]
        have L5 := hide l4
        have E5 := hide (HE.out.ext x4)
        obtain ⟨k0, k1, k2, k3, k4, k5, k6, k7⟩ := KX.out _ x4
        clear l4 L4
        go_wp2_with fail
        refine (lot_do w4 _ _ 1 q _ y L5.out rfl).mono ?_
        rintro e w5 ⟨rfl, l5, x5⟩
        rw [C2.out]
        have L6 := hide l5
        have E6 := hide (E5.out.ext x5)
        clear l5 x5 L5 E5 x4 k0 k1 k2 k3 k4 k5 k6 k7
        go_wp2_with fail
        go_roundw
        case rel => exact ⟨j, rfl, by omega, hide ⟨_, L6.out, FIN.out⟩, E6⟩
        case measure => simp [RowKit.intOf] <;> omega

theorem ord_all (A0 : Option Addr) (n0 c0 : Nat) (ops0 : List Opr)  (w : World) (ha0 : AR w w.heap.size A0 n0 ops0) : Calls Try.prog 5 #[.slice A0 n0 c0] w fun e w' => e = .returned (.bool true) ∧ Below w.heap.size w w' := by
  by_cases h0 : n0 ≤ 60
  · exact ord_main A0 n0 c0 ops0  w ha0 h0
  · exact ord_few0 A0 n0 c0  w h0
end Go.Proofs.Ytalbdclcappjpaa
