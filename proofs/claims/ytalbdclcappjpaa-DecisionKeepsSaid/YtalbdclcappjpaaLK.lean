/- DecisionKeeps. -/
import Derived.Test.YtalbdclcappjpaaOA
namespace Go.Proofs.Ytalbdclcappjpaa
open Go Go.RowKit Go.Lib
theorem lotDrew {w : World} {B : Nat} {l : List Ob} (h : Lot w B l) : Lot w.drew B l := h.keep (Below.refl _ _).drew
theorem lotAlloc {w : World} {B : Nat} {l : List Ob} (h : Lot w B l) (o : Obj) : Lot (w.alloc o) B l := h.keep ((Below.refl _ _).alloc (Nat.le_refl _) o)
theorem lotGr {w w' : World} {B : Nat} {l : List Ob} (h : Lot w B l) (g : Gr w w') : Lot w' B l := h.keep g.below

set_option maxHeartbeats 4000000 in
set_option maxRecDepth 100000 in
theorem kee_few0 (A0 : Option Addr) (n0 c0 : Nat)  (w : World)  (h0 : ¬ n0 ≤ 60) : Calls Try.prog 3 #[.slice A0 n0 c0] w fun e w' => e = .returned (.bool true) ∧ Below w.heap.size w w' := by
  go_enter Try.func3, Try.ntmps3
  go_wp2_with fail
  refine (awake_yes w).mono ?_
  rintro e w1 ⟨rfl, b1⟩
  have B1 := hide b1
  clear b1
  go_wp2_with fail
  refine (few_any A0 n0 c0 w1 false (decide_eq_false h0)).mono ?_
  rintro e w2 ⟨rfl, rfl⟩
  go_wp2_with fail
  refine (awake_yes w1).mono ?_
  rintro e w2 ⟨rfl, b2⟩
  have B2 := hide (Below.next B1.out b2)
  clear b2
  go_wp2_with fail
  go_ret
  exact ⟨rfl, B2.out⟩

set_option maxHeartbeats 16000000 in
set_option maxRecDepth 100000 in
theorem kee_main (A0 : Option Addr) (n0 c0 : Nat) (ops0 : List Opr)  (w : World) (ha0 : AR w w.heap.size A0 n0 ops0) (h0 : n0 ≤ 60) : Calls Try.prog 3 #[.slice A0 n0 c0] w fun e w' => e = .returned (.bool true) ∧ Below w.heap.size w w' := by
  have HA0 := hide ha0
  clear ha0
  go_enter Try.func3, Try.ntmps3
  go_wp2_with fail
  refine (awake_yes w).mono ?_
  rintro e w1 ⟨rfl, b1⟩
  have B1 := hide b1
  clear b1
  go_wp2_with fail
  refine (few_any A0 n0 c0 w1 true (decide_eq_true h0)).mono ?_
  rintro e w2 ⟨rfl, rfl⟩
  go_wp2_with fail
  have E1 := hide (show Ext w.heap.size w w1 from ⟨Nat.le_refl _, B1.out⟩)
  have L0 := hide (show Lot w1 w.heap.size [] from Lot.nil_ B1.out.size)

  refine (lot_new w1 _ [] L0.out).mono ?_
  rintro e w2 ⟨p, rfl, l2, x2⟩
  have L2 := hide (show Lot w2 w.heap.size [.prog p Led.none] from l2)
  have E2 := hide (E1.out.ext x2)
  have HLn := hide HA0.out.len
  clear l2 x2 L0 E1
  go_wp2_with fail
  refine (lot_rnew w2 _ _ L2.out).mono ?_
  rintro e w3 ⟨q, rfl, l3, x3⟩
  have L3 := hide (show Lot w3 w.heap.size [.prog p Led.none, .refr q Led.none] from l3)
  have E3 := hide (E2.out.ext x3)
  clear l3 x3 L2 E2
  go_wp2_with fail
  go_loopw [5] (fun iv wr => ∃ i : Nat, iv = .int .i64 (i : Int) ∧ i ≤ n0 ∧ Hid (Lot wr w.heap.size [.prog p (runL (ops0.take i)), .refr q (runL (ops0.take i))]) ∧ Hid (Ext w.heap.size w wr)) (fun iv _ => n0 - (RowKit.intOf iv).toNat)
  case atStart => exact ⟨0, rfl, Nat.zero_le _, L3, E3⟩
  case round =>
    obtain ⟨i, rfl, hi, HLot, HE⟩ := hrel
    by_cases hlt : i < n0
    · obtain ⟨b, o, y, rfl, hb, hy, hc⟩ := (HA0.out.ext HE.out).at_ hlt
      have hBw : w.heap.size ≤ wr.heap.size := Nat.le_trans HE.out.1 HE.out.size
      have KS := hide (show ∀ w', Ext w.heap.size wr w' → w'.cell? ⟨b, o + i * 8, none⟩ = some (.bool y.b) ∧ w'.cell? ⟨b, o + i * 8 + 1, none⟩ = some (.int .i64 y.d.u) ∧ w'.cell? ⟨b, o + i * 8 + 2, none⟩ = some (.int .i64 y.d.n) ∧ w'.cell? ⟨b, o + i * 8 + 3, none⟩ = some (.int .i64 y.d.k) ∧ w'.cell? ⟨b, o + i * 8 + 4, none⟩ = some (.int .i64 y.d.a) ∧ w'.cell? ⟨b, o + i * 8 + 5, none⟩ = some (.int .i64 y.d.b) ∧ w'.cell? ⟨b, o + i * 8 + 6, none⟩ = some (.int .i64 y.m.u) ∧ w'.cell? ⟨b, o + i * 8 + 7, none⟩ = some (.int .i64 y.m.n) from hc)
      have HR := hide (runL_next hy)
      obtain ⟨s, hs⟩ : ∃ s, runL (ops0.take i) = s := ⟨_, rfl⟩
      rw [hs] at HLot HR
      have DOK := hide (fun (W : World) (h : Lot W w.heap.size [.prog p s, .refr q s]) => show Calls Try.prog 14 #[.pointer (some ⟨p, 0, none⟩), .agg #[.bool y.b, .int .i64 y.d.u, .int .i64 y.d.n, .int .i64 y.d.k, .int .i64 y.d.a, .int .i64 y.d.b, .int .i64 y.m.u, .int .i64 y.m.n]] W (fun e w' => e = .returned (.int .i64 (s.code y)) ∧ Lot w' w.heap.size [.prog p (s.step y), .refr q s] ∧ Ext w.heap.size W w') from lot_do W _ _ 0 p s y h rfl)
      have RFK := hide (fun (W : World) (h : Lot W w.heap.size [.prog p (s.step y), .refr q s]) => show Calls Try.prog 15 #[.pointer (some ⟨q, 0, none⟩), .agg #[.bool y.b, .int .i64 y.d.u, .int .i64 y.d.n, .int .i64 y.d.k, .int .i64 y.d.a, .int .i64 y.d.b, .int .i64 y.m.u, .int .i64 y.m.n]] W (fun e w' => e = .returned (.int .i64 (s.code y)) ∧ Lot w' w.heap.size [.prog p (s.step y), .refr q (s.step y)] ∧ Ext w.heap.size W w') from lot_refer W _ _ 1 q s y h rfl)
      obtain ⟨v, hv⟩ : ∃ v, s.code y = v := ⟨_, rfl⟩
      rw [hv] at DOK RFK
      obtain ⟨vb, hvb⟩ : ∃ vb, vD y.d = vb := ⟨_, rfl⟩
      have HVB := hide hvb
      have d0 : decide ((i : Int) < (n0 : Int)) = true := decide_eq_true (by omega)
      have a1 : (0 : Int) ≤ (i : Int) := by omega
      have a2 : (i : Int) < (n0 : Int) := by omega
      have e1 : (v == v) = true := beq_iff_eq.2 rfl
      have e2 : (vb == vb) = true := beq_iff_eq.2 rfl
      clear hy hc hs hv hvb
      go_wp2_with fail
      go_region_held3 (fun w' => w'.cell? ⟨b, o + i * 8, none⟩ = some (.bool y.b) ∧ w'.cell? ⟨b, o + i * 8 + 1, none⟩ = some (.int .i64 y.d.u) ∧ w'.cell? ⟨b, o + i * 8 + 2, none⟩ = some (.int .i64 y.d.n) ∧ w'.cell? ⟨b, o + i * 8 + 3, none⟩ = some (.int .i64 y.d.k) ∧ w'.cell? ⟨b, o + i * 8 + 4, none⟩ = some (.int .i64 y.d.a) ∧ w'.cell? ⟨b, o + i * 8 + 5, none⟩ = some (.int .i64 y.d.b) ∧ w'.cell? ⟨b, o + i * 8 + 6, none⟩ = some (.int .i64 y.m.u) ∧ w'.cell? ⟨b, o + i * 8 + 7, none⟩ = some (.int .i64 y.m.n))
        (exact KS.out _ (by ((repeat (first | (with_reducible assumption) | (with_reducible exact Ext.refl hBw) | (with_reducible refine Ext.drew ?_) | (with_reducible refine Ext.alloc ?_ _) | (with_reducible refine Ext.gr ?_ (by assumption)) | (with_reducible refine Ext.ext ?_ (by assumption)))); (first | done | fail))))
        (first
          | (go_at_call 12; (with_reducible refine (valid_any y.d _ vb HVB.out).mono ?_); rintro e w4 ⟨rfl, g4⟩)
          | (go_at_call 13; (with_reducible refine (rvalid_any y.d _ vb HVB.out).mono ?_); rintro e w5 ⟨rfl, g5⟩)
          | (go_at_call 14; (with_reducible refine (DOK.out _ (by ((repeat (first | (with_reducible assumption) | (with_reducible exact HLot.out) | (with_reducible refine lotDrew ?_) | (with_reducible refine lotAlloc ?_ _) | (with_reducible refine lotGr ?_ (by assumption)))); (first | done | fail)))).mono ?_); rintro e w6 ⟨rfl, l6, x6⟩)
          | (go_at_call 15; (with_reducible refine (RFK.out _ (by ((repeat (first | (with_reducible assumption) | (with_reducible exact HLot.out) | (with_reducible refine lotDrew ?_) | (with_reducible refine lotAlloc ?_ _) | (with_reducible refine lotGr ?_ (by assumption)))); (first | done | fail)))).mono ?_); rintro e w7 ⟨rfl, l7, x7⟩))
      all_goals
        go_wp2_with fail
        go_roundw
        case rel => exact ⟨i + 1, by go_num, by omega, hide (by rw [HR.out]; exact (by ((repeat (first | (with_reducible assumption) | (with_reducible exact HLot.out) | (with_reducible refine lotDrew ?_) | (with_reducible refine lotAlloc ?_ _) | (with_reducible refine lotGr ?_ (by assumption)))); (first | done | fail)))), hide (HE.out.ext (by ((repeat (first | (with_reducible assumption) | (with_reducible exact Ext.refl hBw) | (with_reducible refine Ext.drew ?_) | (with_reducible refine Ext.alloc ?_ _) | (with_reducible refine Ext.gr ?_ (by assumption)) | (with_reducible refine Ext.ext ?_ (by assumption)))); (first | done | fail))))⟩
        case measure => simp [RowKit.intOf]; omega
    · obtain rfl : i = n0 := by omega
      have d0 : decide ((i : Int) < (i : Int)) = false := decide_eq_false (by omega)
      go_wp2_with fail
      refine (same_all wr _ _ 0 1 p q _ _ HLot.out rfl rfl true (decide_eq_true rfl)).mono ?_
      rintro e w4 ⟨rfl, l4, x4⟩
      have E4 := hide (HE.out.ext x4)
      clear l4 x4
      go_wp2_with fail
      go_ret
      exact ⟨rfl, E4.out.2⟩

theorem kee_all (A0 : Option Addr) (n0 c0 : Nat) (ops0 : List Opr)  (w : World) (ha0 : AR w w.heap.size A0 n0 ops0) : Calls Try.prog 3 #[.slice A0 n0 c0] w fun e w' => e = .returned (.bool true) ∧ Below w.heap.size w w' := by
  by_cases h0 : n0 ≤ 60
  · exact kee_main A0 n0 c0 ops0  w ha0 h0
  · exact kee_few0 A0 n0 c0  w h0
end Go.Proofs.Ytalbdclcappjpaa
