/- OpinionSides. -/
import Derived.Test.YtadmiecoahohiaaUX
namespace Go.Proofs.Ytadmiecoahohiaa
open Go Go.RowKit Go.Lib

set_option maxHeartbeats 4000000 in
set_option maxRecDepth 100000 in
theorem sid_few0 (A0 : Option Addr) (n0 c0 : Nat) (A1 : Option Addr) (n1 c1 : Nat) (w : World)  (h0 : ¬ n0 ≤ 100) : Calls Try.prog 10 #[.slice A0 n0 c0, .slice A1 n1 c1] w fun e w' => e = .returned (.bool true) ∧ Below w.heap.size w w' := by
  go_enter Try.func10, Try.ntmps10
  go_wp2_with fail
  refine (awake_yes w).mono ?_
  rintro e w1 ⟨rfl, b1⟩
  have B1 := hide b1
  clear b1
  go_wp2_with fail
  refine (few_any A0 n0 c0 w1 false (decide_eq_false h0)).mono ?_
  rintro e w2 ⟨rfl, rfl⟩
  go_wp2_with fail
  refine (awake_yes w1).mono ?_
  rintro e w2 ⟨rfl, b2⟩
  have B2 := hide (Below.next B1.out b2)
  clear b2
  go_wp2_with fail
  go_ret
  exact ⟨rfl, B2.out⟩

set_option maxHeartbeats 4000000 in
set_option maxRecDepth 100000 in
theorem sid_few1 (A0 : Option Addr) (n0 c0 : Nat) (A1 : Option Addr) (n1 c1 : Nat) (w : World) (h0 : n0 ≤ 100) (h1 : ¬ n1 ≤ 100) : Calls Try.prog 10 #[.slice A0 n0 c0, .slice A1 n1 c1] w fun e w' => e = .returned (.bool true) ∧ Below w.heap.size w w' := by
  go_enter Try.func10, Try.ntmps10
  go_wp2_with fail
  refine (awake_yes w).mono ?_
  rintro e w1 ⟨rfl, b1⟩
  have B1 := hide b1
  clear b1
  go_wp2_with fail
  refine (few_any A0 n0 c0 w1 true (decide_eq_true h0)).mono ?_
  rintro e w2 ⟨rfl, rfl⟩
  go_wp2_with fail
  refine (few_any A1 n1 c1 w1 false (decide_eq_false h1)).mono ?_
  rintro e w2 ⟨rfl, rfl⟩
  go_wp2_with fail
  refine (awake_yes w1).mono ?_
  rintro e w2 ⟨rfl, b2⟩
  have B2 := hide (Below.next B1.out b2)
  clear b2
  go_wp2_with fail
  go_ret
  exact ⟨rfl, B2.out⟩

set_option maxHeartbeats 16000000 in
set_option maxRecDepth 100000 in
theorem sid_main (A0 : Option Addr) (n0 c0 : Nat) (l0 : List Ent) (A1 : Option Addr) (n1 c1 : Nat) (l1 : List Ent) (w : World) (ha0 : SL eE w A0 n0 l0) (ha1 : SL eE w A1 n1 l1) (h0 : n0 ≤ 100) (h1 : n1 ≤ 100) : Calls Try.prog 10 #[.slice A0 n0 c0, .slice A1 n1 c1] w fun e w' => e = .returned (.bool true) ∧ Below w.heap.size w w' := by
  have HA0 := hide ha0
  have HA1 := hide ha1
  clear ha0 ha1
  cases hv0 : vE l0 with
  | true =>
    cases hv1 : vE l1 with
    | true =>
      have HR1 := hide (mer_side1 hv0 hv1)
      have HR2 := hide (mer_side2 hv0 hv1)
      have HV0 := hide hv0
      have HV1 := hide hv1
      have HLB := hide (show l1.length ≤ 64 ∧ ([] : List Int).length ≤ 64 from ⟨(vE_iff.1 hv1).1, Nat.zero_le _⟩)
      clear hv0 hv1
      go_enter Try.func10, Try.ntmps10
      go_wp2_with fail
      refine (awake_yes w).mono ?_
      rintro e w1 ⟨rfl, b1⟩
      have B1 := hide b1
      clear b1
      go_wp2_with fail
      refine (few_any A0 n0 c0 w1 true (decide_eq_true h0)).mono ?_
      rintro e w2 ⟨rfl, rfl⟩
      go_wp2_with fail
      refine (few_any A1 n1 c1 w1 true (decide_eq_true h1)).mono ?_
      rintro e w2 ⟨rfl, rfl⟩
      have S_0 := hide (HA0.out.keep B1.out)
      have S_1 := hide (HA1.out.keep B1.out)
      go_wp2_with fail
      refine (merge_any A0 n0 c0 l0 A0 n0 c0 l0 A1 n1 c1 l1 w1 S_0.out S_0.out S_1.out (by omega) (by omega) (by omega)).mono ?_
      rintro e w11 h
      obtain ⟨A_l, c_l, n_l, A_x, c_x, n_x, rfl, hn, hn2, s, s2, b⟩ := givM_is HR1.out h
      have hn_l : n_l ≤ 100 := Nat.le_trans (by rw [← hn]; exact (HLB.out).1) (by decide)
      have hn_x : n_x ≤ 100 := Nat.le_trans (by rw [← hn2]; exact (HLB.out).2) (by decide)
      have S_0 := hide (S_0.out.keep b)
      have S_1 := hide (S_1.out.keep b)
      have B2 := hide (Below.next B1.out b)
      have S_l := hide s
      have S_x := hide s2
      have HL_l := hide hn
      have HL_x := hide hn2
      clear h hn hn2 s s2 b
      obtain rfl : n_x = 0 := by have h5 := HL_x.out; rw [← h5]; rfl
      go_wp2_with fail
      refine (merge_any A0 n0 c0 l0 A1 n1 c1 l1 A1 n1 c1 l1 w11 S_0.out S_1.out S_1.out (by omega) (by omega) (by omega)).mono ?_
      rintro e w12 h
      obtain ⟨A_m, c_m, n_m, A_y, c_y, n_y, rfl, hn, hn2, s, s2, b⟩ := givM_is HR2.out h
      have hn_m : n_m ≤ 100 := Nat.le_trans (by rw [← hn]; exact (HLB.out).1) (by decide)
      have hn_y : n_y ≤ 100 := Nat.le_trans (by rw [← hn2]; exact (HLB.out).2) (by decide)
      have S_0 := hide (S_0.out.keep b)
      have S_1 := hide (S_1.out.keep b)
      have S_l := hide (S_l.out.keep b)
      have S_x := hide (S_x.out.keep b)
      have B3 := hide (Below.next B2.out b)
      have S_m := hide s
      have S_y := hide s2
      have HL_m := hide hn
      have HL_y := hide hn2
      clear h hn hn2 s s2 b
      obtain rfl : n_y = 0 := by have h5 := HL_y.out; rw [← h5]; rfl
      go_wp2_with fail
      refine (valid_any A0 n0 c0 l0 w12 S_0.out (by omega) true HV0.out).mono ?_
      rintro e w13 ⟨rfl, g⟩
      have b := g.below
      have S_0 := hide (S_0.out.keep b)
      have S_1 := hide (S_1.out.keep b)
      have S_l := hide (S_l.out.keep b)
      have S_x := hide (S_x.out.keep b)
      have S_m := hide (S_m.out.keep b)
      have S_y := hide (S_y.out.keep b)
      have B4 := hide (Below.next B3.out b)
      clear g b
      go_wp2_with fail
      refine (valid_any A1 n1 c1 l1 w13 S_1.out (by omega) true HV1.out).mono ?_
      rintro e w14 ⟨rfl, g⟩
      have b := g.below
      have S_0 := hide (S_0.out.keep b)
      have S_1 := hide (S_1.out.keep b)
      have S_l := hide (S_l.out.keep b)
      have S_x := hide (S_x.out.keep b)
      have S_m := hide (S_m.out.keep b)
      have S_y := hide (S_y.out.keep b)
      have B5 := hide (Below.next B4.out b)
      clear g b
      go_wp2_with fail
      refine (baseE_any A_l n_l c_l l1 A1 n1 c1 l1 w14 S_l.out S_1.out (by omega) (by omega) true (decide_eq_true rfl)).mono ?_
      rintro e w15 ⟨rfl, g⟩
      have b := g.below
      have S_0 := hide (S_0.out.keep b)
      have S_1 := hide (S_1.out.keep b)
      have S_l := hide (S_l.out.keep b)
      have S_x := hide (S_x.out.keep b)
      have S_m := hide (S_m.out.keep b)
      have S_y := hide (S_y.out.keep b)
      have B6 := hide (Below.next B5.out b)
      clear g b
      go_wp2_with fail
      refine (baseE_any A_m n_m c_m l1 A1 n1 c1 l1 w15 S_m.out S_1.out (by omega) (by omega) true (decide_eq_true rfl)).mono ?_
      rintro e w16 ⟨rfl, g⟩
      have b := g.below
      have S_0 := hide (S_0.out.keep b)
      have S_1 := hide (S_1.out.keep b)
      have S_l := hide (S_l.out.keep b)
      have S_x := hide (S_x.out.keep b)
      have S_m := hide (S_m.out.keep b)
      have S_y := hide (S_y.out.keep b)
      have B7 := hide (Below.next B6.out b)
      clear g b
      go_wp2_with fail
      go_ret
      exact ⟨rfl, B7.out⟩
    | false =>
      have HR1 := hide (show merR l0 l0 l1 = ([], [], 1) from merR_no (.inr (.inr hv1)))
      have HR2 := hide (show merR l0 l1 l1 = ([], [], 1) from merR_no (.inr (.inl hv1)))
      have HV0 := hide hv0
      have HV1 := hide hv1
      clear hv0 hv1
      go_enter Try.func10, Try.ntmps10
      go_wp2_with fail
      refine (awake_yes w).mono ?_
      rintro e w1 ⟨rfl, b1⟩
      have B1 := hide b1
      clear b1
      go_wp2_with fail
      refine (few_any A0 n0 c0 w1 true (decide_eq_true h0)).mono ?_
      rintro e w2 ⟨rfl, rfl⟩
      go_wp2_with fail
      refine (few_any A1 n1 c1 w1 true (decide_eq_true h1)).mono ?_
      rintro e w2 ⟨rfl, rfl⟩
      have S_0 := hide (HA0.out.keep B1.out)
      have S_1 := hide (HA1.out.keep B1.out)
      go_wp2_with fail
      refine (merge_any A0 n0 c0 l0 A0 n0 c0 l0 A1 n1 c1 l1 w1 S_0.out S_0.out S_1.out (by omega) (by omega) (by omega)).mono ?_
      rintro e w11 h
      obtain ⟨A_l, c_l, n_l, A_x, c_x, n_x, rfl, hn, hn2, s, s2, b⟩ := givM_is HR1.out h
      have hn_l : n_l ≤ 100 := Nat.le_trans (by rw [← hn]; exact ((show ([] : List Ent).length ≤ 64 ∧ ([] : List Int).length ≤ 64 from ⟨Nat.zero_le _, Nat.zero_le _⟩)).1) (by decide)
      have hn_x : n_x ≤ 100 := Nat.le_trans (by rw [← hn2]; exact ((show ([] : List Ent).length ≤ 64 ∧ ([] : List Int).length ≤ 64 from ⟨Nat.zero_le _, Nat.zero_le _⟩)).2) (by decide)
      have S_0 := hide (S_0.out.keep b)
      have S_1 := hide (S_1.out.keep b)
      have B2 := hide (Below.next B1.out b)
      have S_l := hide s
      have S_x := hide s2
      have HL_l := hide hn
      have HL_x := hide hn2
      clear h hn hn2 s s2 b
      obtain rfl : n_l = 0 := by have h5 := HL_l.out; rw [← h5]; rfl
      go_wp2_with fail
      refine (merge_any A0 n0 c0 l0 A1 n1 c1 l1 A1 n1 c1 l1 w11 S_0.out S_1.out S_1.out (by omega) (by omega) (by omega)).mono ?_
      rintro e w12 h
      obtain ⟨A_m, c_m, n_m, A_y, c_y, n_y, rfl, hn, hn2, s, s2, b⟩ := givM_is HR2.out h
      have hn_m : n_m ≤ 100 := Nat.le_trans (by rw [← hn]; exact ((show ([] : List Ent).length ≤ 64 ∧ ([] : List Int).length ≤ 64 from ⟨Nat.zero_le _, Nat.zero_le _⟩)).1) (by decide)
      have hn_y : n_y ≤ 100 := Nat.le_trans (by rw [← hn2]; exact ((show ([] : List Ent).length ≤ 64 ∧ ([] : List Int).length ≤ 64 from ⟨Nat.zero_le _, Nat.zero_le _⟩)).2) (by decide)
      have S_0 := hide (S_0.out.keep b)
      have S_1 := hide (S_1.out.keep b)
      have S_l := hide (S_l.out.keep b)
      have S_x := hide (S_x.out.keep b)
      have B3 := hide (Below.next B2.out b)
      have S_m := hide s
      have S_y := hide s2
      have HL_m := hide hn
      have HL_y := hide hn2
      clear h hn hn2 s s2 b
      obtain rfl : n_m = 0 := by have h5 := HL_m.out; rw [← h5]; rfl
      go_wp2_with fail
      refine (valid_any A0 n0 c0 l0 w12 S_0.out (by omega) true HV0.out).mono ?_
      rintro e w13 ⟨rfl, g⟩
      have b := g.below
      have S_0 := hide (S_0.out.keep b)
      have S_1 := hide (S_1.out.keep b)
      have S_l := hide (S_l.out.keep b)
      have S_x := hide (S_x.out.keep b)
      have S_m := hide (S_m.out.keep b)
      have S_y := hide (S_y.out.keep b)
      have B4 := hide (Below.next B3.out b)
      clear g b
      go_wp2_with fail
      refine (valid_any A1 n1 c1 l1 w13 S_1.out (by omega) false HV1.out).mono ?_
      rintro e w14 ⟨rfl, g⟩
      have b := g.below
      have S_0 := hide (S_0.out.keep b)
      have S_1 := hide (S_1.out.keep b)
      have S_l := hide (S_l.out.keep b)
      have S_x := hide (S_x.out.keep b)
      have S_m := hide (S_m.out.keep b)
      have S_y := hide (S_y.out.keep b)
      have B5 := hide (Below.next B4.out b)
      clear g b
      go_wp2_with fail
      go_ret
      exact ⟨rfl, B5.out⟩
  | false =>
    have HR1 := hide (show merR l0 l0 l1 = ([], [], 1) from merR_no (.inl hv0))
    have HR2 := hide (show merR l0 l1 l1 = ([], [], 1) from merR_no (.inl hv0))
    have HV0 := hide hv0
    clear hv0
    go_enter Try.func10, Try.ntmps10
    go_wp2_with fail
    refine (awake_yes w).mono ?_
    rintro e w1 ⟨rfl, b1⟩
    have B1 := hide b1
    clear b1
    go_wp2_with fail
    refine (few_any A0 n0 c0 w1 true (decide_eq_true h0)).mono ?_
    rintro e w2 ⟨rfl, rfl⟩
    go_wp2_with fail
    refine (few_any A1 n1 c1 w1 true (decide_eq_true h1)).mono ?_
    rintro e w2 ⟨rfl, rfl⟩
    have S_0 := hide (HA0.out.keep B1.out)
    have S_1 := hide (HA1.out.keep B1.out)
    go_wp2_with fail
    refine (merge_any A0 n0 c0 l0 A0 n0 c0 l0 A1 n1 c1 l1 w1 S_0.out S_0.out S_1.out (by omega) (by omega) (by omega)).mono ?_
    rintro e w11 h
    obtain ⟨A_l, c_l, n_l, A_x, c_x, n_x, rfl, hn, hn2, s, s2, b⟩ := givM_is HR1.out h
    have hn_l : n_l ≤ 100 := Nat.le_trans (by rw [← hn]; exact ((show ([] : List Ent).length ≤ 64 ∧ ([] : List Int).length ≤ 64 from ⟨Nat.zero_le _, Nat.zero_le _⟩)).1) (by decide)
    have hn_x : n_x ≤ 100 := Nat.le_trans (by rw [← hn2]; exact ((show ([] : List Ent).length ≤ 64 ∧ ([] : List Int).length ≤ 64 from ⟨Nat.zero_le _, Nat.zero_le _⟩)).2) (by decide)
    have S_0 := hide (S_0.out.keep b)
    have S_1 := hide (S_1.out.keep b)
    have B2 := hide (Below.next B1.out b)
    have S_l := hide s
    have S_x := hide s2
    have HL_l := hide hn
    have HL_x := hide hn2
    clear h hn hn2 s s2 b
    obtain rfl : n_l = 0 := by have h5 := HL_l.out; rw [← h5]; rfl
    go_wp2_with fail
    refine (merge_any A0 n0 c0 l0 A1 n1 c1 l1 A1 n1 c1 l1 w11 S_0.out S_1.out S_1.out (by omega) (by omega) (by omega)).mono ?_
    rintro e w12 h
    obtain ⟨A_m, c_m, n_m, A_y, c_y, n_y, rfl, hn, hn2, s, s2, b⟩ := givM_is HR2.out h
    have hn_m : n_m ≤ 100 := Nat.le_trans (by rw [← hn]; exact ((show ([] : List Ent).length ≤ 64 ∧ ([] : List Int).length ≤ 64 from ⟨Nat.zero_le _, Nat.zero_le _⟩)).1) (by decide)
    have hn_y : n_y ≤ 100 := Nat.le_trans (by rw [← hn2]; exact ((show ([] : List Ent).length ≤ 64 ∧ ([] : List Int).length ≤ 64 from ⟨Nat.zero_le _, Nat.zero_le _⟩)).2) (by decide)
    have S_0 := hide (S_0.out.keep b)
    have S_1 := hide (S_1.out.keep b)
    have S_l := hide (S_l.out.keep b)
    have S_x := hide (S_x.out.keep b)
    have B3 := hide (Below.next B2.out b)
    have S_m := hide s
    have S_y := hide s2
    have HL_m := hide hn
    have HL_y := hide hn2
    clear h hn hn2 s s2 b
    obtain rfl : n_m = 0 := by have h5 := HL_m.out; rw [← h5]; rfl
    go_wp2_with fail
    refine (valid_any A0 n0 c0 l0 w12 S_0.out (by omega) false HV0.out).mono ?_
    rintro e w13 ⟨rfl, g⟩
    have b := g.below
    have S_0 := hide (S_0.out.keep b)
    have S_1 := hide (S_1.out.keep b)
    have S_l := hide (S_l.out.keep b)
    have S_x := hide (S_x.out.keep b)
    have S_m := hide (S_m.out.keep b)
    have S_y := hide (S_y.out.keep b)
    have B4 := hide (Below.next B3.out b)
    clear g b
    go_wp2_with fail
    go_ret
    exact ⟨rfl, B4.out⟩

theorem sid_all (A0 : Option Addr) (n0 c0 : Nat) (l0 : List Ent) (A1 : Option Addr) (n1 c1 : Nat) (l1 : List Ent) (w : World) (ha0 : SL eE w A0 n0 l0) (ha1 : SL eE w A1 n1 l1) : Calls Try.prog 10 #[.slice A0 n0 c0, .slice A1 n1 c1] w fun e w' => e = .returned (.bool true) ∧ Below w.heap.size w w' := by
  by_cases h0 : n0 ≤ 100
  · skip
    by_cases h1 : n1 ≤ 100
    · exact sid_main A0 n0 c0 l0 A1 n1 c1 l1 w ha0 ha1 h0 h1
    · exact sid_few1 A0 n0 c0 A1 n1 c1 w h0 h1
  · exact sid_few0 A0 n0 c0 A1 n1 c1 w h0
end Go.Proofs.Ytadmiecoahohiaa
