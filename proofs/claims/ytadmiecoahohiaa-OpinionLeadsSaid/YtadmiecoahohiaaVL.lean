/- OpinionLeads. -/
import Derived.Test.YtadmiecoahohiaaUX
namespace Go.Proofs.Ytadmiecoahohiaa
open Go Go.RowKit Go.Lib

set_option maxHeartbeats 4000000 in
set_option maxRecDepth 100000 in
theorem lea_few0 (A0 : Option Addr) (n0 c0 : Nat) (A1 : Option Addr) (n1 c1 : Nat) (w : World)  (h0 : ¬ n0 ≤ 100) : Calls Try.prog 8 #[.slice A0 n0 c0, .slice A1 n1 c1] w fun e w' => e = .returned (.bool true) ∧ Below w.heap.size w w' := by
  go_enter Try.func8, Try.ntmps8
  go_wp2_with fail
  refine (awake_yes w).mono ?_
  rintro e w1 ⟨rfl, b1⟩
  have B1 := hide b1
  clear b1
  go_wp2_with fail
  refine (few_any A0 n0 c0 w1 false (decide_eq_false h0)).mono ?_
  rintro e w2 ⟨rfl, rfl⟩
  go_wp2_with fail
  refine (awake_yes w1).mono ?_
  rintro e w2 ⟨rfl, b2⟩
  have B2 := hide (Below.next B1.out b2)
  clear b2
  go_wp2_with fail
  go_ret
  exact ⟨rfl, B2.out⟩

set_option maxHeartbeats 4000000 in
set_option maxRecDepth 100000 in
theorem lea_few1 (A0 : Option Addr) (n0 c0 : Nat) (A1 : Option Addr) (n1 c1 : Nat) (w : World) (h0 : n0 ≤ 100) (h1 : ¬ n1 ≤ 100) : Calls Try.prog 8 #[.slice A0 n0 c0, .slice A1 n1 c1] w fun e w' => e = .returned (.bool true) ∧ Below w.heap.size w w' := by
  go_enter Try.func8, Try.ntmps8
  go_wp2_with fail
  refine (awake_yes w).mono ?_
  rintro e w1 ⟨rfl, b1⟩
  have B1 := hide b1
  clear b1
  go_wp2_with fail
  refine (few_any A0 n0 c0 w1 true (decide_eq_true h0)).mono ?_
  rintro e w2 ⟨rfl, rfl⟩
  go_wp2_with fail
  refine (few_any A1 n1 c1 w1 false (decide_eq_false h1)).mono ?_
  rintro e w2 ⟨rfl, rfl⟩
  go_wp2_with fail
  refine (awake_yes w1).mono ?_
  rintro e w2 ⟨rfl, b2⟩
  have B2 := hide (Below.next B1.out b2)
  clear b2
  go_wp2_with fail
  go_ret
  exact ⟨rfl, B2.out⟩

set_option maxHeartbeats 16000000 in
set_option maxRecDepth 100000 in
theorem lea_main (A0 : Option Addr) (n0 c0 : Nat) (l0 : List Ent) (A1 : Option Addr) (n1 c1 : Nat) (l1 : List Ent) (w : World) (ha0 : SL eE w A0 n0 l0) (ha1 : SL eE w A1 n1 l1) (h0 : n0 ≤ 100) (h1 : n1 ≤ 100) : Calls Try.prog 8 #[.slice A0 n0 c0, .slice A1 n1 c1] w fun e w' => e = .returned (.bool true) ∧ Below w.heap.size w w' := by
  have HA0 := hide ha0
  have HA1 := hide ha1
  clear ha0 ha1
  rcases dif_cases l0 l1 with ⟨hv0, hv1, hlen, hR⟩ | ⟨er, her, hR, hR2⟩
  · have HR := hide hR
    have HR2 := hide (show difR l1 l0 = (difL l1 l0, 0) by rw [difR_ok hv1 hv0]; exact full_ok (by rw [← len_dif]; exact hlen))
    have HRA := hide (appR_dif hv0 hv1 hlen)
    have HRI := hide (invR_dif hlen)
    have HRB := hide (appR_dif hv1 hv0 (show (difL l1 l0).length ≤ 64 by rw [← len_dif]; exact hlen))
    have HRS := hide (show difR l0 l0 = ([], 0) by rw [difR_ok hv0 hv0, dif_self]; rfl)
    have HLB := hide hlen
    have HLB2 := hide (show (difL l1 l0).length ≤ 64 by rw [← len_dif]; exact hlen)
    have HL0 := hide (vE_iff.1 hv0).1
    have HL1 := hide (vE_iff.1 hv1).1
    clear hR hlen hv0 hv1
    go_enter Try.func8, Try.ntmps8
    go_wp2_with fail
    refine (awake_yes w).mono ?_
    rintro e w1 ⟨rfl, b1⟩
    have B1 := hide b1
    clear b1
    go_wp2_with fail
    refine (few_any A0 n0 c0 w1 true (decide_eq_true h0)).mono ?_
    rintro e w2 ⟨rfl, rfl⟩
    go_wp2_with fail
    refine (few_any A1 n1 c1 w1 true (decide_eq_true h1)).mono ?_
    rintro e w2 ⟨rfl, rfl⟩
    have S_0 := hide (HA0.out.keep B1.out)
    have S_1 := hide (HA1.out.keep B1.out)
    go_wp2_with fail
    refine (diff_any A0 n0 c0 l0 A1 n1 c1 l1 w1 S_0.out S_1.out (by omega) (by omega)).mono ?_
    rintro e w11 h
    obtain ⟨A_c, c_c, n_c, rfl, hn, s, b⟩ := giv_is HR.out h
    have hn_c : n_c ≤ 100 := Nat.le_trans (by rw [← hn]; exact HLB.out) (by decide)
    have S_0 := hide (S_0.out.keep b)
    have S_1 := hide (S_1.out.keep b)
    have B2 := hide (Below.next B1.out b)
    have S_c := hide s
    have HL_c := hide hn
    clear h hn s b
    go_wp2_with fail
    refine (diff_any A1 n1 c1 l1 A0 n0 c0 l0 w11 S_1.out S_0.out (by omega) (by omega)).mono ?_
    rintro e w12 h
    obtain ⟨A_d, c_d, n_d, rfl, hn, s, b⟩ := giv_is HR2.out h
    have hn_d : n_d ≤ 100 := Nat.le_trans (by rw [← hn]; exact HLB2.out) (by decide)
    have S_0 := hide (S_0.out.keep b)
    have S_1 := hide (S_1.out.keep b)
    have S_c := hide (S_c.out.keep b)
    have B3 := hide (Below.next B2.out b)
    have S_d := hide s
    have HL_d := hide hn
    clear h hn s b
    go_wp2_with fail
    refine (apply_any A0 n0 c0 l0 A_c n_c c_c (difL l0 l1) w12 S_0.out S_c.out (by omega) (by omega)).mono ?_
    rintro e w13 h
    obtain ⟨A_x, c_x, n_x, rfl, hn, s, b⟩ := giv_is HRA.out h
    have hn_x : n_x ≤ 100 := Nat.le_trans (by rw [← hn]; exact HL1.out) (by decide)
    have S_0 := hide (S_0.out.keep b)
    have S_1 := hide (S_1.out.keep b)
    have S_c := hide (S_c.out.keep b)
    have S_d := hide (S_d.out.keep b)
    have B4 := hide (Below.next B3.out b)
    have S_x := hide s
    have HL_x := hide hn
    clear h hn s b
    go_wp2_with fail
    refine (invert_any A_c n_c c_c (difL l0 l1) w13 S_c.out (by omega)).mono ?_
    rintro e w14 h
    obtain ⟨A_b, c_b, n_b, rfl, hn, s, b⟩ := giv_is HRI.out h
    have hn_b : n_b ≤ 100 := Nat.le_trans (by rw [← hn]; exact HLB2.out) (by decide)
    have S_0 := hide (S_0.out.keep b)
    have S_1 := hide (S_1.out.keep b)
    have S_c := hide (S_c.out.keep b)
    have S_d := hide (S_d.out.keep b)
    have S_x := hide (S_x.out.keep b)
    have B5 := hide (Below.next B4.out b)
    have S_b := hide s
    have HL_b := hide hn
    clear h hn s b
    go_wp2_with fail
    refine (apply_any A1 n1 c1 l1 A_b n_b c_b (difL l1 l0) w14 S_1.out S_b.out (by omega) (by omega)).mono ?_
    rintro e w15 h
    obtain ⟨A_y, c_y, n_y, rfl, hn, s, b⟩ := giv_is HRB.out h
    have hn_y : n_y ≤ 100 := Nat.le_trans (by rw [← hn]; exact HL0.out) (by decide)
    have S_0 := hide (S_0.out.keep b)
    have S_1 := hide (S_1.out.keep b)
    have S_c := hide (S_c.out.keep b)
    have S_d := hide (S_d.out.keep b)
    have S_x := hide (S_x.out.keep b)
    have S_b := hide (S_b.out.keep b)
    have B6 := hide (Below.next B5.out b)
    have S_y := hide s
    have HL_y := hide hn
    clear h hn s b
    go_wp2_with fail
    refine (diff_any A0 n0 c0 l0 A0 n0 c0 l0 w15 S_0.out S_0.out (by omega) (by omega)).mono ?_
    rintro e w16 h
    obtain ⟨A_s, c_s, n_s, rfl, hn, s, b⟩ := giv_is HRS.out h
    have hn_s : n_s ≤ 100 := Nat.le_trans (by rw [← hn]; exact (show ([] : List Chg).length ≤ 64 from Nat.zero_le _)) (by decide)
    have S_0 := hide (S_0.out.keep b)
    have S_1 := hide (S_1.out.keep b)
    have S_c := hide (S_c.out.keep b)
    have S_d := hide (S_d.out.keep b)
    have S_x := hide (S_x.out.keep b)
    have S_b := hide (S_b.out.keep b)
    have S_y := hide (S_y.out.keep b)
    have B7 := hide (Below.next B6.out b)
    have S_s := hide s
    have HL_s := hide hn
    clear h hn s b
    obtain rfl : n_s = 0 := by have h5 := HL_s.out; rw [← h5]; rfl
    go_wp2_with fail
    refine (baseE_any A_x n_x c_x l1 A1 n1 c1 l1 w16 S_x.out S_1.out (by omega) (by omega) true (decide_eq_true rfl)).mono ?_
    rintro e w17 ⟨rfl, g⟩
    have b := g.below
    have S_0 := hide (S_0.out.keep b)
    have S_1 := hide (S_1.out.keep b)
    have S_c := hide (S_c.out.keep b)
    have S_d := hide (S_d.out.keep b)
    have S_x := hide (S_x.out.keep b)
    have S_b := hide (S_b.out.keep b)
    have S_y := hide (S_y.out.keep b)
    have S_s := hide (S_s.out.keep b)
    have B8 := hide (Below.next B7.out b)
    clear g b
    go_wp2_with fail
    refine (baseC_any A_b n_b c_b (difL l1 l0) A_d n_d c_d (difL l1 l0) w17 S_b.out S_d.out (by omega) (by omega) true (decide_eq_true rfl)).mono ?_
    rintro e w18 ⟨rfl, g⟩
    have b := g.below
    have S_0 := hide (S_0.out.keep b)
    have S_1 := hide (S_1.out.keep b)
    have S_c := hide (S_c.out.keep b)
    have S_d := hide (S_d.out.keep b)
    have S_x := hide (S_x.out.keep b)
    have S_b := hide (S_b.out.keep b)
    have S_y := hide (S_y.out.keep b)
    have S_s := hide (S_s.out.keep b)
    have B9 := hide (Below.next B8.out b)
    clear g b
    go_wp2_with fail
    refine (baseE_any A_y n_y c_y l0 A0 n0 c0 l0 w18 S_y.out S_0.out (by omega) (by omega) true (decide_eq_true rfl)).mono ?_
    rintro e w19 ⟨rfl, g⟩
    have b := g.below
    have S_0 := hide (S_0.out.keep b)
    have S_1 := hide (S_1.out.keep b)
    have S_c := hide (S_c.out.keep b)
    have S_d := hide (S_d.out.keep b)
    have S_x := hide (S_x.out.keep b)
    have S_b := hide (S_b.out.keep b)
    have S_y := hide (S_y.out.keep b)
    have S_s := hide (S_s.out.keep b)
    have B10 := hide (Below.next B9.out b)
    clear g b
    go_wp2_with fail
    go_ret
    exact ⟨rfl, B10.out⟩
  · have HR := hide hR
    have HR2 := hide hR2
    have q1 : (er == er) = true := beq_self_eq_true _
    have q2 : (er != er) = false := by rw [bne, q1]; rfl
    have q3 : (er == 0) = false := beq_eq_false_iff_ne.2 (by omega)
    have q4 : (er != 0) = true := by rw [bne, q3]; rfl
    clear hR hR2
    go_enter Try.func8, Try.ntmps8
    go_wp2_with fail
    refine (awake_yes w).mono ?_
    rintro e w1 ⟨rfl, b1⟩
    have B1 := hide b1
    clear b1
    go_wp2_with fail
    refine (few_any A0 n0 c0 w1 true (decide_eq_true h0)).mono ?_
    rintro e w2 ⟨rfl, rfl⟩
    go_wp2_with fail
    refine (few_any A1 n1 c1 w1 true (decide_eq_true h1)).mono ?_
    rintro e w2 ⟨rfl, rfl⟩
    have S_0 := hide (HA0.out.keep B1.out)
    have S_1 := hide (HA1.out.keep B1.out)
    go_wp2_with fail
    refine (diff_any A0 n0 c0 l0 A1 n1 c1 l1 w1 S_0.out S_1.out (by omega) (by omega)).mono ?_
    rintro e w11 h
    obtain ⟨A_c, c_c, n_c, rfl, hn, s, b⟩ := giv_is HR.out h
    have hn_c : n_c ≤ 100 := Nat.le_trans (by rw [← hn]; exact (show ([] : List Chg).length ≤ 64 from Nat.zero_le _)) (by decide)
    have S_0 := hide (S_0.out.keep b)
    have S_1 := hide (S_1.out.keep b)
    have B2 := hide (Below.next B1.out b)
    have S_c := hide s
    have HL_c := hide hn
    clear h hn s b
    obtain rfl : n_c = 0 := by have h5 := HL_c.out; rw [← h5]; rfl
    go_wp2_with fail
    refine (diff_any A1 n1 c1 l1 A0 n0 c0 l0 w11 S_1.out S_0.out (by omega) (by omega)).mono ?_
    rintro e w12 h
    obtain ⟨A_d, c_d, n_d, rfl, hn, s, b⟩ := giv_is HR2.out h
    have hn_d : n_d ≤ 100 := Nat.le_trans (by rw [← hn]; exact (show ([] : List Chg).length ≤ 64 from Nat.zero_le _)) (by decide)
    have S_0 := hide (S_0.out.keep b)
    have S_1 := hide (S_1.out.keep b)
    have S_c := hide (S_c.out.keep b)
    have B3 := hide (Below.next B2.out b)
    have S_d := hide s
    have HL_d := hide hn
    clear h hn s b
    obtain rfl : n_d = 0 := by have h5 := HL_d.out; rw [← h5]; rfl
    go_wp2_with fail
    go_ret
    exact ⟨rfl, B3.out⟩

theorem lea_all (A0 : Option Addr) (n0 c0 : Nat) (l0 : List Ent) (A1 : Option Addr) (n1 c1 : Nat) (l1 : List Ent) (w : World) (ha0 : SL eE w A0 n0 l0) (ha1 : SL eE w A1 n1 l1) : Calls Try.prog 8 #[.slice A0 n0 c0, .slice A1 n1 c1] w fun e w' => e = .returned (.bool true) ∧ Below w.heap.size w w' := by
  by_cases h0 : n0 ≤ 100
  · skip
    by_cases h1 : n1 ≤ 100
    · exact lea_main A0 n0 c0 l0 A1 n1 c1 l1 w ha0 ha1 h0 h1
    · exact lea_few1 A0 n0 c0 A1 n1 c1 w h0 h1
  · exact lea_few0 A0 n0 c0 A1 n1 c1 w h0
end Go.Proofs.Ytadmiecoahohiaa
