/- OpinionChains. -/
import Derived.Test.YtadmiecoahohiaaUX
namespace Go.Proofs.Ytadmiecoahohiaa
open Go Go.RowKit Go.Lib

set_option maxHeartbeats 4000000 in
set_option maxRecDepth 100000 in
theorem cha_few0 (A0 : Option Addr) (n0 c0 : Nat) (A1 : Option Addr) (n1 c1 : Nat) (A2 : Option Addr) (n2 c2 : Nat) (w : World)  (h0 : ¬ n0 ≤ 100) : Calls Try.prog 9 #[.slice A0 n0 c0, .slice A1 n1 c1, .slice A2 n2 c2] w fun e w' => e = .returned (.bool true) ∧ Below w.heap.size w w' := by
  go_enter Try.func9, Try.ntmps9
  go_wp2_with fail
  refine (awake_yes w).mono ?_
  rintro e w1 ⟨rfl, b1⟩
  have B1 := hide b1
  clear b1
  go_wp2_with fail
  refine (few_any A0 n0 c0 w1 false (decide_eq_false h0)).mono ?_
  rintro e w2 ⟨rfl, rfl⟩
  go_wp2_with fail
  refine (awake_yes w1).mono ?_
  rintro e w2 ⟨rfl, b2⟩
  have B2 := hide (Below.next B1.out b2)
  clear b2
  go_wp2_with fail
  go_ret
  exact ⟨rfl, B2.out⟩

set_option maxHeartbeats 4000000 in
set_option maxRecDepth 100000 in
theorem cha_few1 (A0 : Option Addr) (n0 c0 : Nat) (A1 : Option Addr) (n1 c1 : Nat) (A2 : Option Addr) (n2 c2 : Nat) (w : World) (h0 : n0 ≤ 100) (h1 : ¬ n1 ≤ 100) : Calls Try.prog 9 #[.slice A0 n0 c0, .slice A1 n1 c1, .slice A2 n2 c2] w fun e w' => e = .returned (.bool true) ∧ Below w.heap.size w w' := by
  go_enter Try.func9, Try.ntmps9
  go_wp2_with fail
  refine (awake_yes w).mono ?_
  rintro e w1 ⟨rfl, b1⟩
  have B1 := hide b1
  clear b1
  go_wp2_with fail
  refine (few_any A0 n0 c0 w1 true (decide_eq_true h0)).mono ?_
  rintro e w2 ⟨rfl, rfl⟩
  go_wp2_with fail
  refine (few_any A1 n1 c1 w1 false (decide_eq_false h1)).mono ?_
  rintro e w2 ⟨rfl, rfl⟩
  go_wp2_with fail
  refine (awake_yes w1).mono ?_
  rintro e w2 ⟨rfl, b2⟩
  have B2 := hide (Below.next B1.out b2)
  clear b2
  go_wp2_with fail
  go_ret
  exact ⟨rfl, B2.out⟩

set_option maxHeartbeats 4000000 in
set_option maxRecDepth 100000 in
theorem cha_few2 (A0 : Option Addr) (n0 c0 : Nat) (A1 : Option Addr) (n1 c1 : Nat) (A2 : Option Addr) (n2 c2 : Nat) (w : World) (h0 : n0 ≤ 100) (h1 : n1 ≤ 100) (h2 : ¬ n2 ≤ 100) : Calls Try.prog 9 #[.slice A0 n0 c0, .slice A1 n1 c1, .slice A2 n2 c2] w fun e w' => e = .returned (.bool true) ∧ Below w.heap.size w w' := by
  go_enter Try.func9, Try.ntmps9
  go_wp2_with fail
  refine (awake_yes w).mono ?_
  rintro e w1 ⟨rfl, b1⟩
  have B1 := hide b1
  clear b1
  go_wp2_with fail
  refine (few_any A0 n0 c0 w1 true (decide_eq_true h0)).mono ?_
  rintro e w2 ⟨rfl, rfl⟩
  go_wp2_with fail
  refine (few_any A1 n1 c1 w1 true (decide_eq_true h1)).mono ?_
  rintro e w2 ⟨rfl, rfl⟩
  go_wp2_with fail
  refine (few_any A2 n2 c2 w1 false (decide_eq_false h2)).mono ?_
  rintro e w2 ⟨rfl, rfl⟩
  go_wp2_with fail
  refine (awake_yes w1).mono ?_
  rintro e w2 ⟨rfl, b2⟩
  have B2 := hide (Below.next B1.out b2)
  clear b2
  go_wp2_with fail
  go_ret
  exact ⟨rfl, B2.out⟩

set_option maxHeartbeats 16000000 in
set_option maxRecDepth 100000 in
theorem cha_main (A0 : Option Addr) (n0 c0 : Nat) (l0 : List Ent) (A1 : Option Addr) (n1 c1 : Nat) (l1 : List Ent) (A2 : Option Addr) (n2 c2 : Nat) (l2 : List Ent) (w : World) (ha0 : SL eE w A0 n0 l0) (ha1 : SL eE w A1 n1 l1) (ha2 : SL eE w A2 n2 l2) (h0 : n0 ≤ 100) (h1 : n1 ≤ 100) (h2 : n2 ≤ 100) : Calls Try.prog 9 #[.slice A0 n0 c0, .slice A1 n1 c1, .slice A2 n2 c2] w fun e w' => e = .returned (.bool true) ∧ Below w.heap.size w w' := by
  have HA0 := hide ha0
  have HA1 := hide ha1
  have HA2 := hide ha2
  clear ha0 ha1 ha2
  rcases dif_cases l0 l1 with ⟨hv0, hv1, hlen, hR⟩ | ⟨er, her, hR, hR2⟩
  · rcases dif_cases l1 l2 with ⟨_, hv2, hlen2, hRb⟩ | ⟨er, her, hRb, hRb2⟩
    · have HR := hide hR
      have HRb := hide hRb
      have HLB := hide hlen
      have HLB2 := hide hlen2
      have HL2 := hide (vE_iff.1 hv2).1
      by_cases h64 : (difL l0 l2).length ≤ 64
      · have HRC := hide (show comR (difL l0 l1) (difL l1 l2) = (difL l0 l2, 0) by rw [comR_dif hlen hlen2]; exact full_ok h64)
        have HRD := hide (show difR l0 l2 = (difL l0 l2, 0) by rw [difR_ok hv0 hv2]; exact full_ok h64)
        have HRA := hide (appR_dif hv0 hv2 h64)
        have HLB3 := hide h64
        clear hR hRb hlen hlen2 h64 hv0 hv1 hv2
        go_enter Try.func9, Try.ntmps9
        go_wp2_with fail
        refine (awake_yes w).mono ?_
        rintro e w1 ⟨rfl, b1⟩
        have B1 := hide b1
        clear b1
        go_wp2_with fail
        refine (few_any A0 n0 c0 w1 true (decide_eq_true h0)).mono ?_
        rintro e w2 ⟨rfl, rfl⟩
        go_wp2_with fail
        refine (few_any A1 n1 c1 w1 true (decide_eq_true h1)).mono ?_
        rintro e w2 ⟨rfl, rfl⟩
        go_wp2_with fail
        refine (few_any A2 n2 c2 w1 true (decide_eq_true h2)).mono ?_
        rintro e w2 ⟨rfl, rfl⟩
        have S_0 := hide (HA0.out.keep B1.out)
        have S_1 := hide (HA1.out.keep B1.out)
        have S_2 := hide (HA2.out.keep B1.out)
        go_wp2_with fail
        refine (diff_any A0 n0 c0 l0 A1 n1 c1 l1 w1 S_0.out S_1.out (by omega) (by omega)).mono ?_
        rintro e w11 h
        obtain ⟨A_x, c_x, n_x, rfl, hn, s, b⟩ := giv_is HR.out h
        have hn_x : n_x ≤ 100 := Nat.le_trans (by rw [← hn]; exact HLB.out) (by decide)
        have S_0 := hide (S_0.out.keep b)
        have S_1 := hide (S_1.out.keep b)
        have S_2 := hide (S_2.out.keep b)
        have B2 := hide (Below.next B1.out b)
        have S_x := hide s
        have HL_x := hide hn
        clear h hn s b
        go_wp2_with fail
        refine (diff_any A1 n1 c1 l1 A2 n2 c2 l2 w11 S_1.out S_2.out (by omega) (by omega)).mono ?_
        rintro e w12 h
        obtain ⟨A_y, c_y, n_y, rfl, hn, s, b⟩ := giv_is HRb.out h
        have hn_y : n_y ≤ 100 := Nat.le_trans (by rw [← hn]; exact HLB2.out) (by decide)
        have S_0 := hide (S_0.out.keep b)
        have S_1 := hide (S_1.out.keep b)
        have S_2 := hide (S_2.out.keep b)
        have S_x := hide (S_x.out.keep b)
        have B3 := hide (Below.next B2.out b)
        have S_y := hide s
        have HL_y := hide hn
        clear h hn s b
        go_wp2_with fail
        refine (compose_any A_x n_x c_x (difL l0 l1) A_y n_y c_y (difL l1 l2) w12 S_x.out S_y.out (by omega) (by omega)).mono ?_
        rintro e w13 h
        obtain ⟨A_z, c_z, n_z, rfl, hn, s, b⟩ := giv_is HRC.out h
        have hn_z : n_z ≤ 100 := Nat.le_trans (by rw [← hn]; exact HLB3.out) (by decide)
        have S_0 := hide (S_0.out.keep b)
        have S_1 := hide (S_1.out.keep b)
        have S_2 := hide (S_2.out.keep b)
        have S_x := hide (S_x.out.keep b)
        have S_y := hide (S_y.out.keep b)
        have B4 := hide (Below.next B3.out b)
        have S_z := hide s
        have HL_z := hide hn
        clear h hn s b
        go_wp2_with fail
        refine (diff_any A0 n0 c0 l0 A2 n2 c2 l2 w13 S_0.out S_2.out (by omega) (by omega)).mono ?_
        rintro e w14 h
        obtain ⟨A_t, c_t, n_t, rfl, hn, s, b⟩ := giv_is HRD.out h
        have hn_t : n_t ≤ 100 := Nat.le_trans (by rw [← hn]; exact HLB3.out) (by decide)
        have S_0 := hide (S_0.out.keep b)
        have S_1 := hide (S_1.out.keep b)
        have S_2 := hide (S_2.out.keep b)
        have S_x := hide (S_x.out.keep b)
        have S_y := hide (S_y.out.keep b)
        have S_z := hide (S_z.out.keep b)
        have B5 := hide (Below.next B4.out b)
        have S_t := hide s
        have HL_t := hide hn
        clear h hn s b
        go_wp2_with fail
        refine (apply_any A0 n0 c0 l0 A_z n_z c_z (difL l0 l2) w14 S_0.out S_z.out (by omega) (by omega)).mono ?_
        rintro e w15 h
        obtain ⟨A_l, c_l, n_l, rfl, hn, s, b⟩ := giv_is HRA.out h
        have hn_l : n_l ≤ 100 := Nat.le_trans (by rw [← hn]; exact HL2.out) (by decide)
        have S_0 := hide (S_0.out.keep b)
        have S_1 := hide (S_1.out.keep b)
        have S_2 := hide (S_2.out.keep b)
        have S_x := hide (S_x.out.keep b)
        have S_y := hide (S_y.out.keep b)
        have S_z := hide (S_z.out.keep b)
        have S_t := hide (S_t.out.keep b)
        have B6 := hide (Below.next B5.out b)
        have S_l := hide s
        have HL_l := hide hn
        clear h hn s b
        go_wp2_with fail
        refine (baseC_any A_z n_z c_z (difL l0 l2) A_t n_t c_t (difL l0 l2) w15 S_z.out S_t.out (by omega) (by omega) true (decide_eq_true rfl)).mono ?_
        rintro e w16 ⟨rfl, g⟩
        have b := g.below
        have S_0 := hide (S_0.out.keep b)
        have S_1 := hide (S_1.out.keep b)
        have S_2 := hide (S_2.out.keep b)
        have S_x := hide (S_x.out.keep b)
        have S_y := hide (S_y.out.keep b)
        have S_z := hide (S_z.out.keep b)
        have S_t := hide (S_t.out.keep b)
        have S_l := hide (S_l.out.keep b)
        have B7 := hide (Below.next B6.out b)
        clear g b
        go_wp2_with fail
        refine (baseE_any A_l n_l c_l l2 A2 n2 c2 l2 w16 S_l.out S_2.out (by omega) (by omega) true (decide_eq_true rfl)).mono ?_
        rintro e w17 ⟨rfl, g⟩
        have b := g.below
        have S_0 := hide (S_0.out.keep b)
        have S_1 := hide (S_1.out.keep b)
        have S_2 := hide (S_2.out.keep b)
        have S_x := hide (S_x.out.keep b)
        have S_y := hide (S_y.out.keep b)
        have S_z := hide (S_z.out.keep b)
        have S_t := hide (S_t.out.keep b)
        have S_l := hide (S_l.out.keep b)
        have B8 := hide (Below.next B7.out b)
        clear g b
        go_wp2_with fail
        go_ret
        exact ⟨rfl, B8.out⟩
      · have HRC := hide (show comR (difL l0 l1) (difL l1 l2) = ([], 6) by rw [comR_dif hlen hlen2]; exact full_no h64)
        have HRD := hide (show difR l0 l2 = ([], 6) by rw [difR_ok hv0 hv2]; exact full_no h64)
        clear hR hRb hlen hlen2 h64 hv0 hv1 hv2
        go_enter Try.func9, Try.ntmps9
        go_wp2_with fail
        refine (awake_yes w).mono ?_
        rintro e w1 ⟨rfl, b1⟩
        have B1 := hide b1
        clear b1
        go_wp2_with fail
        refine (few_any A0 n0 c0 w1 true (decide_eq_true h0)).mono ?_
        rintro e w2 ⟨rfl, rfl⟩
        go_wp2_with fail
        refine (few_any A1 n1 c1 w1 true (decide_eq_true h1)).mono ?_
        rintro e w2 ⟨rfl, rfl⟩
        go_wp2_with fail
        refine (few_any A2 n2 c2 w1 true (decide_eq_true h2)).mono ?_
        rintro e w2 ⟨rfl, rfl⟩
        have S_0 := hide (HA0.out.keep B1.out)
        have S_1 := hide (HA1.out.keep B1.out)
        have S_2 := hide (HA2.out.keep B1.out)
        go_wp2_with fail
        refine (diff_any A0 n0 c0 l0 A1 n1 c1 l1 w1 S_0.out S_1.out (by omega) (by omega)).mono ?_
        rintro e w11 h
        obtain ⟨A_x, c_x, n_x, rfl, hn, s, b⟩ := giv_is HR.out h
        have hn_x : n_x ≤ 100 := Nat.le_trans (by rw [← hn]; exact HLB.out) (by decide)
        have S_0 := hide (S_0.out.keep b)
        have S_1 := hide (S_1.out.keep b)
        have S_2 := hide (S_2.out.keep b)
        have B2 := hide (Below.next B1.out b)
        have S_x := hide s
        have HL_x := hide hn
        clear h hn s b
        go_wp2_with fail
        refine (diff_any A1 n1 c1 l1 A2 n2 c2 l2 w11 S_1.out S_2.out (by omega) (by omega)).mono ?_
        rintro e w12 h
        obtain ⟨A_y, c_y, n_y, rfl, hn, s, b⟩ := giv_is HRb.out h
        have hn_y : n_y ≤ 100 := Nat.le_trans (by rw [← hn]; exact HLB2.out) (by decide)
        have S_0 := hide (S_0.out.keep b)
        have S_1 := hide (S_1.out.keep b)
        have S_2 := hide (S_2.out.keep b)
        have S_x := hide (S_x.out.keep b)
        have B3 := hide (Below.next B2.out b)
        have S_y := hide s
        have HL_y := hide hn
        clear h hn s b
        go_wp2_with fail
        refine (compose_any A_x n_x c_x (difL l0 l1) A_y n_y c_y (difL l1 l2) w12 S_x.out S_y.out (by omega) (by omega)).mono ?_
        rintro e w13 h
        obtain ⟨A_z, c_z, n_z, rfl, hn, s, b⟩ := giv_is HRC.out h
        have hn_z : n_z ≤ 100 := Nat.le_trans (by rw [← hn]; exact (show ([] : List Chg).length ≤ 64 from Nat.zero_le _)) (by decide)
        have S_0 := hide (S_0.out.keep b)
        have S_1 := hide (S_1.out.keep b)
        have S_2 := hide (S_2.out.keep b)
        have S_x := hide (S_x.out.keep b)
        have S_y := hide (S_y.out.keep b)
        have B4 := hide (Below.next B3.out b)
        have S_z := hide s
        have HL_z := hide hn
        clear h hn s b
        go_wp2_with fail
        refine (diff_any A0 n0 c0 l0 A2 n2 c2 l2 w13 S_0.out S_2.out (by omega) (by omega)).mono ?_
        rintro e w14 h
        obtain ⟨A_t, c_t, n_t, rfl, hn, s, b⟩ := giv_is HRD.out h
        have hn_t : n_t ≤ 100 := Nat.le_trans (by rw [← hn]; exact (show ([] : List Chg).length ≤ 64 from Nat.zero_le _)) (by decide)
        have S_0 := hide (S_0.out.keep b)
        have S_1 := hide (S_1.out.keep b)
        have S_2 := hide (S_2.out.keep b)
        have S_x := hide (S_x.out.keep b)
        have S_y := hide (S_y.out.keep b)
        have S_z := hide (S_z.out.keep b)
        have B5 := hide (Below.next B4.out b)
        have S_t := hide s
        have HL_t := hide hn
        clear h hn s b
        go_wp2_with fail
        go_ret
        exact ⟨rfl, B5.out⟩
    · have HR := hide hR
      have HRb := hide hRb
      have HLB := hide hlen
      have q3 : (er == 0) = false := beq_eq_false_iff_ne.2 (by omega)
      have q4 : (er != 0) = true := by rw [bne, q3]; rfl
      clear hR hRb hRb2 hlen hv0 hv1
      go_enter Try.func9, Try.ntmps9
      go_wp2_with fail
      refine (awake_yes w).mono ?_
      rintro e w1 ⟨rfl, b1⟩
      have B1 := hide b1
      clear b1
      go_wp2_with fail
      refine (few_any A0 n0 c0 w1 true (decide_eq_true h0)).mono ?_
      rintro e w2 ⟨rfl, rfl⟩
      go_wp2_with fail
      refine (few_any A1 n1 c1 w1 true (decide_eq_true h1)).mono ?_
      rintro e w2 ⟨rfl, rfl⟩
      go_wp2_with fail
      refine (few_any A2 n2 c2 w1 true (decide_eq_true h2)).mono ?_
      rintro e w2 ⟨rfl, rfl⟩
      have S_0 := hide (HA0.out.keep B1.out)
      have S_1 := hide (HA1.out.keep B1.out)
      have S_2 := hide (HA2.out.keep B1.out)
      go_wp2_with fail
      refine (diff_any A0 n0 c0 l0 A1 n1 c1 l1 w1 S_0.out S_1.out (by omega) (by omega)).mono ?_
      rintro e w11 h
      obtain ⟨A_x, c_x, n_x, rfl, hn, s, b⟩ := giv_is HR.out h
      have hn_x : n_x ≤ 100 := Nat.le_trans (by rw [← hn]; exact HLB.out) (by decide)
      have S_0 := hide (S_0.out.keep b)
      have S_1 := hide (S_1.out.keep b)
      have S_2 := hide (S_2.out.keep b)
      have B2 := hide (Below.next B1.out b)
      have S_x := hide s
      have HL_x := hide hn
      clear h hn s b
      go_wp2_with fail
      refine (diff_any A1 n1 c1 l1 A2 n2 c2 l2 w11 S_1.out S_2.out (by omega) (by omega)).mono ?_
      rintro e w12 h
      obtain ⟨A_y, c_y, n_y, rfl, hn, s, b⟩ := giv_is HRb.out h
      have hn_y : n_y ≤ 100 := Nat.le_trans (by rw [← hn]; exact (show ([] : List Chg).length ≤ 64 from Nat.zero_le _)) (by decide)
      have S_0 := hide (S_0.out.keep b)
      have S_1 := hide (S_1.out.keep b)
      have S_2 := hide (S_2.out.keep b)
      have S_x := hide (S_x.out.keep b)
      have B3 := hide (Below.next B2.out b)
      have S_y := hide s
      have HL_y := hide hn
      clear h hn s b
      obtain rfl : n_y = 0 := by have h5 := HL_y.out; rw [← h5]; rfl
      go_wp2_with fail
      go_ret
      exact ⟨rfl, B3.out⟩
  · have HR := hide hR
    obtain ⟨L2, er2, hRb⟩ : ∃ L er, difR l1 l2 = (L, er) := ⟨_, _, rfl⟩
    have HRb := hide hRb
    have HLB := hide (show L2.length ≤ 64 by have := difR_len l1 l2; rw [hRb] at this; exact this)
    have q3 : (er == 0) = false := beq_eq_false_iff_ne.2 (by omega)
    have q4 : (er != 0) = true := by rw [bne, q3]; rfl
    clear hR hR2 hRb
    go_enter Try.func9, Try.ntmps9
    go_wp2_with fail
    refine (awake_yes w).mono ?_
    rintro e w1 ⟨rfl, b1⟩
    have B1 := hide b1
    clear b1
    go_wp2_with fail
    refine (few_any A0 n0 c0 w1 true (decide_eq_true h0)).mono ?_
    rintro e w2 ⟨rfl, rfl⟩
    go_wp2_with fail
    refine (few_any A1 n1 c1 w1 true (decide_eq_true h1)).mono ?_
    rintro e w2 ⟨rfl, rfl⟩
    go_wp2_with fail
    refine (few_any A2 n2 c2 w1 true (decide_eq_true h2)).mono ?_
    rintro e w2 ⟨rfl, rfl⟩
    have S_0 := hide (HA0.out.keep B1.out)
    have S_1 := hide (HA1.out.keep B1.out)
    have S_2 := hide (HA2.out.keep B1.out)
    go_wp2_with fail
    refine (diff_any A0 n0 c0 l0 A1 n1 c1 l1 w1 S_0.out S_1.out (by omega) (by omega)).mono ?_
    rintro e w11 h
    obtain ⟨A_x, c_x, n_x, rfl, hn, s, b⟩ := giv_is HR.out h
    have hn_x : n_x ≤ 100 := Nat.le_trans (by rw [← hn]; exact (show ([] : List Chg).length ≤ 64 from Nat.zero_le _)) (by decide)
    have S_0 := hide (S_0.out.keep b)
    have S_1 := hide (S_1.out.keep b)
    have S_2 := hide (S_2.out.keep b)
    have B2 := hide (Below.next B1.out b)
    have S_x := hide s
    have HL_x := hide hn
    clear h hn s b
    obtain rfl : n_x = 0 := by have h5 := HL_x.out; rw [← h5]; rfl
    go_wp2_with fail
    refine (diff_any A1 n1 c1 l1 A2 n2 c2 l2 w11 S_1.out S_2.out (by omega) (by omega)).mono ?_
    rintro e w12 h
    obtain ⟨A_y, c_y, n_y, rfl, hn, s, b⟩ := giv_is HRb.out h
    have hn_y : n_y ≤ 100 := Nat.le_trans (by rw [← hn]; exact HLB.out) (by decide)
    have S_0 := hide (S_0.out.keep b)
    have S_1 := hide (S_1.out.keep b)
    have S_2 := hide (S_2.out.keep b)
    have S_x := hide (S_x.out.keep b)
    have B3 := hide (Below.next B2.out b)
    have S_y := hide s
    have HL_y := hide hn
    clear h hn s b
    go_wp2_with fail
    go_ret
    exact ⟨rfl, B3.out⟩

theorem cha_all (A0 : Option Addr) (n0 c0 : Nat) (l0 : List Ent) (A1 : Option Addr) (n1 c1 : Nat) (l1 : List Ent) (A2 : Option Addr) (n2 c2 : Nat) (l2 : List Ent) (w : World) (ha0 : SL eE w A0 n0 l0) (ha1 : SL eE w A1 n1 l1) (ha2 : SL eE w A2 n2 l2) : Calls Try.prog 9 #[.slice A0 n0 c0, .slice A1 n1 c1, .slice A2 n2 c2] w fun e w' => e = .returned (.bool true) ∧ Below w.heap.size w w' := by
  by_cases h0 : n0 ≤ 100
  · skip
    by_cases h1 : n1 ≤ 100
    · skip
      by_cases h2 : n2 ≤ 100
      · exact cha_main A0 n0 c0 l0 A1 n1 c1 l1 A2 n2 c2 l2 w ha0 ha1 ha2 h0 h1 h2
      · exact cha_few2 A0 n0 c0 A1 n1 c1 A2 n2 c2 w h0 h1 h2
    · exact cha_few1 A0 n0 c0 A1 n1 c1 A2 n2 c2 w h0 h1
  · exact cha_few0 A0 n0 c0 A1 n1 c1 A2 n2 c2 w h0
end Go.Proofs.Ytadmiecoahohiaa
