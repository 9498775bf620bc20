/- OpinionDiffs. -/
import Derived.Test.YtadmiecoahohiaaUX
namespace Go.Proofs.Ytadmiecoahohiaa
open Go Go.RowKit Go.Lib

set_option maxHeartbeats 4000000 in
set_option maxRecDepth 100000 in
theorem dfs_few0 (A0 : Option Addr) (n0 c0 : Nat) (A1 : Option Addr) (n1 c1 : Nat) (w : World)  (h0 : ¬ n0 ≤ 100) : Calls Try.prog 4 #[.slice A0 n0 c0, .slice A1 n1 c1] w fun e w' => e = .returned (.bool true) ∧ Below w.heap.size w w' := by
  go_enter Try.func4, Try.ntmps4
  go_wp2_with fail
  refine (awake_yes w).mono ?_
  rintro e w1 ⟨rfl, b1⟩
  have B1 := hide b1
  clear b1
  go_wp2_with fail
  refine (few_any A0 n0 c0 w1 false (decide_eq_false h0)).mono ?_
  rintro e w2 ⟨rfl, rfl⟩
  go_wp2_with fail
  refine (awake_yes w1).mono ?_
  rintro e w2 ⟨rfl, b2⟩
  have B2 := hide (Below.next B1.out b2)
  clear b2
  go_wp2_with fail
  go_ret
  exact ⟨rfl, B2.out⟩

set_option maxHeartbeats 4000000 in
set_option maxRecDepth 100000 in
theorem dfs_few1 (A0 : Option Addr) (n0 c0 : Nat) (A1 : Option Addr) (n1 c1 : Nat) (w : World) (h0 : n0 ≤ 100) (h1 : ¬ n1 ≤ 100) : Calls Try.prog 4 #[.slice A0 n0 c0, .slice A1 n1 c1] w fun e w' => e = .returned (.bool true) ∧ Below w.heap.size w w' := by
  go_enter Try.func4, Try.ntmps4
  go_wp2_with fail
  refine (awake_yes w).mono ?_
  rintro e w1 ⟨rfl, b1⟩
  have B1 := hide b1
  clear b1
  go_wp2_with fail
  refine (few_any A0 n0 c0 w1 true (decide_eq_true h0)).mono ?_
  rintro e w2 ⟨rfl, rfl⟩
  go_wp2_with fail
  refine (few_any A1 n1 c1 w1 false (decide_eq_false h1)).mono ?_
  rintro e w2 ⟨rfl, rfl⟩
  go_wp2_with fail
  refine (awake_yes w1).mono ?_
  rintro e w2 ⟨rfl, b2⟩
  have B2 := hide (Below.next B1.out b2)
  clear b2
  go_wp2_with fail
  go_ret
  exact ⟨rfl, B2.out⟩

set_option maxHeartbeats 16000000 in
set_option maxRecDepth 100000 in
theorem dfs_main (A0 : Option Addr) (n0 c0 : Nat) (l0 : List Ent) (A1 : Option Addr) (n1 c1 : Nat) (l1 : List Ent) (w : World) (ha0 : SL eE w A0 n0 l0) (ha1 : SL eE w A1 n1 l1) (h0 : n0 ≤ 100) (h1 : n1 ≤ 100) : Calls Try.prog 4 #[.slice A0 n0 c0, .slice A1 n1 c1] w fun e w' => e = .returned (.bool true) ∧ Below w.heap.size w w' := by
  have HA0 := hide ha0
  have HA1 := hide ha1
  clear ha0 ha1
  obtain ⟨L, er, hR⟩ : ∃ L er, difR l0 l1 = (L, er) := ⟨_, _, rfl⟩
  have HR := hide hR
  have HLB := hide (show L.length ≤ 64 by have := difR_len l0 l1; rw [hR] at this; exact this)
  have q1 : (er == er) = true := beq_self_eq_true _
  clear hR
  go_enter Try.func4, Try.ntmps4
  go_wp2_with fail
  refine (awake_yes w).mono ?_
  rintro e w1 ⟨rfl, b1⟩
  have B1 := hide b1
  clear b1
  go_wp2_with fail
  refine (few_any A0 n0 c0 w1 true (decide_eq_true h0)).mono ?_
  rintro e w2 ⟨rfl, rfl⟩
  go_wp2_with fail
  refine (few_any A1 n1 c1 w1 true (decide_eq_true h1)).mono ?_
  rintro e w2 ⟨rfl, rfl⟩
  have S_0 := hide (HA0.out.keep B1.out)
  have S_1 := hide (HA1.out.keep B1.out)
  go_wp2_with (at_builtin; first | (refine wpList_app_ow _ rfl _ _ 22 rfl w1.heap.size 43 _ 2 16 Try.underlying22 infoE rfl (by decide) (some ⟨w1.heap.size, 0, none⟩) 0 0 [] rfl (owns_new w1 (Nat.le_refl _)) A0 n0 c0 (flatE eE l0) rfl (by rw [flatE_len, HA0.out.1]; rfl) (srcE (S_0.out.keep ((Below.refl _ _).alloc (Nat.le_refl _) (.cells #[] 43)))) (flatE_one l0) (by decide) (by omega) (by simp) ?_; intro A_x c_x wx r1 r2 r3; simp only [Nat.zero_add] at r1 ⊢; have S_x := hide (show SL eE wx A_x n0 l0 from (show Ow eE wx w1.heap.size A_x n0 c_x l0 from r1).sl); have bq_x : Below w1.heap.size w1 wx := ((Below.refl _ _).alloc (Nat.le_refl _) _).trans (r2.below (fun kk hk => by rw [blk_some] at hk; omega) (by simp)); clear r1 r2 r3; have S_0 := hide (S_0.out.keep bq_x); have S_1 := hide (S_1.out.keep bq_x); have B2 := hide (Below.next B1.out bq_x); clear bq_x) | (refine wpList_app_ow _ rfl _ _ 22 rfl wx.heap.size 43 _ 2 16 Try.underlying22 infoE rfl (by decide) (some ⟨wx.heap.size, 0, none⟩) 0 0 [] rfl (owns_new wx (Nat.le_refl _)) A1 n1 c1 (flatE eE l1) rfl (by rw [flatE_len, HA1.out.1]; rfl) (srcE (S_1.out.keep ((Below.refl _ _).alloc (Nat.le_refl _) (.cells #[] 43)))) (flatE_one l1) (by decide) (by omega) (by simp) ?_; intro A_y c_y wy r1 r2 r3; simp only [Nat.zero_add] at r1 ⊢; have S_y := hide (show SL eE wy A_y n1 l1 from (show Ow eE wy wx.heap.size A_y n1 c_y l1 from r1).sl); have bq_y : Below wx.heap.size wx wy := ((Below.refl _ _).alloc (Nat.le_refl _) _).trans (r2.below (fun kk hk => by rw [blk_some] at hk; omega) (by simp)); clear r1 r2 r3; have S_0 := hide (S_0.out.keep bq_y); have S_1 := hide (S_1.out.keep bq_y); have S_x := hide (S_x.out.keep bq_y); have B3 := hide (Below.next B2.out bq_y); clear bq_y))
  refine (diff_any A_x n0 c_x l0 A_y n1 c_y l1 wy S_x.out S_y.out (by omega) (by omega)).mono ?_
  rintro e w13 h
  obtain ⟨A_d, c_d, n_d, rfl, hn, s, b⟩ := giv_is HR.out h
  have hn_d : n_d ≤ 100 := Nat.le_trans (by rw [← hn]; exact HLB.out) (by decide)
  have S_0 := hide (S_0.out.keep b)
  have S_1 := hide (S_1.out.keep b)
  have S_x := hide (S_x.out.keep b)
  have S_y := hide (S_y.out.keep b)
  have B4 := hide (Below.next B3.out b)
  have S_d := hide s
  have HL_d := hide hn
  clear h hn s b
  go_wp2_with fail
  refine (rdiff_any A0 n0 c0 l0 A1 n1 c1 l1 w13 S_0.out S_1.out (by omega) (by omega)).mono ?_
  rintro e w14 h
  obtain ⟨A_e, c_e, n_e, rfl, hn, s, b⟩ := giv_is HR.out h
  have hn_e : n_e ≤ 100 := Nat.le_trans (by rw [← hn]; exact HLB.out) (by decide)
  have S_0 := hide (S_0.out.keep b)
  have S_1 := hide (S_1.out.keep b)
  have S_x := hide (S_x.out.keep b)
  have S_y := hide (S_y.out.keep b)
  have S_d := hide (S_d.out.keep b)
  have B5 := hide (Below.next B4.out b)
  have S_e := hide s
  have HL_e := hide hn
  clear h hn s b
  go_wp2_with fail
  refine (baseC_any A_d n_d c_d L A_e n_e c_e L w14 S_d.out S_e.out (by omega) (by omega) true (decide_eq_true rfl)).mono ?_
  rintro e w15 ⟨rfl, g⟩
  have b := g.below
  have S_0 := hide (S_0.out.keep b)
  have S_1 := hide (S_1.out.keep b)
  have S_x := hide (S_x.out.keep b)
  have S_y := hide (S_y.out.keep b)
  have S_d := hide (S_d.out.keep b)
  have S_e := hide (S_e.out.keep b)
  have B6 := hide (Below.next B5.out b)
  clear g b
  go_wp2_with fail
  refine (baseE_any A_x n0 c_x l0 A0 n0 c0 l0 w15 S_x.out S_0.out (by omega) (by omega) true (decide_eq_true rfl)).mono ?_
  rintro e w16 ⟨rfl, g⟩
  have b := g.below
  have S_0 := hide (S_0.out.keep b)
  have S_1 := hide (S_1.out.keep b)
  have S_x := hide (S_x.out.keep b)
  have S_y := hide (S_y.out.keep b)
  have S_d := hide (S_d.out.keep b)
  have S_e := hide (S_e.out.keep b)
  have B7 := hide (Below.next B6.out b)
  clear g b
  go_wp2_with fail
  refine (baseE_any A_y n1 c_y l1 A1 n1 c1 l1 w16 S_y.out S_1.out (by omega) (by omega) true (decide_eq_true rfl)).mono ?_
  rintro e w17 ⟨rfl, g⟩
  have b := g.below
  have S_0 := hide (S_0.out.keep b)
  have S_1 := hide (S_1.out.keep b)
  have S_x := hide (S_x.out.keep b)
  have S_y := hide (S_y.out.keep b)
  have S_d := hide (S_d.out.keep b)
  have S_e := hide (S_e.out.keep b)
  have B8 := hide (Below.next B7.out b)
  clear g b
  go_wp2_with fail
  go_ret
  exact ⟨rfl, B8.out⟩

theorem dfs_all (A0 : Option Addr) (n0 c0 : Nat) (l0 : List Ent) (A1 : Option Addr) (n1 c1 : Nat) (l1 : List Ent) (w : World) (ha0 : SL eE w A0 n0 l0) (ha1 : SL eE w A1 n1 l1) : Calls Try.prog 4 #[.slice A0 n0 c0, .slice A1 n1 c1] w fun e w' => e = .returned (.bool true) ∧ Below w.heap.size w w' := by
  by_cases h0 : n0 ≤ 100
  · skip
    by_cases h1 : n1 ≤ 100
    · exact dfs_main A0 n0 c0 l0 A1 n1 c1 l1 w ha0 ha1 h0 h1
    · exact dfs_few1 A0 n0 c0 A1 n1 c1 w h0 h1
  · exact dfs_few0 A0 n0 c0 A1 n1 c1 w h0
end Go.Proofs.Ytadmiecoahohiaa
