/- The body of PosetOrders. -/
import Derived.Test.YtgmdfaamheblmaaPRLv
namespace Go.Proofs.Ytgmdfaamheblmaa
open Go Go.RowKit PM

theorem resO_len (n : Int) (l : List (Int × Int)) {xs : List Nat} {er : Int} (h : resO n l = (xs, er)) : xs.length ≤ 24 := by
  rcases resO_cases n l with ⟨e, _, h2⟩ | ⟨N, bs, rfl, rfl, hd, hl, h2⟩
  · rw [h2] at h; cases h; exact Nat.zero_le _
  · rw [h2] at h; cases h; have := hd.le; show (ord N (adj bs)).length ≤ 24; omega
theorem resV_len (n : Int) (l : List (Int × Int)) {xs : List Nat} {er : Int} (h : resV n l = (xs, er)) : xs.length ≤ 24 := by
  unfold resV at h
  rcases resO_cases n l with ⟨e, he, h2⟩ | ⟨N, bs, rfl, rfl, hd, hl, h2⟩
  · rw [h2, if_neg he] at h; cases h; exact Nat.zero_le _
  · rw [h2, if_pos rfl, Int.toNat_natCast] at h
    cases h
    rw [lvL_len]; exact hd.le
set_option maxHeartbeats 8000000 in
set_option maxRecDepth 100000 in
theorem ods_no (n : Int) (A : Option Addr) (m c : Nat) (l : List (Int × Int)) (w : World) (hx : YL w A m l) (hm : m ≤ maxLen) (hf : ¬ m ≤ 150) :
    Calls Try.prog 5 #[.int .i64 n, .slice A m c] w fun e w' => e = .returned (.bool true) ∧ Below w.heap.size w w' := by
  have HX := hide hx
  have HM := hide hm
  have HF := hide (show decide (m ≤ 150) = false from decide_eq_false hf)
  clear hf
  clear hx hm
  go_enter Try.func5, Try.ntmps5
  go_wp2_with fail
  refine (awake_yes _).mono ?_
  rintro e w1 ⟨rfl, B⟩
  go_wp2_with fail
  refine (few_any A m c _ HM.out false HF.out).mono ?_
  rintro e w2 ⟨rfl, rfl⟩
  go_wp2_with fail
  refine (awake_yes _).mono ?_
  rintro e w2 ⟨rfl, hb⟩
  have B := B.trans (hb.mono B.size)
  go_wp2_with fail
  go_ret
  exact ⟨rfl, B⟩
set_option maxHeartbeats 8000000 in
set_option maxRecDepth 100000 in
theorem ods_yes (n : Int) (A : Option Addr) (m c : Nat) (l : List (Int × Int)) (w : World) (hx : YL w A m l) (hm : m ≤ maxLen) (hf : m ≤ 150) :
    Calls Try.prog 5 #[.int .i64 n, .slice A m c] w fun e w' => e = .returned (.bool true) ∧ Below w.heap.size w w' := by
  have HX := hide hx
  have HM := hide hm
  have HF := hide (show decide (m ≤ 150) = true from decide_eq_true hf)
  obtain ⟨xs, er, ho⟩ : ∃ xs er, resO n l = (xs, er) := ⟨_, _, rfl⟩
  obtain ⟨ys, es, hv⟩ : ∃ xs er, resV n l = (xs, er) := ⟨_, _, rfl⟩
  have HO := hide ho
  have HV := hide hv
  have h1 := resO_len n l ho
  have h2 := resV_len n l hv
  clear ho hv hf
  clear hx hm
  go_enter Try.func5, Try.ntmps5
  go_wp2_with fail
  refine (awake_yes _).mono ?_
  rintro e w1 ⟨rfl, B⟩
  go_wp2_with fail
  refine (few_any A m c _ HM.out true HF.out).mono ?_
  rintro e w2 ⟨rfl, rfl⟩
  go_wp2_with fail
  refine (order_any n A m c l _ (HX.out.keep B) HM.out xs er HO.out).mono ?_
  rintro e w3 ⟨⟨A3, c3, rfl, r3, -, -⟩, hb⟩
  have B := B.trans (hb.mono B.size)
  clear hb
  go_wp2_with fail
  refine (levels_any n A m c l _ (HX.out.keep B) HM.out ys es HV.out).mono ?_
  rintro e w4 ⟨⟨A4, c4, rfl, r4, -, -⟩, hb⟩
  have B := B.trans (hb.mono B.size)
  have r3 := r3.below hb
  clear hb
  go_wp2_with fail
  refine (rorder_any n A m c l _ (HX.out.keep B) xs er HO.out).mono ?_
  rintro e w5 ⟨⟨A5, c5, rfl, r5, -, -⟩, hb⟩
  have B := B.trans (hb.mono B.size)
  have r3 := r3.below hb
  have r4 := r4.below hb
  clear hb
  go_wp2_with fail
  refine (rlevels_any n A m c l _ (HX.out.keep B) ys es HV.out).mono ?_
  rintro e w6 ⟨⟨A6, c6, rfl, r6, -, -⟩, hb⟩
  have B := B.trans (hb.mono B.size)
  have r3 := r3.below hb
  have r4 := r4.below hb
  have r5 := r5.below hb
  clear hb
  go_wp2_with fail
  refine (ints_eq A3 _ c3 xs A5 c5 _ r3 r5 (by omega)).mono ?_
  rintro e w7 ⟨rfl, hb⟩
  have B := B.trans (hb.mono B.size)
  have r4 := r4.below hb
  have r6 := r6.below hb
  clear hb
  go_wp2_with fail
  refine (ints_eq A4 _ c4 ys A6 c6 _ r4 r6 (by omega)).mono ?_
  rintro e w8 ⟨rfl, hb⟩
  have B := B.trans (hb.mono B.size)
  go_wp2_with fail
  go_ret
  exact ⟨rfl, B⟩
theorem ods_all (n : Int) (A : Option Addr) (m c : Nat) (l : List (Int × Int)) (w : World) (hx : YL w A m l) (hm : m ≤ maxLen) :
    Calls Try.prog 5 #[.int .i64 n, .slice A m c] w fun e w' => e = .returned (.bool true) ∧ Below w.heap.size w w' := by
  by_cases hf : m ≤ 150
  · exact ods_yes n A m c l w hx hm hf
  · exact ods_no n A m c l w hx hm hf
end Go.Proofs.Ytgmdfaamheblmaa
