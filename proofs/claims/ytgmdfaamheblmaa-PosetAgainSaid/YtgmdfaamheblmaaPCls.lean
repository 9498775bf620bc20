/- The body of PosetClosures. -/
import Derived.Test.YtgmdfaamheblmaaPRCl
import Derived.Test.YtgmdfaamheblmaaPAwk
namespace Go.Proofs.Ytgmdfaamheblmaa
open Go Go.RowKit PM

theorem resC_len (n : Int) (l : List (Int × Int)) {xs : List (Nat × Nat)} {er : Int} (h : resC n l = (xs, er)) : xs.length ≤ 576 := by
  rcases resC_cases n l with ⟨_, h2⟩ | ⟨N, bs, rfl, rfl, hd, h2⟩
  · rw [h2] at h; cases h; exact Nat.zero_le _
  · rw [h2] at h; cases h; exact listR_len hd.le _
theorem resR_len (n : Int) (l : List (Int × Int)) {xs : List (Nat × Nat)} {er : Int} (h : resR n l = (xs, er)) : xs.length ≤ 576 := by
  rcases resR_cases n l with ⟨_, h2⟩ | ⟨_, _, h2⟩ | ⟨N, bs, rfl, rfl, hd, _, h2⟩
  · rw [h2] at h; cases h; exact Nat.zero_le _
  · rw [h2] at h; cases h; exact Nat.zero_le _
  · rw [h2] at h; cases h; exact listR_len hd.le _
set_option maxHeartbeats 8000000 in
set_option maxRecDepth 100000 in
theorem cls_no (n : Int) (A : Option Addr) (m c : Nat) (l : List (Int × Int)) (w : World) (hx : YL w A m l) (hm : m ≤ maxLen) (hf : ¬ m ≤ 150) :
    Calls Try.prog 4 #[.int .i64 n, .slice A m c] w fun e w' => e = .returned (.bool true) ∧ Below w.heap.size w w' := by
  have HX := hide hx
  have HM := hide hm
  have HF := hide (show decide (m ≤ 150) = false from decide_eq_false hf)
  clear hf
  clear hx hm
  go_enter Try.func4, Try.ntmps4
  go_wp2_with fail
  refine (awake_yes _).mono ?_
  rintro e w1 ⟨rfl, B⟩
  go_wp2_with fail
  refine (few_any A m c _ HM.out false HF.out).mono ?_
  rintro e w2 ⟨rfl, rfl⟩
  go_wp2_with fail
  refine (awake_yes _).mono ?_
  rintro e w2 ⟨rfl, hb⟩
  have B := B.trans (hb.mono B.size)
  go_wp2_with fail
  go_ret
  exact ⟨rfl, B⟩
set_option maxHeartbeats 8000000 in
set_option maxRecDepth 100000 in
theorem cls_yes (n : Int) (A : Option Addr) (m c : Nat) (l : List (Int × Int)) (w : World) (hx : YL w A m l) (hm : m ≤ maxLen) (hf : m ≤ 150) :
    Calls Try.prog 4 #[.int .i64 n, .slice A m c] w fun e w' => e = .returned (.bool true) ∧ Below w.heap.size w w' := by
  have HX := hide hx
  have HM := hide hm
  have HF := hide (show decide (m ≤ 150) = true from decide_eq_true hf)
  obtain ⟨xs, er, ho⟩ : ∃ xs er, resC n l = (xs, er) := ⟨_, _, rfl⟩
  obtain ⟨ys, es, hv⟩ : ∃ xs er, resR n l = (xs, er) := ⟨_, _, rfl⟩
  have HO := hide ho
  have HV := hide hv
  have h1 := resC_len n l ho
  have h2 := resR_len n l hv
  clear ho hv hf
  clear hx hm
  go_enter Try.func4, Try.ntmps4
  go_wp2_with fail
  refine (awake_yes _).mono ?_
  rintro e w1 ⟨rfl, B⟩
  go_wp2_with fail
  refine (few_any A m c _ HM.out true HF.out).mono ?_
  rintro e w2 ⟨rfl, rfl⟩
  go_wp2_with fail
  refine (closure_any n A m c l _ (HX.out.keep B) HM.out xs er HO.out).mono ?_
  rintro e w3 ⟨⟨A3, c3, rfl, r3, -, -⟩, hb⟩
  have B := B.trans (hb.mono B.size)
  clear hb
  go_wp2_with fail
  refine (reduction_any n A m c l _ (HX.out.keep B) HM.out ys es HV.out).mono ?_
  rintro e w4 ⟨⟨A4, c4, rfl, r4, -, -⟩, hb⟩
  have B := B.trans (hb.mono B.size)
  have r3 := r3.keep hb
  clear hb
  go_wp2_with fail
  refine (rclosure_any n A m c l _ (HX.out.keep B) xs er HO.out).mono ?_
  rintro e w5 ⟨⟨A5, c5, rfl, r5, -, -⟩, hb⟩
  have B := B.trans (hb.mono B.size)
  have r3 := r3.keep hb
  have r4 := r4.keep hb
  clear hb
  go_wp2_with fail
  refine (rreduction_any n A m c l _ (HX.out.keep B) ys es HV.out).mono ?_
  rintro e w6 ⟨⟨A6, c6, rfl, r6, -, -⟩, hb⟩
  have B := B.trans (hb.mono B.size)
  have r3 := r3.keep hb
  have r4 := r4.keep hb
  have r5 := r5.keep hb
  clear hb
  go_wp2_with fail
  refine (arcs_any A3 _ c3 _ A5 _ c5 _ _ r3 r5 (by omega) true (decide_eq_true rfl)).mono ?_
  rintro e w7 ⟨rfl, hb⟩
  have B := B.trans (hb.mono B.size)
  have r4 := r4.keep hb
  have r6 := r6.keep hb
  clear hb
  go_wp2_with fail
  refine (arcs_any A4 _ c4 _ A6 _ c6 _ _ r4 r6 (by omega) true (decide_eq_true rfl)).mono ?_
  rintro e w8 ⟨rfl, hb⟩
  have B := B.trans (hb.mono B.size)
  go_wp2_with fail
  go_ret
  exact ⟨rfl, B⟩
theorem cls_all (n : Int) (A : Option Addr) (m c : Nat) (l : List (Int × Int)) (w : World) (hx : YL w A m l) (hm : m ≤ maxLen) :
    Calls Try.prog 4 #[.int .i64 n, .slice A m c] w fun e w' => e = .returned (.bool true) ∧ Below w.heap.size w w' := by
  by_cases hf : m ≤ 150
  · exact cls_yes n A m c l w hx hm hf
  · exact cls_no n A m c l w hx hm hf
end Go.Proofs.Ytgmdfaamheblmaa
