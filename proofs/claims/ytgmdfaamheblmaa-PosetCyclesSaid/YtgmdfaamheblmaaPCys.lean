/- The body of PosetCycles. -/
import Derived.Test.YtgmdfaamheblmaaPRCy
import Derived.Test.YtgmdfaamheblmaaPAwk
namespace Go.Proofs.Ytgmdfaamheblmaa
open Go Go.RowKit PM

theorem resK'_best {N : Nat} {bs : List (Nat × Nat)} {xs : List Nat} {er : Int} (hd : Dig N bs) (h : resK' N (adj bs) = (xs, er)) : bestTo bs N N = xs ∧ (if xs.length = 0 then (7 : Int) else 0) = er := by
  have e := cyc_eq (n := N) (T := adj bs) hd.adj (fun p => adj_iff.symm) hd.asc hd.irr
  rw [e]
  unfold resK' at h
  split at h
  · rename_i hl
    injection h with h1 h2
    refine ⟨h1, ?_⟩
    rw [← h1, ← h2]
    unfold cycP
    rw [if_pos hl, if_neg (by simp)]
  · rename_i hl
    injection h with h1 h2
    refine ⟨?_, by rw [← h1, ← h2]; rfl⟩
    unfold cycP
    rw [if_neg hl, h1]
theorem rcycle_any (n : Int) (A : Option Addr) (m c : Nat) (l : List (Int × Int)) (w : World) (hx : YL w A m l) (xs : List Nat) (er : Int) (hr : resK n l = (xs, er)) :
    Calls Try.prog 30 #[.int .i64 n, .slice A m c] w (GivesL xs er w) := by
  rcases resK_cases n l with ⟨hv, h⟩ | ⟨N, bs, rfl, rfl, hd, h⟩
  · rw [h] at hr
    cases hr
    exact rcyc_v n A m c l w hx hv
  · rw [h] at hr
    obtain ⟨h1, h2⟩ := resK'_best hd hr
    exact rcyc_y N A m c bs w hx hd xs h1 er h2
theorem resK_len (n : Int) (l : List (Int × Int)) {xs : List Nat} {er : Int} (h : resK n l = (xs, er)) : xs.length ≤ 24 := by
  rcases resK_cases n l with ⟨_, h2⟩ | ⟨N, bs, rfl, rfl, hd, h2⟩
  · rw [h2] at h; cases h; exact Nat.zero_le _
  · rw [h2] at h
    have := hd.le
    unfold resK' at h
    split at h
    · rename_i hl
      injection h with h1 _
      rw [← h1]
      unfold cycP
      rw [if_pos hl, List.length_cons, pathP_len]
      omega
    · injection h with h1 _
      rw [← h1]; exact Nat.zero_le _
set_option maxHeartbeats 8000000 in
set_option maxRecDepth 100000 in
theorem cys_no (n : Int) (A : Option Addr) (m c : Nat) (l : List (Int × Int)) (w : World) (hx : YL w A m l) (hm : m ≤ maxLen) (hf : ¬ m ≤ 150) :
    Calls Try.prog 6 #[.int .i64 n, .slice A m c] w fun e w' => e = .returned (.bool true) ∧ Below w.heap.size w w' := by
  have HX := hide hx
  have HM := hide hm
  have HF := hide (show decide (m ≤ 150) = false from decide_eq_false hf)
  clear hf
  clear hx hm
  go_enter Try.func6, Try.ntmps6
  go_wp2_with fail
  refine (awake_yes _).mono ?_
  rintro e w1 ⟨rfl, B⟩
  go_wp2_with fail
  refine (few_any A m c _ HM.out false HF.out).mono ?_
  rintro e w2 ⟨rfl, rfl⟩
  go_wp2_with fail
  refine (awake_yes _).mono ?_
  rintro e w2 ⟨rfl, hb⟩
  have B := B.trans (hb.mono B.size)
  go_wp2_with fail
  go_ret
  exact ⟨rfl, B⟩
set_option maxHeartbeats 8000000 in
set_option maxRecDepth 100000 in
theorem cys_yes (n : Int) (A : Option Addr) (m c : Nat) (l : List (Int × Int)) (w : World) (hx : YL w A m l) (hm : m ≤ maxLen) (hf : m ≤ 150) :
    Calls Try.prog 6 #[.int .i64 n, .slice A m c] w fun e w' => e = .returned (.bool true) ∧ Below w.heap.size w w' := by
  have HX := hide hx
  have HM := hide hm
  have HF := hide (show decide (m ≤ 150) = true from decide_eq_true hf)
  obtain ⟨xs, er, ho⟩ : ∃ xs er, resK n l = (xs, er) := ⟨_, _, rfl⟩
  have HO := hide ho
  have h1 := resK_len n l ho
  clear ho hf
  clear hx hm
  go_enter Try.func6, Try.ntmps6
  go_wp2_with fail
  refine (awake_yes _).mono ?_
  rintro e w1 ⟨rfl, B⟩
  go_wp2_with fail
  refine (few_any A m c _ HM.out true HF.out).mono ?_
  rintro e w2 ⟨rfl, rfl⟩
  go_wp2_with fail
  refine (cycle_any n A m c l _ (HX.out.keep B) HM.out xs er HO.out).mono ?_
  rintro e w3 ⟨⟨A3, c3, rfl, r3, -, -⟩, hb⟩
  have B := B.trans (hb.mono B.size)
  clear hb
  go_wp2_with fail
  refine (rcycle_any n A m c l _ (HX.out.keep B) xs er HO.out).mono ?_
  rintro e w4 ⟨⟨A4, c4, rfl, r4, -, -⟩, hb⟩
  have B := B.trans (hb.mono B.size)
  have r3 := r3.below hb
  clear hb
  go_wp2_with fail
  refine (ints_eq A3 _ c3 xs A4 c4 _ r3 r4 (by omega)).mono ?_
  rintro e w7 ⟨rfl, hb⟩
  have B := B.trans (hb.mono B.size)
  clear hb
  go_wp2_with fail
  go_ret
  exact ⟨rfl, B⟩
theorem cys_all (n : Int) (A : Option Addr) (m c : Nat) (l : List (Int × Int)) (w : World) (hx : YL w A m l) (hm : m ≤ maxLen) :
    Calls Try.prog 6 #[.int .i64 n, .slice A m c] w fun e w' => e = .returned (.bool true) ∧ Below w.heap.size w w' := by
  by_cases hf : m ≤ 150
  · exact cys_yes n A m c l w hx hm hf
  · exact cys_no n A m c l w hx hm hf
end Go.Proofs.Ytgmdfaamheblmaa
