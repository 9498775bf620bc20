/- The body of LabelExpands. -/
import Derived.Test.YtdoknlodnpeeoaaDoorLREx
import Derived.Test.YtdoknlodnpeeoaaDoorLAwk
namespace Go.Proofs.YtdoknlodnpeeoaaDoor
open Go Go.RowKit Go.Lib

theorem expR_cases (l : List UInt8) : (∃ xs, expR l = (xs, 0) ∧ runT (ints5 xs) = strB l) ∨ expR l = ([], 3) := by
  unfold expR expL
  rcases numsL l with _ | L
  · exact .inr rfl
  · simp only []
    by_cases h : runT (ints5 L) = strB l
    · rw [if_pos h]; exact .inl ⟨L, rfl, h⟩
    · rw [if_neg h]; exact .inr rfl
theorem numsT_len {l : List UInt8} {xs : List Nat} {er : Int} (h : expR l = (xs, er)) : xs.length ≤ 999 := by
  rw [exp_rout] at h
  split at h
  · rename_i hh
    injection h with h1 h2
    rw [← h1]
    have h3 := setB_len 1000 (ints5 (routL l)) 1 hh.1
    rw [ints5_len] at h3
    rcases h3 with h3 | h3
    · have h4 : (routL l).length = 0 := by rw [← ints5_len, h3]; rfl
      omega
    · omega
  · injection h with h1 h2
    rw [← h1]; exact Nat.zero_le _
set_option maxRecDepth 100000 in
set_option maxHeartbeats 16000000 in
theorem exp_big (s : ByteArray) (w : World) (hT : Lw w) (h : 200 < s.size) :
    Calls Tryd.prog 8 #[.string s] w fun e w' => e = .returned (.bool true) ∧ Below w.heap.size w w' := by
  have HT := hide hT
  have d1 : decide (200 < (s.size : Int)) = true := decide_eq_true (by omega)
  clear hT
  go_enter Tryd.func8, Tryd.ntmps8
  have B := Below.refl w.heap.size w
  go_wp2_with fail
  refine (awake_yes _ HT.out).mono ?_
  rintro e w1 ⟨rfl, hb⟩
  replace B := B.trans (hb.mono B.size)
  clear hb
  go_wp2_with fail
  refine (awake_yes _ (HT.out.below B)).mono ?_
  rintro e w2 ⟨rfl, hb⟩
  replace B := B.trans (hb.mono B.size)
  clear hb
  go_wp2_with fail
  go_ret
  exact ⟨rfl, B⟩
set_option maxRecDepth 100000 in
set_option maxHeartbeats 16000000 in
theorem exp_y (s : ByteArray) (xs : List Nat) (w : World) (hT : Lw w) (hs : s.size ≤ 200) (he : expR s.data.toList = (xs, 0)) (hr : runT (ints5 xs) = s) :
    Calls Tryd.prog 8 #[.string s] w fun e w' => e = .returned (.bool true) ∧ Below w.heap.size w w' := by
  have HT := hide hT
  have d1 : decide (200 < (s.size : Int)) = false := decide_eq_false (by omega)
  have HSZ := hide hs
  have HE := hide he
  have HL := hide (show (xs : List Nat).length ≤ 999 from numsT_len he)
  have HR := hide hr
  have HRE := hide (show runE (ints5 xs) = 0 ∨ True from .inr trivial)
  obtain ⟨r, hre⟩ : ∃ r, runE (ints5 xs) = r := ⟨_, rfl⟩
  have hr0 : r = 0 := by
    rw [← hre]
    unfold runE
    have hb : setB 1000 1 (ints5 xs) = true := by
      have h := exp_rout s.data.toList
      rw [he] at h
      split at h
      · rename_i hh
        injection h with h1 h2
        rw [h1]; exact hh.1
      · injection h with h1 h2
        exact absurd h2 (by decide)
    rw [if_pos hb]
  subst hr0
  have HRR := hide hre
  clear hs he hre hr
  clear hT
  go_enter Tryd.func8, Tryd.ntmps8
  have B := Below.refl w.heap.size w
  go_wp2_with fail
  refine (awake_yes _ HT.out).mono ?_
  rintro e w1 ⟨rfl, hb⟩
  replace B := B.trans (hb.mono B.size)
  clear hb
  go_wp2_with fail
  refine (expand_any s _ (HT.out.below B) (by have := HSZ.out; omega) xs 0 HE.out).mono ?_
  rintro e w2 ⟨⟨A5, c5, rfl, hrl5, hc5, hm5⟩, hb⟩
  replace B := B.trans (hb.mono B.size)
  clear hb
  have HRL5 := hide hrl5
  have HC5 := hide hc5
  have HM5 := hide hm5
  clear hrl5 hc5 hm5
  go_wp2_with fail
  refine (rexpand_any s _ HSZ.out xs 0 HE.out).mono ?_
  rintro e w3 ⟨⟨A6, c6, rfl, hrl6, hc6, hm6⟩, hb⟩
  replace HRL5 := hide (HRL5.out.below hb)
  have HRL6 := hide hrl6
  clear hrl6 hc6 hm6
  replace B := B.trans (hb.mono B.size)
  clear hb
  go_wp2_with fail
  refine (runs_all A5 _ c5 (ints5 xs) _ (rl_il HRL5.out) HC5.out HM5.out (HT.out.below B) s 0 HR.out HRR.out).mono ?_
  rintro e w4 ⟨rfl, hb⟩
  replace HRL5 := hide (HRL5.out.below hb)
  replace HRL6 := hide (HRL6.out.below hb)
  replace B := B.trans (hb.mono B.size)
  clear hb
  go_wp2_with fail
  refine (ints_same A5 _ c5 (ints5 xs) A6 c6 _ (rl_il HRL5.out) (rl_il HRL6.out) (by have := HL.out; omega)).mono ?_
  rintro e w5 ⟨rfl, hb⟩
  replace B := B.trans (hb.mono B.size)
  clear hb
  go_wp2_with fail
  go_ret
  exact ⟨rfl, B⟩
set_option maxRecDepth 100000 in
set_option maxHeartbeats 16000000 in
theorem exp_n (s : ByteArray) (w : World) (hT : Lw w) (hs : s.size ≤ 200) (he : expR s.data.toList = ([], 3)) :
    Calls Tryd.prog 8 #[.string s] w fun e w' => e = .returned (.bool true) ∧ Below w.heap.size w w' := by
  have HT := hide hT
  have d1 : decide (200 < (s.size : Int)) = false := decide_eq_false (by omega)
  have HSZ := hide hs
  have HE := hide he
  have HL := hide (show ([] : List Nat).length ≤ 999 from numsT_len he)
  obtain ⟨r, hre⟩ : ∃ r, runE (ints5 []) = r := ⟨_, rfl⟩
  have HRR := hide hre
  clear hs he hre
  clear hT
  go_enter Tryd.func8, Tryd.ntmps8
  have B := Below.refl w.heap.size w
  go_wp2_with fail
  refine (awake_yes _ HT.out).mono ?_
  rintro e w1 ⟨rfl, hb⟩
  replace B := B.trans (hb.mono B.size)
  clear hb
  go_wp2_with fail
  refine (expand_any s _ (HT.out.below B) (by have := HSZ.out; omega) [] 3 HE.out).mono ?_
  rintro e w2 ⟨⟨A5, c5, rfl, hrl5, hc5, hm5⟩, hb⟩
  replace B := B.trans (hb.mono B.size)
  clear hb
  have HRL5 := hide hrl5
  have HC5 := hide hc5
  have HM5 := hide hm5
  clear hrl5 hc5 hm5
  go_wp2_with fail
  refine (rexpand_any s _ HSZ.out [] 3 HE.out).mono ?_
  rintro e w3 ⟨⟨A6, c6, rfl, hrl6, hc6, hm6⟩, hb⟩
  replace HRL5 := hide (HRL5.out.below hb)
  have HRL6 := hide hrl6
  clear hrl6 hc6 hm6
  replace B := B.trans (hb.mono B.size)
  clear hb
  go_wp2_with fail
  refine (runs_all A5 _ c5 (ints5 []) _ (rl_il HRL5.out) HC5.out HM5.out (HT.out.below B) _ r rfl HRR.out).mono ?_
  rintro e w4 ⟨rfl, hb⟩
  replace HRL5 := hide (HRL5.out.below hb)
  replace HRL6 := hide (HRL6.out.below hb)
  replace B := B.trans (hb.mono B.size)
  clear hb
  go_wp2_with fail
  refine (ints_same A5 _ c5 (ints5 []) A6 c6 _ (rl_il HRL5.out) (rl_il HRL6.out) (by have := HL.out; omega)).mono ?_
  rintro e w5 ⟨rfl, hb⟩
  replace B := B.trans (hb.mono B.size)
  clear hb
  go_wp2_with fail
  go_ret
  exact ⟨rfl, B⟩
theorem expands_all (s : ByteArray) (w : World) (hT : Lw w) :
    Calls Tryd.prog 8 #[.string s] w fun e w' => e = .returned (.bool true) ∧ Below w.heap.size w w' := by
  by_cases h : s.size ≤ 200
  · rcases expR_cases s.data.toList with ⟨xs, he, hr⟩ | he
    · exact exp_y s xs w hT h he (by rw [strB_data] at hr; exact hr)
    · exact exp_n s w hT h he
  · exact exp_big s w hT (by omega)
end Go.Proofs.YtdoknlodnpeeoaaDoor
