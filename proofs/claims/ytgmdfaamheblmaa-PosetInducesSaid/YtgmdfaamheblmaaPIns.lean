/- The body of PosetInduces. -/
import Derived.Test.YtgmdfaamheblmaaPRIn
import Derived.Test.YtgmdfaamheblmaaPAwk
namespace Go.Proofs.Ytgmdfaamheblmaa
open Go Go.RowKit PM

theorem resI_len (n : Int) (l : List (Int × Int)) (hl : l.length ≤ 150) (xs : List Int) {ls : List (Nat × Nat)} {er : Int} (h : resI n l xs = (ls, er)) : ls.length ≤ 576 := by
  rcases resI_cases n l xs with ⟨_, h2⟩ | ⟨N, bs, rfl, rfl, hd, ⟨_, h2⟩ | ⟨_, h2⟩⟩
  · rw [h2] at h; cases h; exact Nat.zero_le _
  · rw [h2] at h; cases h; exact Nat.zero_le _
  · rw [h2] at h; cases h
    have := indTo_len xs bs bs.length
    rw [List.length_map] at hl
    omega
set_option maxHeartbeats 8000000 in
set_option maxRecDepth 100000 in
theorem ins_no (n : Int) (A : Option Addr) (m c : Nat) (l : List (Int × Int)) (S : Option Addr) (k d : Nat) (w : World) (hx : YL w A m l) (hm : m ≤ maxLen) (hf : ¬ m ≤ 150) :
    Calls Try.prog 7 #[.int .i64 n, .slice A m c, .slice S k d] w fun e w' => e = .returned (.bool true) ∧ Below w.heap.size w w' := by
  have HX := hide hx
  have HM := hide hm
  have HF := hide (show decide (m ≤ 150) = false from decide_eq_false hf)
  clear hf
  clear hx hm
  go_enter Try.func7, Try.ntmps7
  go_wp2_with fail
  refine (awake_yes _).mono ?_
  rintro e w1 ⟨rfl, B⟩
  go_wp2_with fail
  refine (few_any A m c _ HM.out false HF.out).mono ?_
  rintro e w2 ⟨rfl, rfl⟩
  go_wp2_with fail
  refine (awake_yes _).mono ?_
  rintro e w2 ⟨rfl, hb⟩
  have B := B.trans (hb.mono B.size)
  go_wp2_with fail
  go_ret
  exact ⟨rfl, B⟩
set_option maxHeartbeats 8000000 in
set_option maxRecDepth 100000 in
theorem ins_big (n : Int) (A : Option Addr) (m c : Nat) (l : List (Int × Int)) (S : Option Addr) (k d : Nat) (w : World) (hx : YL w A m l) (hm : m ≤ maxLen) (hf : m ≤ 150) (hk : ¬ k ≤ 60) (hkm : k ≤ maxLen) :
    Calls Try.prog 7 #[.int .i64 n, .slice A m c, .slice S k d] w fun e w' => e = .returned (.bool true) ∧ Below w.heap.size w w' := by
  have HX := hide hx
  have HM := hide hm
  have HF := hide (show decide (m ≤ 150) = true from decide_eq_true hf)
  unfold maxLen at hkm
  have e1 : decide (60 < (k : Int)) = true := decide_eq_true (by omega)
  have e2 : decide (60 < k) = true := decide_eq_true (by omega)
  clear hf hk
  clear hx hm
  go_enter Try.func7, Try.ntmps7
  go_wp2_with fail
  refine (awake_yes _).mono ?_
  rintro e w1 ⟨rfl, B⟩
  go_wp2_with fail
  refine (few_any A m c _ HM.out true HF.out).mono ?_
  rintro e w2 ⟨rfl, rfl⟩
  go_wp2_with fail
  refine (awake_yes _).mono ?_
  rintro e w2 ⟨rfl, hb⟩
  have B := B.trans (hb.mono B.size)
  go_wp2_with fail
  go_ret
  exact ⟨rfl, B⟩
set_option maxHeartbeats 8000000 in
set_option maxRecDepth 100000 in
theorem ins_yes (n : Int) (A : Option Addr) (m c : Nat) (l : List (Int × Int)) (S : Option Addr) (k d : Nat) (xs : List Int) (w : World) (hx : YL w A m l) (hm : m ≤ maxLen) (hs : IL w S k xs) (hf : m ≤ 150) (hk : k ≤ 60) :
    Calls Try.prog 7 #[.int .i64 n, .slice A m c, .slice S k d] w fun e w' => e = .returned (.bool true) ∧ Below w.heap.size w w' := by
  have HX := hide hx
  have HM := hide hm
  have HF := hide (show decide (m ≤ 150) = true from decide_eq_true hf)
  have HS := hide hs
  have e1 : decide (60 < (k : Int)) = false := decide_eq_false (by omega)
  have e2 : decide (60 < k) = false := decide_eq_false (by omega)
  obtain ⟨ls, er, ho⟩ : ∃ ls er, resI n l xs = (ls, er) := ⟨_, _, rfl⟩
  have HO := hide ho
  have h1 := resI_len n l (by rw [hx.1]; exact hf) xs ho
  clear ho hf hs
  clear hx hm
  go_enter Try.func7, Try.ntmps7
  go_wp2_with fail
  refine (awake_yes _).mono ?_
  rintro e w1 ⟨rfl, B⟩
  go_wp2_with fail
  refine (few_any A m c _ HM.out true HF.out).mono ?_
  rintro e w2 ⟨rfl, rfl⟩
  go_wp2_with fail
  refine (induced_any n A m c l S k d xs _ (HX.out.keep B) HM.out (HS.out.below B) hk ls er HO.out).mono ?_
  rintro e w3 ⟨⟨A3, c3, rfl, r3, -, -⟩, hb⟩
  have B := B.trans (hb.mono B.size)
  clear hb
  go_wp2_with fail
  refine (rinduced_any n A m c l S k d xs _ (HX.out.keep B) HM.out (HS.out.below B) hk ls er HO.out).mono ?_
  rintro e w4 ⟨⟨A4, c4, rfl, r4, -, -⟩, hb⟩
  have B := B.trans (hb.mono B.size)
  have r3 := r3.keep hb
  clear hb
  go_wp2_with fail
  refine (arcs_any A3 _ c3 _ A4 _ c4 _ _ r3 r4 (by omega) true (decide_eq_true rfl)).mono ?_
  rintro e w7 ⟨rfl, hb⟩
  have B := B.trans (hb.mono B.size)
  clear hb
  go_wp2_with fail
  go_ret
  exact ⟨rfl, B⟩
theorem ins_all (n : Int) (A : Option Addr) (m c : Nat) (l : List (Int × Int)) (S : Option Addr) (k d : Nat) (xs : List Int) (w : World) (hx : YL w A m l) (hm : m ≤ maxLen) (hs : IL w S k xs) (hk : k ≤ maxLen) :
    Calls Try.prog 7 #[.int .i64 n, .slice A m c, .slice S k d] w fun e w' => e = .returned (.bool true) ∧ Below w.heap.size w w' := by
  by_cases hf : m ≤ 150
  · by_cases h6 : k ≤ 60
    · exact ins_yes n A m c l S k d xs w hx hm hs hf h6
    · exact ins_big n A m c l S k d w hx hm hf h6 hk
  · exact ins_no n A m c l S k d w hx hm hf
end Go.Proofs.Ytgmdfaamheblmaa
