/- The body of SpecimenFinds. -/
import Derived.Test.YtaapcfflnklpjaaGreatDoorSAw
import Derived.Test.YtaapcfflnklpjaaGreatDoorSRo
import Derived.Test.YtaapcfflnklpjaaGreatDoorSRg
import Derived.Test.YtaapcfflnklpjaaGreatDoorSBD
namespace Go.Proofs.YtaapcfflnklpjaaGreatDoor
open Go Go.RowKit Go.Lib
attribute [local go_sem] run_equalIn_agg run_equalIn_int
theorem of_same {ys : List Spc} {s d : Int} {p q : List Int} (h1 : chk ys = 0 ∧ dB s d = true → ∃ zs, Srt ys zs ∧ p = ofS zs s d) (h2 : ¬(chk ys = 0 ∧ dB s d = true) → p = []) (k1 : chk ys = 0 ∧ dB s d = true → ∃ zs, Srt ys zs ∧ q = ofS zs s d) (k2 : ¬(chk ys = 0 ∧ dB s d = true) → q = []) : p = q ∧ p.length ≤ 64 := by
  by_cases h : chk ys = 0 ∧ dB s d = true
  · have hl := of_len h.1 (h1 h)
    obtain ⟨zs, hz, rfl⟩ := h1 h
    obtain ⟨us, hu, rfl⟩ := k1 h
    rw [hz.uniq hu] at hl ⊢
    exact ⟨rfl, hl⟩
  · rw [h2 h, k2 h]
    exact ⟨rfl, Nat.zero_le _⟩
theorem fr_uniq {ys : List Spc} {k : Int} {x y : Spc} {a b : Bool} (h : FR ys k x a) (h' : FR ys k y b) : x = y ∧ a = b := by
  rcases h with ⟨h1, h2, h3⟩ | ⟨h1, h2⟩ <;> rcases h' with ⟨k1, k2, k3⟩ | ⟨k1, k2⟩
  · exact ⟨h2.trans k2.symm, h3.trans k3.symm⟩
  · rw [h1] at k1; cases k1
  · rw [h1] at k1; cases k1
  · rw [h1] at k1
    injection k1 with k1
    exact ⟨k1, h2.trans k2.symm⟩
set_option maxHeartbeats 2000000 in
theorem finds_big (A : Option Addr) (n c : Nat) (k s d : Int) (w : World) (hT : Lw w) (h : decide ((100 : Int) < (n : Int)) = true) :
    Calls Tryz.prog 6 #[.slice A n c, .int .i64 k, .agg #[.int .i64 s, .int .i64 d]] w fun e w' => e = .returned (.bool true) ∧ Below w.heap.size w w' := by
  have HT := hide hT
  clear hT
  go_enter Tryz.func6, Tryz.ntmps6
  go_wp2_with fail
  generalize hW : w.alloc _ = W
  obtain ⟨B, b0⟩ := boxDie hW
  clear hW b0
  refine (awake_yes _ (HT.out.below B)).mono ?_
  rintro e w1 ⟨rfl, hb1⟩
  go_wp2_with fail
  refine (awake_yes _ (HT.out.below (nxt B hb1))).mono ?_
  rintro e w2 ⟨rfl, hb2⟩
  go_wp2_with fail
  go_ret
  exact ⟨rfl, nxt B (nxt hb1 hb2)⟩
set_option maxHeartbeats 8000000 in
theorem finds_small (A : Option Addr) (n c : Nat) (ys : List Spc) (k s d : Int) (w : World) (hT : Lw w) (hr : SL w A n ys) (h : decide ((100 : Int) < (n : Int)) = false) :
    Calls Tryz.prog 6 #[.slice A n c, .int .i64 k, .agg #[.int .i64 s, .int .i64 d]] w fun e w' => e = .returned (.bool true) ∧ Below w.heap.size w w' := by
  have HT := hide hT
  have HR := hide hr
  have hn : n ≤ 100 := by have := of_decide_eq_false h; omega
  obtain ⟨x, ok, hf⟩ := FR.ex ys k
  have HF := hide hf
  obtain ⟨r, hrr⟩ : ∃ r : Int, (if chk ys = 0 then if dB s d then 0 else 1 else chk ys) = r := ⟨_, rfl⟩
  have H := hide hrr
  clear hT hr hf hrr
  go_enter Tryz.func6, Tryz.ntmps6
  go_wp2_with fail
  generalize hW : w.alloc _ = W
  obtain ⟨B, b0⟩ := boxDie hW
  clear hW
  have HB := hide B
  have KS := hide (fun (w' : World) (h : Below W.heap.size W w') => And.intro ((b0.below' h).at_ 0) (And.intro ((b0.below' h).at_ 1) (b0.below' h).lt))
  refine (awake_yes _ (HT.out.below B)).mono ?_
  rintro e w1 ⟨rfl, hb1⟩
  have E1 := hide hb1
  clear B b0 hb1
  go_wp2_with fail
  refine (find_any A n c ys k _ (HR.out.keep (nxt HB.out E1.out)) (by unfold maxLen; omega) x ok HF.out).mono ?_
  rintro e w2 ⟨rfl, hb2⟩
  go_wp2_with fail
  generalize hW3 : w2.alloc _ = W3
  obtain ⟨B3, hz3, hk3⟩ := box7 hW3
  have KX := hide hk3
  have E3 := hide (nxt E1.out (nxt hb2 B3))
  clear hW3 B3 hz3 hk3 hb2
  refine (rfind_any A n c ys k _ (HR.out.keep (nxt HB.out E3.out)) (by omega) x ok HF.out).mono ?_
  rintro e w4 ⟨rfl, hb4⟩
  have l4 := (KS.out _ (nxt E3.out hb4)).2.2
  obtain ⟨x0, x1, -⟩ := KS.out _ (nxt E3.out hb4)
  simp at x0 x1
  go_wp2_with fail
  clear x0 x1 l4
  generalize hW5 : w4.alloc _ = W5
  obtain ⟨B5, hz5, hk5⟩ := box7 hW5
  have KY := hide hk5
  have F5 := hide (nxt hb4 B5)
  have E5 := hide (nxt E3.out F5.out)
  clear hW5 B5 hz5 hk5 hb4
  refine (of_any A n c ys s d _ (HR.out.keep (nxt HB.out E5.out))).mono ?_
  rintro e w6 ⟨A6, n6, c6, p, rfl, hs6, h1, h2, hb6⟩
  rw [H.out]
  have H1 := hide h1
  have H2 := hide h2
  have HS6 := hide hs6
  have F6 := hide hb6
  have E6 := hide (nxt E5.out hb6)
  clear h1 h2 hs6 hb6
  obtain ⟨x0, x1, -⟩ := KS.out _ E6.out
  simp at x0 x1
  go_wp2_with fail
  clear x0 x1
  refine (rof9_any A n c ys s d _ (HR.out.keep (nxt HB.out E6.out))).mono ?_
  rintro e w7 ⟨A7, n7, c7, q, rfl, hs7, h1, h2, hb7⟩
  rw [H.out]
  have HE := hide (of_same H1.out H2.out h1 h2)
  have HS7 := hide hs7
  have HK6 := hide (HS6.out.keep hb7)
  have F7 := hide (nxt F6.out hb7)
  have E7 := hide (nxt E6.out hb7)
  have HN := hide (show n6 ≤ 64 by have := HE.out.2; rw [HS6.out.1] at this; exact this)
  clear h1 h2 hs7 hb7 H1 H2
  obtain ⟨k0, k1, k2, k3, k4, k5, k6⟩ := KX.out _ (nxt F5.out F7.out)
  obtain ⟨m0, m1, m2, m3, m4, m5, m6⟩ := KY.out _ F7.out
  have e0 := fun (w : World) => eqS_run x x w true (decide_eq_true rfl)
  go_wp2_with fail
  refine (ints_any A6 n6 c6 p A7 n7 c7 q _ HK6.out HS7.out (Nat.le_trans HN.out (by decide)) true (decide_eq_true HE.out.1)).mono ?_
  rintro e w8 ⟨rfl, hb8⟩
  go_wp2_with fail
  go_ret
  exact ⟨rfl, nxt HB.out (nxt E7.out hb8)⟩
theorem finds_all (A : Option Addr) (n c : Nat) (ys : List Spc) (k s d : Int) (w : World) (hT : Lw w) (hr : SL w A n ys) :
    Calls Tryz.prog 6 #[.slice A n c, .int .i64 k, .agg #[.int .i64 s, .int .i64 d]] w fun e w' => e = .returned (.bool true) ∧ Below w.heap.size w w' := by
  by_cases h : (100 : Int) < (n : Int)
  · exact finds_big A n c k s d w hT (decide_eq_true h)
  · exact finds_small A n c ys k s d w hT hr (decide_eq_false h)
end Go.Proofs.YtaapcfflnklpjaaGreatDoor
