/- Arc, Median, Densest, Fixed. -/
import Derived.Test.YtfhidmlceemhaaaAG
namespace Go.Proofs.Ytfhidmlceemhaaa
open Go Go.RowKit Go.Lib
open AM
/-- two numbers and an error: 0, 0 where there is one -/
def R3 (P : Nat → Nat → Prop) (er : Int) (w : World) (e : Ending) (w' : World) : Prop :=
  ∃ h k : Nat, e = .returned (.tuple #[.int .i64 (h : Int), .int .i64 (k : Int), .int .i64 er]) ∧ (er = 0 → P h k) ∧ (er ≠ 0 → h = 0 ∧ k = 0) ∧ Below w.heap.size w w'
theorem chkSX_cases (l : List Int) : chkSX l = 0 ∨ chkSX l = 7 ∨ chkSX l = 6 ∨ chkSX l = 1 := by
  by_cases h : l = []
  · subst h; exact .inr (.inl rfl)
  · rw [chkSX_ne h]
    rcases chkX_cases l with h | h | h
    · exact .inl h
    · exact .inr (.inr (.inl h))
    · exact .inr (.inr (.inr h))
theorem chkSX_sub {l : List Int} (h : chkSX l = 0) : l.length ≤ 64 ∧ l.all hrX = true := chkX_ok.1 (chkSX_ok.1 h).2
theorem cR10_ok {l : List Int} (h : chkX l = 0) : cR10 l = cX l := if_pos h
theorem cR10_cX (l : List Int) : ∃ m, cR10 l = cX m := by unfold cR10; split <;> exact ⟨_, rfl⟩
set_option maxHeartbeats 4000000 in
theorem arc_any (A : Option Addr) (n c : Nat) (l : List Int) (w : World) (hr : IS w A n l) :
    Calls Try.prog 22 #[.slice A n c] w (R3 (ArcP l) (chkSX l) w) := by
  have HR := hide hr
  clear hr
  obtain ⟨r, hrr⟩ : ∃ r, chkSX l = r := ⟨_, rfl⟩
  have hc := chkSX_cases l
  rw [hrr] at hc ⊢
  have H := hide hrr
  clear hrr
  obtain ⟨M, hM⟩ := cR10_cX l
  have HM := hide hM
  clear hM
  by_cases h0 : r = 0
  · subst h0
    have HL := hide (chkSX_sub H.out)
    have HC := hide (cR10_ok (chkSX_ok.1 H.out).2)
    clear hc
    go_enter Try.func22, Try.ntmps22
    go_wp2_with fail
    refine (some_any A n c l _ HR.out).mono ?_
    rintro e w1 ⟨rfl, hb⟩
    rw [H.out, HC.out]
    have F := boxC1 (rfl : w1.alloc (.cells _ 41) = _) [] zeros12
    have Fs := F.2.1.setRow l
    have Fb := below_rowC F.1 (Nat.le_refl _) (cX l)
    go_wp2_with (first | (refine wpList_store_row rfl 41 _ _ rfl w1.heap.size _ rfl rfl 41 _ F.2.1.row (cX_info _) (by rw [cX_size, cX_size]) (cX_one _) ?_) | (refine wpList_load_row rfl 41 _ rfl w1.heap.size rfl 41 _ (0, 0) _ Fs.row Try.underlying41 rfl (cX_info _) ?_))
    refine (marc_any l HL.out.1 HL.out.2 _).mono ?_
    rintro e w2 ⟨h, m, rfl, hp, hb2⟩
    go_wp2_with fail
    go_ret3
    exact ⟨h, m, rfl, fun _ => hp, fun h => absurd rfl h, nxt hb (nxt Fb hb2)⟩
  · have HH := hide h0
    rcases hc with rfl | rfl | rfl | rfl
    · exact absurd rfl h0
    all_goals
      clear h0
      go_enter Try.func22, Try.ntmps22
      go_wp2_with fail
      refine (some_any A n c l _ HR.out).mono ?_
      rintro e w1 ⟨rfl, hb⟩
      rw [H.out, HM.out]
      have F := boxC1 (rfl : w1.alloc (.cells _ 41) = _) [] zeros12
      have Fb := below_rowC F.1 (Nat.le_refl _) (cX M)
      go_wp2_with (first | (refine wpList_store_row rfl 41 _ _ rfl w1.heap.size _ rfl rfl 41 _ F.2.1.row (cX_info _) (by rw [cX_size, cX_size]) (cX_one _) ?_))
      go_ret3
      exact ⟨0, 0, rfl, fun h => absurd h (by decide), fun _ => ⟨rfl, rfl⟩, nxt hb Fb⟩
set_option maxHeartbeats 4000000 in
theorem median_any (A : Option Addr) (n c : Nat) (l : List Int) (w : World) (hr : IS w A n l) :
    Calls Try.prog 24 #[.slice A n c] w (R3 (MedP l) (chkSX l) w) := by
  have HR := hide hr
  clear hr
  obtain ⟨r, hrr⟩ : ∃ r, chkSX l = r := ⟨_, rfl⟩
  have hc := chkSX_cases l
  rw [hrr] at hc ⊢
  have H := hide hrr
  clear hrr
  obtain ⟨M, hM⟩ := cR10_cX l
  have HM := hide hM
  clear hM
  by_cases h0 : r = 0
  · subst h0
    have HL := hide (chkSX_sub H.out)
    have HC := hide (cR10_ok (chkSX_ok.1 H.out).2)
    clear hc
    go_enter Try.func24, Try.ntmps24
    go_wp2_with fail
    refine (some_any A n c l _ HR.out).mono ?_
    rintro e w1 ⟨rfl, hb⟩
    rw [H.out, HC.out]
    have F := boxC1 (rfl : w1.alloc (.cells _ 41) = _) [] zeros12
    have Fs := F.2.1.setRow l
    have Fb := below_rowC F.1 (Nat.le_refl _) (cX l)
    go_wp2_with (first | (refine wpList_store_row rfl 41 _ _ rfl w1.heap.size _ rfl rfl 41 _ F.2.1.row (cX_info _) (by rw [cX_size, cX_size]) (cX_one _) ?_) | (refine wpList_load_row rfl 41 _ rfl w1.heap.size rfl 41 _ (0, 0) _ Fs.row Try.underlying41 rfl (cX_info _) ?_))
    refine (mmed_any l HL.out.1 HL.out.2 _).mono ?_
    rintro e w2 ⟨h, m, rfl, hp, hb2⟩
    go_wp2_with fail
    go_ret3
    exact ⟨h, m, rfl, fun _ => hp, fun h => absurd rfl h, nxt hb (nxt Fb hb2)⟩
  · have HH := hide h0
    rcases hc with rfl | rfl | rfl | rfl
    · exact absurd rfl h0
    all_goals
      clear h0
      go_enter Try.func24, Try.ntmps24
      go_wp2_with fail
      refine (some_any A n c l _ HR.out).mono ?_
      rintro e w1 ⟨rfl, hb⟩
      rw [H.out, HM.out]
      have F := boxC1 (rfl : w1.alloc (.cells _ 41) = _) [] zeros12
      have Fb := below_rowC F.1 (Nat.le_refl _) (cX M)
      go_wp2_with (first | (refine wpList_store_row rfl 41 _ _ rfl w1.heap.size _ rfl rfl 41 _ F.2.1.row (cX_info _) (by rw [cX_size, cX_size]) (cX_one _) ?_))
      go_ret3
      exact ⟨0, 0, rfl, fun h => absurd h (by decide), fun _ => ⟨rfl, rfl⟩, nxt hb Fb⟩
end Go.Proofs.Ytfhidmlceemhaaa
