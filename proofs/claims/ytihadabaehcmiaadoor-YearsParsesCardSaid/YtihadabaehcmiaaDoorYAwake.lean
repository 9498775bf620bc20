/- The fixed examples of the years' laws: awake returns true. -/
import Derived.Test.YtihadabaehcmiaaDoorYLists
import Derived.Test.YtihadabaehcmiaaDoorYPars2
import Derived.Test.YtihadabaehcmiaaDoorYMeet
import Derived.Test.YtihadabaehcmiaaDoorYGrow
import Derived.Test.YtihadabaehcmiaaDoorYRel
namespace Go.Proofs.YtihadabaehcmiaaDoor
open Go Go.RowKit Go.Lib

/-- what Cover leaves -/
def CovPost (w : World) (ys : List (Int × Int)) (e : Ending) (w' : World) : Prop :=
  ∃ (A : Option Addr) (n c : Nat) (cov : List (Int × Int)) (er : Int), e = .returned (.tuple #[.slice A n c, .int .i64 er]) ∧ YL w' A n cov ∧ n ≤ maxLen ∧ Below w.heap.size w w' ∧
    ((64 < ys.length ∧ er = 6 ∧ cov = []) ∨ (ys.length ≤ 64 ∧ badY ys = true ∧ er = 1 ∧ cov = []) ∨ (ys.length ≤ 64 ∧ badY ys = false ∧ er = 0 ∧ CovI ys cov ∧ cov.length ≤ ys.length))
theorem yl_nil (w : World) (A : Option Addr) : YL w A 0 [] := ⟨rfl, fun h => by omega⟩
theorem cover_any (A : Option Addr) (n c : Nat) (ys : List (Int × Int)) (w : World) (hr : YL w A n ys) (hn : n ≤ maxLen) :
    Calls Tryd.prog 29 #[.slice A n c] w (CovPost w ys) := by
  have hl := hr.1
  by_cases h64 : 64 < n
  · refine (cover_full A n c w h64 hn).mono ?_
    rintro e w' ⟨rfl, rfl⟩
    exact ⟨_, _, _, [], 6, rfl, yl_nil _ _, by simp [maxLen], Below.refl _ _, Or.inl ⟨by omega, rfl, rfl⟩⟩
  · rcases Bool.eq_false_or_eq_true (badY ys) with hb | hb
    · refine (cover_bad A n c ys w hr (by omega) hb).mono ?_
      rintro e w' ⟨rfl, hB⟩
      exact ⟨_, _, _, [], 1, rfl, yl_nil _ _, by simp [maxLen], hB, Or.inr (Or.inl ⟨by omega, hb, rfl, rfl⟩)⟩
    · rcases Nat.eq_zero_or_pos n with h0 | h0
      · subst h0
        obtain rfl := List.length_eq_zero_iff.1 hl
        refine (cover_zero A c w).mono ?_
        rintro e w' ⟨v', rfl, ho, hB⟩
        obtain ⟨X, d, rfl, h1, h2, hy⟩ := own_yl ho
        exact ⟨_, _, _, [], 0, rfl, hy, by simp [maxLen], hB, Or.inr (Or.inr ⟨by simp, hb, rfl, cov_nil, by simp⟩)⟩
      · refine (cover_yes A n c ys w hr h0 (by omega) hb).mono ?_
        rintro e w' ⟨v', cov, rfl, ho, hcl, hcv, hB⟩
        obtain ⟨X, d, rfl, h1, h2, hy⟩ := own_yl ho
        exact ⟨_, _, _, cov, 0, rfl, hy, Nat.le_trans h1 h2, hB, Or.inr (Or.inr ⟨by omega, hb, rfl, hcv, by omega⟩)⟩

theorem boxA {w W : World} {vs : Array Value} {t : TypeId} (hW : w.alloc (.cells vs t) = W) : Below w.heap.size w W ∧ Box W w.heap.size vs t := by
  subst hW
  exact ⟨(Below.refl _ _).alloc (Nat.le_refl _) _, Box.new _ _ _⟩
theorem dec2 (a : Nat) (h1 : 10 ≤ a) (h2 : a < 100) : Lib.decDigits a = [UInt8.ofNat (48 + a / 10), UInt8.ofNat (48 + a % 10)] := by
  rw [Lib.decDigits, dif_neg (by omega), Lib.decDigits, dif_pos (by omega)]
  rfl
theorem dec3 (a : Nat) (h1 : 100 ≤ a) (h2 : a < 1000) : Lib.decDigits a = [UInt8.ofNat (48 + a / 10 / 10), UInt8.ofNat (48 + a / 10 % 10), UInt8.ofNat (48 + a % 10)] := by
  rw [Lib.decDigits, dif_neg (by omega), dec2 _ (by omega) (by omega)]
  rfl
theorem num14 : numL 14 = [49, 52] := by unfold numL; rw [if_pos (by decide), dec2 _ (by decide) (by decide)]; rfl
theorem num37 : numL 37 = [51, 55] := by unfold numL; rw [if_pos (by decide), dec2 _ (by decide) (by decide)]; rfl
theorem num27 : numL (-26) = [50, 55] := by unfold numL; rw [if_neg (by decide), dec2 _ (by decide) (by decide)]; rfl
theorem num450 : numL (-449) = [52, 53, 48] := by unfold numL; rw [if_neg (by decide), dec3 _ (by decide) (by decide)]; rfl
theorem num425 : numL (-424) = [52, 50, 53] := by unfold numL; rw [if_neg (by decide), dec3 _ (by decide) (by decide)]; rfl
theorem txt1 : txt 14 37 = ⟨#[49, 52, 45, 51, 55, 32, 65, 68]⟩ := by
  unfold txt
  rw [if_pos (by decide)]
  unfold textL nameL eraL
  rw [if_neg (by decide), if_pos (by decide), num14, num37]
  rfl
theorem txt2 : txt 37 14 = ⟨#[]⟩ := by unfold txt; rw [if_neg (by decide)]
theorem txt3 : txt (-26) 14 = ⟨#[50, 55, 32, 66, 67, 45, 49, 52, 32, 65, 68]⟩ := by
  unfold txt
  rw [if_pos (by decide)]
  unfold textL nameL eraL
  rw [if_neg (by decide), if_neg (by decide), num27, num14]
  rfl
theorem txt4 : txt (-449) (-424) = ⟨#[52, 53, 48, 45, 52, 50, 53, 32, 66, 67]⟩ := by
  unfold txt
  rw [if_pos (by decide)]
  unfold textL nameL eraL
  rw [if_neg (by decide), if_pos (by decide), num450, num425]
  rfl
theorem prs1 : prs [49, 52, 45, 51, 55, 32, 65, 68] = (14, 37, 0) := by
  unfold prs parseL
  rw [show yearL (too [49, 52, 45, 51, 55, 32, 65, 68]) = some 37 from by decide]
  simp only []
  rw [show fstL [49, 52, 45, 51, 55, 32, 65, 68] 37 = some 14 from by decide]
  simp only []
  rw [if_pos txt1]
theorem prs2 : prs [51, 55, 45, 49, 52, 32, 65, 68] = (0, 0, 3) := by
  unfold prs parseL
  rw [show yearL (too [51, 55, 45, 49, 52, 32, 65, 68]) = some 14 from by decide]
  simp only []
  rw [show fstL [51, 55, 45, 49, 52, 32, 65, 68] 14 = some 37 from by decide]
  simp only []
  rw [if_neg (by rw [txt2]; intro h; injection h with h; cases h)]
theorem cov1 {cov : List (Int × Int)} (h : CovI [(4, 6), (1, 3), (9, 9)] cov) : cov = [(1, 6), (9, 9)] := by
  refine sep_uniq _ _ h.sep (by simp [SepL]) fun m => (h.on m).trans ?_
  simp only [On, InY, List.mem_cons, List.not_mem_nil, or_false, exists_eq_or_imp, exists_eq_left]
  omega
def Awake : Prop := ∀ w, Lw w → Calls Tryd.prog 12 #[] w fun e w' => e = .returned (.bool true) ∧ Below w.heap.size w w'
end Go.Proofs.YtihadabaehcmiaaDoor
