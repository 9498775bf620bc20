/- The contract of few: fractions of few limbs. -/
import Derived.Test.YtoeknkakdoemfaaGreatDoorBaseM
namespace Go.Proofs.YtoeknkakdoemfaaGreatDoor
open Go Go.RowKit

/-- the slices of a slice of fractions, by their lengths -/
def FewL (w : World) (S : Option Addr) (k : Nat) (N M : Nat → Nat) : Prop :=
  0 < k → ∃ b o, S = some ⟨b, o, none⟩ ∧ ∀ i < k, ∃ A c B d, w.cell? ⟨b, o + i * 3 + 1, none⟩ = some (.slice A (N i) c) ∧ w.cell? ⟨b, o + i * 3 + 2, none⟩ = some (.slice B (M i) d)
def isFew (k : Nat) (N M : Nat → Nat) : Prop := (∀ i < k, N i ≤ 6 ∧ M i ≤ 6) ∧ k ≤ 20
theorem few_any (S : Option Addr) (k cS : Nat) (N M : Nat → Nat) (w : World) (hk : k ≤ maxLen) (h : FewL w S k N M) (r : Bool) (hr : isFew k N M ↔ r = true) :
    Calls Tryz.prog 9 #[.slice S k cS] w fun e w' => e = .returned (.bool r) ∧ w' = w := by
  have HR := hide hr
  have HF := hide h
  clear hr h
  unfold maxLen at hk
  go_enter Tryz.func9, Tryz.ntmps9
  go_wp2
  go_loopg [3] k (fun gk t wq => gk ≤ k ∧ t = .int .i64 ((k - gk : Nat) : Int) ∧ wq = w ∧ Hid (∀ i < k - gk, N i ≤ 6 ∧ M i ≤ 6))
  case atStart => exact ⟨Nat.le_refl _, by simp, rfl, hide (fun i hi => by omega)⟩
  case round =>
    obtain ⟨hg, rfl, rfl, hall⟩ := hrel
    obtain ⟨i, hi⟩ : ∃ i, k - gk = i := ⟨_, rfl⟩
    rw [hi] at hall
    rw [hi]
    by_cases hlt : i < k
    · obtain ⟨b, o, rfl, hc⟩ := HF.out (by omega)
      obtain ⟨A, c, B, d, h1, h2⟩ := hc i hlt
      clear hc
      by_cases hN : N i ≤ 6
      · have d1 : decide (6 < ((N i : Nat) : Int)) = false := by simp; omega
        by_cases hM : M i ≤ 6
        · have d2 : decide (6 < ((M i : Nat) : Int)) = false := by simp; omega
          have H2 := hide (show ∀ j < i + 1, N j ≤ 6 ∧ M j ≤ 6 from fun j hj => by
            rcases Nat.lt_or_ge j i with h | h
            · exact hall.out j h
            · obtain rfl : j = i := by omega
              exact ⟨hN, hM⟩)
          go_wp2
          go_roundg (gk - 1)
          case measure => omega
          case rel => exact ⟨by omega, by rw [show k - (gk - 1) = i + 1 by omega]; go_num, rfl, by rw [show k - (gk - 1) = i + 1 by omega]; exact H2⟩
        · have d2 : decide (6 < ((M i : Nat) : Int)) = true := by simp; omega
          obtain rfl : r = false := by
            rw [← Bool.not_eq_true, ← HR.out]
            exact fun h => hM (h.1 i hlt).2
          go_wp2
          go_ret
          exact ⟨rfl, rfl⟩
      · have d1 : decide (6 < ((N i : Nat) : Int)) = true := by simp; omega
        obtain rfl : r = false := by
          rw [← Bool.not_eq_true, ← HR.out]
          exact fun h => hN (h.1 i hlt).1
        go_wp2
        go_ret
        exact ⟨rfl, rfl⟩
    · obtain rfl : i = k := by omega
      have d1 : decide ((i : Int) ≤ 20) = r := by
        have h1 := HR.out
        have h2 := hall.out
        rw [Bool.eq_iff_iff, ← h1, decide_eq_true_iff]
        exact ⟨fun h => ⟨h2, by omega⟩, fun h => by have := h.2; omega⟩
      go_wp2
      go_ret
      exact ⟨rfl, rfl⟩
end Go.Proofs.YtoeknkakdoemfaaGreatDoor
