/- The contracts of bits.Len64 below 2^32, log10Pow2, numDigits below 10^9. -/
import Derived.Test.YthkgiobemfnpmaaDoorAppL
import Derived.Lib.Strings
import Derived.Lib.Slices
import Derived.Lib.Small
import Derived.Lib.Walk
import Derived.Lib.ItoaNum
import Derived.Deep.QuietTactic
import Derived.BigQuiet
namespace Go.Proofs.YthkgiobemfnpmaaDoor
open Go Go.RowKit

/-- the table of the powers of ten -/
def Tab (w : World) : Prop := ∀ k < 20, w.cell? ⟨0, k, none⟩ = some (.int .u64 ((10 ^ k : Nat) : Int))
theorem Tab.lt {w : World} (h : Tab w) : 0 < w.heap.size := World.block_lt_of_cell? w ⟨0, 0, none⟩ (h 0 (by decide))
theorem Tab.below {w w' : World} (h : Tab w) (hb : Below w.heap.size w w') : Tab w' := fun k hk => (hb.cell (p := ⟨0, k, none⟩) h.lt).trans (h k hk)
theorem Tab.drewN {w : World} (h : Tab w) (m : Nat) : Tab (w.drewN m) := h

set_option maxHeartbeats 4000000 in
set_option maxRecDepth 100000 in
theorem len64_a (x : Int) (w : World) (h0 : 0 ≤ x) (h1 : x < 256) (L : Nat) (hL : L ≤ 8) (e : Lib.len8 (x) = (L : Int)) :
    Calls Tryd.prog 75 #[.int .u64 x] w fun e w' => e = .returned (.int .i64 ((L : Int))) ∧ w' = w := by
  have q0 : 0 ≤ x := by omega
  have q1 : x ≤ 255 := by omega
  go_enter Tryd.func75, Tryd.ntmps75
  go_wp2
  go_ret
  exact ⟨rfl, rfl⟩
set_option maxHeartbeats 4000000 in
set_option maxRecDepth 100000 in
theorem len64_b (x : Int) (w : World) (h0 : 256 ≤ x) (h1 : x < 65536) (L : Nat) (hL : L ≤ 8) (e : Lib.len8 (x / 256) = (L : Int)) :
    Calls Tryd.prog 75 #[.int .u64 x] w fun e w' => e = .returned (.int .i64 (8 + (L : Int))) ∧ w' = w := by
  have q0 : 0 ≤ x / 256 := by omega
  have q1 : x / 256 ≤ 255 := by omega
  go_enter Tryd.func75, Tryd.ntmps75
  go_wp2
  go_ret
  exact ⟨rfl, rfl⟩
set_option maxHeartbeats 4000000 in
set_option maxRecDepth 100000 in
theorem len64_c (x : Int) (w : World) (h0 : 65536 ≤ x) (h1 : x < 16777216) (L : Nat) (hL : L ≤ 8) (e : Lib.len8 (x / 65536) = (L : Int)) :
    Calls Tryd.prog 75 #[.int .u64 x] w fun e w' => e = .returned (.int .i64 (16 + (L : Int))) ∧ w' = w := by
  have q0 : 0 ≤ x / 65536 := by omega
  have q1 : x / 65536 ≤ 255 := by omega
  go_enter Tryd.func75, Tryd.ntmps75
  go_wp2
  go_ret
  exact ⟨rfl, rfl⟩
set_option maxHeartbeats 4000000 in
set_option maxRecDepth 100000 in
theorem len64_d (x : Int) (w : World) (h0 : 16777216 ≤ x) (h1 : x < 1000000000) (L : Nat) (hL : L ≤ 8) (e : Lib.len8 (x / 65536 / 256) = (L : Int)) :
    Calls Tryd.prog 75 #[.int .u64 x] w fun e w' => e = .returned (.int .i64 (24 + (L : Int))) ∧ w' = w := by
  have q0 : 0 ≤ x / 65536 / 256 := by omega
  have q1 : x / 65536 / 256 ≤ 255 := by omega
  go_enter Tryd.func75, Tryd.ntmps75
  go_wp2
  go_ret
  exact ⟨rfl, rfl⟩
theorem l8nat (i : Int) (j : Nat) (h : i = (j : Int)) (hj : j < 256) : Lib.len8 i = ((Lib.bitLen j : Nat) : Int) := by
  subst h
  rw [Lib.len8_of _ (by omega) (by omega), Int.toNat_natCast]
theorem len64_any (x : Nat) (w : World) (h1 : x < 1000000000) (B : Nat) (hB : Lib.bitLen x = B) :
    Calls Tryd.prog 75 #[.int .u64 (x : Int)] w fun e w' => e = .returned (.int .i64 (B : Int)) ∧ w' = w := by
  by_cases a : x < 256
  · subst hB
    exact len64_a x w (by omega) (by omega) _ (Lib.bitLen_le8 ⟨x, a⟩) (l8nat _ x rfl a)
  · by_cases b : x < 65536
    · have h := len64_b x w (by omega) (by omega) _ (Lib.bitLen_le8 ⟨x / 256, by omega⟩) (l8nat _ (x / 256) (by omega) (by omega))
      rw [Lib.bitLen_shift8 x (by omega) (by omega)] at hB
      subst hB
      exact h
    · by_cases c : x < 16777216
      · have h := len64_c x w (by omega) (by omega) _ (Lib.bitLen_le8 ⟨x / 65536, by omega⟩) (l8nat _ (x / 65536) (by omega) (by omega))
        rw [Lib.bitLen_shift16 x (by omega) (by omega)] at hB
        subst hB
        exact h
      · have h := len64_d x w (by omega) (by omega) _ (Lib.bitLen_le8 ⟨x / 16777216, by omega⟩) (l8nat _ (x / 16777216) (by omega) (by omega))
        rw [Lib.bitLen_shift24 x (by omega) (by omega)] at hB
        subst hB
        exact h

theorem log10_any (x : Nat) (w : World) (hx : x ≤ 64) (v : Nat) (hv : Lib.l10 x = v) : Calls Tryd.prog 74 #[.int .i64 (x : Int)] w fun e w' => e = .returned (.int .i64 (v : Int)) ∧ w' = w := by
  have e : (x : Int) * 78913 / 262144 = (v : Int) := by rw [← hv]; unfold Lib.l10; omega
  have HV := hide hv
  clear hv
  go_enter Tryd.func74, Tryd.ntmps74
  go_wp2
  go_ret
  exact ⟨rfl, rfl⟩
theorem bool2_any (b : Bool) (w : World) : Calls Tryd.prog 76 #[.bool b] w fun e w' => e = .returned (.int .i64 (if b then 1 else 0)) ∧ w' = w := by
  cases b
  · go_enter Tryd.func76, Tryd.ntmps76
    go_wp2
    go_ret
    exact ⟨rfl, rfl⟩
  · go_enter Tryd.func76, Tryd.ntmps76
    go_wp2
    go_ret
    exact ⟨rfl, rfl⟩

theorem numDigits_any (x : Nat) (w : World) (hT : Tab w) (h1 : 1 ≤ x) (hx : x < 1000000000) (n : Nat) (hn : Lib.nDigits x = n) :
    Calls Tryd.prog 68 #[.int .u64 (x : Int)] w fun e w' => e = .returned (.int .i64 (n : Int)) ∧ w' = w := by
  obtain ⟨q1, q2⟩ := Lib.numDigits_eq x h1 (by omega)
  obtain ⟨L, hL⟩ : ∃ L, L = Lib.bitLen x := ⟨_, rfl⟩
  have hL64 : L ≤ 64 := by rw [hL]; exact Lib.bitLen_le x 64 (Nat.le_refl _) (by omega)
  rw [← hL] at q1 q2
  obtain ⟨v, hv⟩ : ∃ v, Lib.l10 L = v := ⟨_, rfl⟩
  rw [hv] at q1 q2
  rw [hn] at q1
  have hcell := hT v (by omega)
  obtain ⟨P, hP⟩ : ∃ P, P = 10 ^ v := ⟨_, rfl⟩
  rw [← hP] at hcell q1
  have hPb : P ≤ 10000000000000000000 := by rw [hP]; exact Nat.pow_le_pow_right (by decide) q2
  have HL := hide hL
  have HV := hide hv
  have HQ := hide q1
  have hvI : (v : Int) < 20 := by omega
  have hvI0 : 0 ≤ (v : Int) := by omega
  clear hT hL hv q1 hn hP
  by_cases hge : P ≤ x
  · have hn1 : Hid (v + 1 = n) := by have := HQ.out; rwa [if_pos hge] at this
    have hd : decide ((P : Int) ≤ (x : Int)) = true := by simp; omega
    go_enter Tryd.func68, Tryd.ntmps68
    go_wp2_with fail
    refine (len64_any x _ hx L HL.out.symm).mono ?_
    rintro e w' ⟨rfl, rfl⟩
    go_wp2_with fail
    refine (log10_any L _ hL64 v HV.out).mono ?_
    rintro e w' ⟨rfl, rfl⟩
    go_wp2_with fail
    refine (bool2_any true _).mono ?_
    rintro e w' ⟨rfl, rfl⟩
    go_wp2
    go_ret
    exact ⟨ret_int (by have := hn1.out; omega), rfl⟩
  · have hn1 : Hid (v = n) := by have := HQ.out; rwa [if_neg hge, Nat.add_zero] at this
    have hd : decide ((P : Int) ≤ (x : Int)) = false := by simp; omega
    go_enter Tryd.func68, Tryd.ntmps68
    go_wp2_with fail
    refine (len64_any x _ hx L HL.out.symm).mono ?_
    rintro e w' ⟨rfl, rfl⟩
    go_wp2_with fail
    refine (log10_any L _ hL64 v HV.out).mono ?_
    rintro e w' ⟨rfl, rfl⟩
    go_wp2_with fail
    refine (bool2_any false _).mono ?_
    rintro e w' ⟨rfl, rfl⟩
    go_wp2
    go_ret
    exact ⟨ret_int (by have := hn1.out; omega), rfl⟩
end Go.Proofs.YthkgiobemfnpmaaDoor
