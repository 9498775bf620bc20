/- Sets of vertices: has, with. -/
import Derived.Test.YtgmdfaamheblmaaAA
import Derived.Test.YtgmdfaamheblmaaChecked
import Derived.Deep.QuietTactic
import Derived.BigQuiet
import Derived.Outline
import Derived.WalkKit
namespace Go.Proofs.Ytgmdfaamheblmaa
open Go Go.RowKit PM

theorem ofInt32 (x : Nat) (h : x < 4294967296) : (BitVec.ofInt 32 (x : Int)).toNat = x := by
  simp only [BitVec.toNat_ofInt]
  omega
theorem wrap32u (x : Nat) (h : x < 4294967296) : IntKind.u32.wrap (x : Int) = (x : Int) := by
  simp [IntKind.wrap, IntKind.bits, IntKind.signed]
  omega
theorem and32 (x y : Nat) (hx : x < 4294967296) (hy : y < 4294967296) : bits .and .u32 (x : Int) (y : Int) = ((x &&& y : Nat) : Int) := by
  show IntKind.u32.wrap ((BitVec.ofInt 32 (x : Int) &&& BitVec.ofInt 32 (y : Int)).toNat : Int) = _
  rw [BitVec.toNat_and, ofInt32 x hx, ofInt32 y hy]
  exact wrap32u _ (Nat.lt_of_le_of_lt Nat.and_le_left hx)
theorem or32 (x y : Nat) (hx : x < 4294967296) (hy : y < 4294967296) : bits .or .u32 (x : Int) (y : Int) = ((x ||| y : Nat) : Int) := by
  show IntKind.u32.wrap ((BitVec.ofInt 32 (x : Int) ||| BitVec.ofInt 32 (y : Int)).toNat : Int) = _
  rw [BitVec.toNat_or, ofInt32 x hx, ofInt32 y hy]
  exact wrap32u _ (Nat.or_lt_two_pow (n := 32) hx hy)
theorem andNot32 (x y : Nat) (hx : x < 4294967296) : bits .andNot .u32 (x : Int) (y : Int) = ((x &&& (~~~ BitVec.ofInt 32 (y : Int)).toNat : Nat) : Int) := by
  show IntKind.u32.wrap ((BitVec.ofInt 32 (x : Int) &&& ~~~ BitVec.ofInt 32 (y : Int)).toNat : Int) = _
  rw [BitVec.toNat_and, ofInt32 x hx]
  exact wrap32u _ (Nat.lt_of_le_of_lt Nat.and_le_left hx)
theorem msk_lt32 (f : Nat → Bool) : msk f < 4294967296 := Nat.lt_of_lt_of_le (msk_lt f) (by decide)
theorem b_or (f g : Nat → Bool) : bits .or .u32 (msk f : Int) (msk g : Int) = ((msk fun j => f j || g j : Nat) : Int) := by
  rw [or32 _ _ (msk_lt32 f) (msk_lt32 g), msk_or]
theorem pow24 {i : Nat} (hi : i < 24) : 2 ^ i < 4294967296 := Nat.lt_of_lt_of_le (Nat.pow_lt_pow_right (by decide) hi) (by decide)
theorem b_with (f : Nat → Bool) (i : Nat) (hi : i < 24) : bits .or .u32 (msk f : Int) (2 ^ i % 4294967296) = ((msk fun j => f j || (j == i) : Nat) : Int) := by
  have h := pow24 hi
  have e : ((2 : Int) ^ i % 4294967296) = ((2 ^ i : Nat) : Int) := by
    have : ((2 ^ i : Nat) : Int) = (2 : Int) ^ i := by simp
    rw [← this]
    exact Int.emod_eq_of_lt (Int.natCast_nonneg _) (Int.ofNat_lt.2 h)
  rw [e, or32 _ _ (msk_lt32 f) h, msk_with f i hi]
theorem b_has (f : Nat → Bool) (i : Nat) (hi : i < 24) : (bits .and .u32 ((msk f : Int) / 2 ^ i) 1 == 1) = f i := by
  have e : ((msk f : Int) / 2 ^ i) = ((msk f >>> i : Nat) : Int) := by
    rw [Nat.shiftRight_eq_div_pow]
    simp
  have hl : msk f >>> i < 4294967296 := Nat.lt_of_le_of_lt (by rw [Nat.shiftRight_eq_div_pow]; exact Nat.div_le_self _ _) (msk_lt32 f)
  have e1 : bits .and .u32 ((msk f >>> i : Nat) : Int) 1 = ((msk f >>> i &&& 1 : Nat) : Int) := and32 _ 1 hl (by decide)
  rw [e, e1, Nat.and_one_is_mod, msk_has f i hi]
  cases f i <;> rfl
theorem b_not (f g : Nat → Bool) : bits .andNot .u32 (msk f : Int) (msk g : Int) = ((msk fun j => f j && !g j : Nat) : Int) := by
  rw [andNot32 _ _ (msk_lt32 f)]
  congr 1
  refine msk_not fun j hj => ?_
  rw [BitVec.testBit_toNat, BitVec.getLsbD_not, show (BitVec.ofInt 32 ((msk g : Nat) : Int)).getLsbD j = (msk g).testBit j from by rw [← BitVec.testBit_toNat, ofInt32 _ (msk_lt32 g)], msk_bit]
  have : j < 32 := by omega
  simp [hj, this]
theorem ret_bool {a b : Bool} (h : a = b) : Ending.returned (.bool a) = .returned (.bool b) := by rw [h]
set_option maxHeartbeats 1000000 in
theorem has_any (f : Nat → Bool) (i : Nat) (hi : i < 24) (w : World) (r : Bool) (hr : f i = r) :
    Calls Try.prog 40 #[.int .u32 (msk f : Int), .int .i64 (i : Int)] w fun e w' => e = .returned (.bool r) ∧ w = w' := by
  have hb := hide (b_has f i hi)
  have hm := msk_lt f
  obtain ⟨m, hmm⟩ : ∃ m, msk f = m := ⟨_, rfl⟩
  rw [hmm] at hm hb ⊢
  clear hmm
  subst hr
  go_enter Try.func40, Try.ntmps40
  go_wp2
  go_ret
  exact ⟨ret_bool hb.out, rfl⟩
set_option maxHeartbeats 1000000 in
theorem with_any (f : Nat → Bool) (i : Nat) (hi : i < 24) (w : World) (r : Nat) (hr : (msk fun j => f j || (j == i)) = r) :
    Calls Try.prog 55 #[.int .u32 (msk f : Int), .int .i64 (i : Int)] w fun e w' => e = .returned (.int .u32 (r : Int)) ∧ w = w' := by
  have hb := hide (b_with f i hi)
  have hm := msk_lt f
  obtain ⟨m, hmm⟩ : ∃ m, msk f = m := ⟨_, rfl⟩
  rw [hr] at hb
  rw [hmm] at hm hb ⊢
  clear hmm hr
  go_enter Try.func55, Try.ntmps55
  go_wp2
  go_ret
  exact ⟨ret_int hb.out, rfl⟩
set_option maxHeartbeats 1000000 in
theorem isv_any (n i : Int) (w : World) (v : Bool) (hv : decide (0 ≤ i ∧ i < n) = v) :
    Calls Try.prog 34 #[.int .i64 n, .int .i64 i] w fun e w' => e = .returned (.bool v) ∧ w = w' := by
  by_cases h1 : 0 ≤ i
  · have d1 : decide (0 ≤ i) = true := decide_eq_true h1
    by_cases h2 : i < n
    · have d2 : decide (i < n) = true := decide_eq_true h2
      obtain rfl : v = true := by rw [← hv]; exact decide_eq_true ⟨h1, h2⟩
      clear hv
      go_enter Try.func34, Try.ntmps34
      go_wp2
      go_ret
      exact ⟨rfl, rfl⟩
    · have d2 : decide (i < n) = false := decide_eq_false h2
      obtain rfl : v = false := by rw [← hv]; exact decide_eq_false fun h => h2 h.2
      clear hv
      go_enter Try.func34, Try.ntmps34
      go_wp2
      go_ret
      exact ⟨rfl, rfl⟩
  · have d1 : decide (0 ≤ i) = false := decide_eq_false h1
    obtain rfl : v = false := by rw [← hv]; exact decide_eq_false fun h => h1 h.1
    clear hv
    go_enter Try.func34, Try.ntmps34
    go_wp2
    go_ret
    exact ⟨rfl, rfl⟩
end Go.Proofs.Ytgmdfaamheblmaa
