/- The contracts at canonical arguments. -/
import Derived.Test.YthkgiobemfnpmaaDoorText
import Derived.Test.YthkgiobemfnpmaaDoorSmall
import Derived.Test.YthkgiobemfnpmaaDoorPow
import Derived.Test.YthkgiobemfnpmaaDoorGcd
namespace Go.Proofs.YthkgiobemfnpmaaDoor
open Go Go.RowKit

theorem dig_u32 (v : Nat) : ∀ x ∈ dig B9 v, x < 4294967296 := fun x hx => by
  have : x < 1000000000 := dig_lt B9 (by decide) v x hx
  omega
theorem len_le {v n k : Nat} (h : (dig B9 v).length = n) (hv : v < B9 ^ k) : n ≤ k := by rw [← h]; exact (dig_length_le B9 (by decide) k v).2 hv

section
variable (A : Option Addr) (n c u : Nat) (A' : Option Addr) (m d v : Nat) (w : World) (hr : RL w .u32 A n (dig B9 u)) (hn : n ≤ c) (hc : c ≤ maxLen) (hN : n ≤ 900000) (hr' : RL w .u32 A' m (dig B9 v)) (hm : m ≤ d) (hd : d ≤ maxLen) (hM : m ≤ 900000)
include hr hn hc hN
theorem text_d (hT : Tab w) (s : ByteArray) (hs : strN (asc u) = s) : Calls Tryd.prog 36 #[.agg #[.slice A n c]] w fun e w' => e = .returned (.string s) ∧ Below w.heap.size w w' := by
  subst hs
  exact text_any A n c _ w hr hn hc hN (dig_u32 u) hT u (val_dig B9 (by decide) u)
theorem digits_d (r : Nat) (h : nd u = r) : Calls Tryd.prog 24 #[.agg #[.slice A n c]] w fun e w' => e = .returned (.int .i64 (r : Int)) ∧ Below w.heap.size w w' := by
  have := digits_any A n c _ w hr hn hc hN (dig_u32 u)
  rw [val_dig B9 (by decide), h] at this
  exact this
theorem small_d : Calls Tryd.prog 30 #[.agg #[.slice A n c]] w fun e w' => e = .returned (.tuple #[.int .u64 ((smallV u : Nat) : Int), .bool (smallB u)]) ∧ Below w.heap.size w w' := by
  have := small_any A n c _ w hr hn hc hN (dig_u32 u)
  rw [val_dig B9 (by decide)] at this
  exact this
theorem small_ok (h : u < 18446744073709551616) : Calls Tryd.prog 30 #[.agg #[.slice A n c]] w fun e w' => e = .returned (.tuple #[.int .u64 (u : Int), .bool true]) ∧ Below w.heap.size w w' := by
  have := small_d A n c u w hr hn hc hN
  rw [smallV, if_pos h, smallB, decide_eq_true h] at this
  exact this
include hr' hm hd hM
theorem cmp_d (r : Int) (h : cmpI u v = r) : Calls Tryd.prog 20 #[.agg #[.slice A n c], .agg #[.slice A' m d]] w fun e w' => e = .returned (.int .i64 r) ∧ Below w.heap.size w w' := by
  have := cmp_any A n c _ A' m d _ w hr hn hc hN (dig_u32 u) hr' hm hd hM (dig_u32 v)
  rw [val_dig B9 (by decide), val_dig B9 (by decide), h] at this
  exact this
theorem add_d (T : Nat) (h : u + v = T) : Calls Tryd.prog 16 #[.agg #[.slice A n c], .agg #[.slice A' m d]] w (GivesN T w) :=
  add_any A n c _ A' m d _ w hr hn hc hN (dig_u32 u) hr' hm hd hM (dig_u32 v) T (by rw [val_dig B9 (by decide), val_dig B9 (by decide), h])
theorem mul_d (T : Nat) (h : u * v = T) : Calls Tryd.prog 18 #[.agg #[.slice A n c], .agg #[.slice A' m d]] w (GivesN T w) :=
  mul_any A n c _ A' m d _ w hr hn hc hN (dig_u32 u) hr' hm hd hM (dig_u32 v) T (by rw [val_dig B9 (by decide), val_dig B9 (by decide), h])
theorem gcd_d (T : Nat) (h : Nat.gcd u v = T) : Calls Tryd.prog 32 #[.agg #[.slice A n c], .agg #[.slice A' m d]] w (GivesN T w) :=
  gcd_any A n c _ A' m d _ w hr hn hc hN (dig_u32 u) hr' hm hd hM (dig_u32 v) T (by rw [val_dig B9 (by decide), val_dig B9 (by decide), h])
theorem sub_d (T : Nat) (r : Int) (hT : subU u v = T) (h : subE u v = r) : Calls Tryd.prog 26 #[.agg #[.slice A n c], .agg #[.slice A' m d]] w (GivesNE T r w) := by
  have := sub_any A n c _ A' m d _ w hr hn hc hN (dig_u32 u) hr' hm hd hM (dig_u32 v)
  rw [val_dig B9 (by decide), val_dig B9 (by decide), hT, h] at this
  exact this
theorem divMod_d (q r : Nat) (hv : v ≠ 0) (hq : u / v = q) (hrr : u % v = r) : Calls Tryd.prog 28 #[.agg #[.slice A n c], .agg #[.slice A' m d]] w (GivesDM q r 0 w) := by
  have := divMod_any A n c _ A' m d _ w hr hn hc hN (dig_u32 u) hr' hm hd hM (dig_u32 v)
  rw [val_dig B9 (by decide), val_dig B9 (by decide), hq, hrr] at this
  exact this.mono fun e w' h => h.1 hv
end
theorem divMod_zero (A : Option Addr) (n c u : Nat) (A' : Option Addr) (m d : Nat) (ys : List Nat) (w : World) (hr : RL w .u32 A n (dig B9 u)) (hn : n ≤ c) (hc : c ≤ maxLen) (hN : n ≤ 900000) (hr' : RL w .u32 A' m ys) (hm : m ≤ d) (hd : d ≤ maxLen) (hM : m ≤ 900000)
    (hy : ∀ x ∈ ys, x < 4294967296) (h0 : val B9 ys = 0) : Calls Tryd.prog 28 #[.agg #[.slice A n c], .agg #[.slice A' m d]] w (GivesDM 0 0 12 w) :=
  (divMod_any A n c _ A' m d _ w hr hn hc hN (dig_u32 u) hr' hm hd hM hy).mono fun _ _ h => h.2 h0

theorem str3 : strN (asc 3) = ⟨#[51]⟩ := by rw [asc_small (by decide)]; rfl
theorem str2 : strN (asc 2) = ⟨#[50]⟩ := by rw [asc_small (by decide)]; rfl
theorem str6 : strN (asc 6) = ⟨#[54]⟩ := by rw [asc_small (by decide)]; rfl
theorem str1024 : strN (asc 1024) = ⟨#[49, 48, 50, 52]⟩ := by rw [asc_eq (n := 3) (by decide) (by decide)]; decide +kernel
theorem strBig : strN (asc 1000000007) = ⟨#[49, 48, 48, 48, 48, 48, 48, 48, 48, 55]⟩ := by rw [asc_eq (n := 9) (by decide) (by decide)]; decide +kernel
theorem nd1000 : nd 1000 = 4 := by decide +kernel
theorem dig4e9 : dig B9 4000000000 = [0, 4] := by
  rw [dig_pos B9 (by decide) _ (by decide)]
  show 0 :: dig B9 4 = _
  rw [dig_small B9 (by decide) 4 (by decide) (by decide)]
end Go.Proofs.YthkgiobemfnpmaaDoor
