/- Words for bytes in memory; the checksum of the program and of the reference. -/
import Derived.Test.YtjmpnpflmdpdkaaBox
import Derived.Test.YtjmpnpflmdpdkaaFrM
import Derived.Test.YtjmpnpflmdpdkaaChecked
import Derived.Deep.QuietTactic
import Derived.Deep.RegionHeld3
import Derived.Deep.LoopGhost
import Derived.BigQuiet
import Derived.Outline
import Derived.WalkKit
import Derived.IntWalk
import Derived.Laws.BytesString
namespace Go.Proofs.Ytjmpnpflmdpdkaa
open Go Go.RowKit FM

/-- a slice of bytes that reads as xs -/
def BR (w : World) (A : Option Addr) (n : Nat) (xs : List Nat) : Prop := RL w .u8 A n xs ∧ By xs
section
variable {w w' : World} {A : Option Addr} {n : Nat} {xs : List Nat}
theorem BR.len (h : BR w A n xs) : xs.length = n := h.1.1
theorem BR.nil_ : BR w A 0 [] := ⟨RL.nil_, By.nil⟩
theorem BR.below (h : BR w A n xs) (hb : Below w.heap.size w w') : BR w' A n xs := ⟨h.1.below hb, h.2⟩
theorem BR.at_ {j : Nat} (h : BR w A n xs) (hj : j < n) : ∃ b o x, A = some ⟨b, o, none⟩ ∧ xs[j]? = some x ∧ x < 256 ∧ w.cell? ⟨b, o + j, none⟩ = some (.int .u8 (x : Int)) := by
  obtain ⟨b, o, x, e, hx, hc⟩ := h.1.at_ hj
  exact ⟨b, o, x, e, hx, h.2.get hx, hc⟩
theorem BR.take_ (h : BR w A n xs) {m : Nat} (hm : m ≤ n) : BR w A m (xs.take m) := ⟨h.1.take_ hm, h.2.take m⟩
theorem BR.drop_ {b o : Nat} (h : BR w (some ⟨b, o, none⟩) n xs) {m : Nat} (hm : m ≤ n) : BR w (some ⟨b, o + m, none⟩) (n - m) (xs.drop m) := ⟨h.1.drop_ hm, h.2.drop m⟩
end
theorem ret_bool {a b : Bool} (h : a = b) : Ending.returned (.bool a) = .returned (.bool b) := by rw [h]
theorem BR.drewN {w : World} {A : Option Addr} {n : Nat} {xs : List Nat} (h : BR w A n xs) (q : Nat) : BR (w.drewN q) A n xs := h
theorem below_self (w : World) : Below w.heap.size w w := Below.refl _ _
theorem ofInt64 (x : Nat) (h : x < 18446744073709551616) : (BitVec.ofInt 64 (x : Int)).toNat = x := by
  simp only [BitVec.toNat_ofInt]
  omega
theorem wrap64u (x : Nat) (h : x < 18446744073709551616) : IntKind.u64.wrap (x : Int) = (x : Int) := by
  simp [IntKind.wrap, IntKind.bits, IntKind.signed]
  omega
theorem or64 (x y : Nat) (hx : x < 18446744073709551616) (hy : y < 18446744073709551616) : bits .or .u64 (x : Int) (y : Int) = ((x ||| y : Nat) : Int) := by
  show IntKind.u64.wrap ((BitVec.ofInt 64 (x : Int) ||| BitVec.ofInt 64 (y : Int)).toNat : Int) = _
  rw [BitVec.toNat_or, ofInt64 x hx, ofInt64 y hy]
  exact wrap64u _ (Nat.or_lt_two_pow (n := 64) hx hy)
theorem ofInt32 (x : Nat) (h : x < 4294967296) : (BitVec.ofInt 32 (x : Int)).toNat = x := by
  simp only [BitVec.toNat_ofInt]
  omega
theorem wrap32u (x : Nat) (h : x < 4294967296) : IntKind.u32.wrap (x : Int) = (x : Int) := by
  simp [IntKind.wrap, IntKind.bits, IntKind.signed]
  omega
theorem or32 (x y : Nat) (hx : x < 4294967296) (hy : y < 4294967296) : bits .or .u32 (x : Int) (y : Int) = ((x ||| y : Nat) : Int) := by
  show IntKind.u32.wrap ((BitVec.ofInt 32 (x : Int) ||| BitVec.ofInt 32 (y : Int)).toNat : Int) = _
  rw [BitVec.toNat_or, ofInt32 x hx, ofInt32 y hy]
  exact wrap32u _ (Nat.or_lt_two_pow (n := 32) hx hy)
/-- a high half or'ed with a low one is a sum -/
theorem or_sum (x y k : Nat) (h : y < 2 ^ k) : (x * 2 ^ k) ||| y = x * 2 ^ k + y := by
  rw [Nat.mul_comm, Nat.two_pow_add_eq_or_of_lt h]
theorem ad_take {xs : List Nat} {k x a b : Nat} (h : xs[k]? = some x) (hp : ad (xs.take k) = (a, b)) : ad (xs.take (k + 1)) = ((a + x) % 65521, (b + (a + x) % 65521) % 65521) := by
  rw [FM.take_snoc h, ad_snoc, hp]; rfl
theorem ad_end (xs : List Nat) (n k a b s : Nat) (hk : k ≤ n) (hlt : ¬ k < n) (hl : xs.length = n) (h : ad (xs.take k) = (a, b)) (hs : adler xs = s) : b * 65536 + a = s := by
  obtain rfl : k = n := by omega
  rw [List.take_of_length_le (by omega)] at h
  rw [← hs]; unfold adler; rw [h]
set_option maxHeartbeats 1000000 in
theorem adler_any (A : Option Addr) (n c : Nat) (xs : List Nat) (w : World) (hx : BR w A n xs) (hn : n ≤ maxLen) (s : Nat) (hs : adler xs = s) :
    Calls Try.prog 42 #[.slice A n c] w fun e w' => e = .returned (.int .u32 (s : Int)) ∧ w = w' := by
  have HX := hide hx
  have HS := hide hs
  unfold maxLen at hn
  clear hx hs
  go_enter Try.func42, Try.ntmps42
  go_wp2_with fail
  go_loop [3, 4, 9] (fun p q i => ∃ (k a b : Nat), k ≤ n ∧ a < 65521 ∧ b < 65521 ∧ i = .int .i64 (k : Int) ∧ p = .int .u32 (a : Int) ∧ q = .int .u32 (b : Int) ∧ Hid (ad (xs.take k) = (a, b))) (fun _ _ i => n - (intOf i).toNat)
  case atStart => exact ⟨0, 1, 0, by omega, by omega, by omega, rfl, rfl, rfl, rfl⟩
  case round =>
    obtain ⟨k, a, b, hk, ha, hb, rfl, rfl, rfl, HA⟩ := hrel
    by_cases hlt : k < n
    · obtain ⟨b', o, x, rfl, hx, hxb, hcell⟩ := HX.out.at_ hlt
      have HN := hide (ad_take hx HA.out)
      clear hx
      go_wp2_with fail
      go_round
      case rel => exact ⟨k + 1, (a + x) % 65521, (b + (a + x) % 65521) % 65521, by omega, by omega, by omega, by go_num, by go_num, by go_num, HN⟩
      case measure => simp [intOf]; omega
    · go_wp2_with fail
      go_ret
      refine ⟨ret_int ?_, rfl⟩
      have e1 : ((b : Int) * 65536) = ((b * 2 ^ 16 : Nat) : Int) := by omega
      rw [e1, or32 _ _ (by omega) (by omega), or_sum _ _ _ (by omega)]
      exact congrArg Nat.cast (ad_end xs n k a b s hk hlt HX.out.len HA.out HS.out)
set_option maxHeartbeats 1000000 in
theorem radler_any (A : Option Addr) (n c : Nat) (xs : List Nat) (w : World) (hx : BR w A n xs) (hn : n ≤ maxLen) (s : Nat) (hs : adler xs = s) :
    Calls Try.prog 44 #[.slice A n c] w fun e w' => e = .returned (.int .u32 (s : Int)) ∧ w = w' := by
  have HX := hide hx
  have HS := hide hs
  unfold maxLen at hn
  clear hx hs
  go_enter Try.func44, Try.ntmps44
  go_wp2_with fail
  go_loop [3, 4, 5] (fun p q i => ∃ (k a b : Nat), k ≤ n ∧ a < 65521 ∧ b < 65521 ∧ i = .int .i64 (k : Int) ∧ p = .int .i64 (a : Int) ∧ q = .int .i64 (b : Int) ∧ Hid (ad (xs.take k) = (a, b))) (fun _ _ i => n - (intOf i).toNat)
  case atStart => exact ⟨0, 1, 0, by omega, by omega, by omega, rfl, rfl, rfl, rfl⟩
  case round =>
    obtain ⟨k, a, b, hk, ha, hb, rfl, rfl, rfl, HA⟩ := hrel
    by_cases hlt : k < n
    · obtain ⟨b', o, x, rfl, hx, hxb, hcell⟩ := HX.out.at_ hlt
      have HN := hide (ad_take hx HA.out)
      clear hx
      go_wp2_with fail
      go_round
      case rel => exact ⟨k + 1, (a + x) % 65521, (b + (a + x) % 65521) % 65521, by omega, by omega, by omega, by go_num, by go_num, by go_num, HN⟩
      case measure => simp [intOf]; omega
    · go_wp2_with fail
      go_ret
      refine ⟨ret_int ?_, rfl⟩
      have := ad_end xs n k a b s hk hlt HX.out.len HA.out HS.out
      omega
end Go.Proofs.Ytjmpnpflmdpdkaa
