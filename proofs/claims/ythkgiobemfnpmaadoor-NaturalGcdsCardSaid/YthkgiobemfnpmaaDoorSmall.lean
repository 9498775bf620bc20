/- The contracts of bits.Mul64 at 10^9, natural.Small. -/
import Derived.Test.YthkgiobemfnpmaaDoorCmp
import Derived.Laws.Externs
import Derived.Laws.Bits64b
namespace Go.Proofs.YthkgiobemfnpmaaDoor
open Go Go.RowKit

theorem maskN (a : Nat) (ha : a < 18446744073709551616) : bits .and .u64 (a : Int) 4294967295 = ((a % 4294967296 : Nat) : Int) := by
  have h := bits_and_u64_nat a 4294967295 ha (by omega)
  have e : a &&& 4294967295 = a % 4294967296 := Nat.and_two_pow_sub_one_eq_mod a 32
  rw [e] at h
  exact h

theorem ret2 {k : IntKind} {a b c d : Int} (h1 : a = b) (h2 : c = d) : Ending.returned (.tuple #[.int k a, .int k c]) = .returned (.tuple #[.int k b, .int k d]) := by rw [h1, h2]
set_option maxHeartbeats 1000000 in
theorem mul64_any (x : Nat) (hx : x < 18446744073709551616) (w : World) (hi lo : Nat) (hhi : x * 1000000000 / 18446744073709551616 = hi) (hlo : x * 1000000000 % 18446744073709551616 = lo) :
    Calls Tryd.prog 47 #[.int .u64 (x : Int), .int .u64 1000000000] w fun e w' => e = .returned (.tuple #[.int .u64 (hi : Int), .int .u64 (lo : Int)]) ∧ w = w' := by
  have HH := hide hhi
  have HL := hide hlo
  clear hhi hlo
  obtain ⟨x1, hx1⟩ : ∃ y, y = x / 4294967296 := ⟨_, rfl⟩
  obtain ⟨x0, hx0⟩ : ∃ y, y = x % 4294967296 := ⟨_, rfl⟩
  have b1 : x1 ≤ 4294967295 := by omega
  have b0 : x0 ≤ 4294967295 := by omega
  have e1 : (x : Int) / 4294967296 = (x1 : Int) := by omega
  have e0 : bits .and .u64 (x : Int) 4294967295 = (x0 : Int) := by rw [maskN x hx, hx0]
  have em : bits .and .u64 1000000000 4294967295 = 1000000000 := by
    have := maskN 1000000000 (by omega)
    simpa using this
  have et : bits .and .u64 ((x1 : Int) * 1000000000 + (x0 : Int) * 1000000000 / 4294967296) 4294967295 = ((x1 : Int) * 1000000000 + (x0 : Int) * 1000000000 / 4294967296) % 4294967296 := and_low32 _ (by omega) (by omega)
  have H1 := hide hx1
  have H0 := hide hx0
  clear hx1 hx0
  go_enter Tryd.func47, Tryd.ntmps47
  go_wp2
  go_ret2
  have h1 := H1.out
  have h0 := H0.out
  have hh := HH.out
  have hl := HL.out
  refine ⟨ret2 (by first | omega | (simp only [IntKind.wrap_u64]; omega)) (by first | omega | (simp only [IntKind.wrap_u64]; omega)), rfl⟩

theorem call_add64 (x y : Int) (hx : 0 ≤ x) (hy : 0 ≤ y) (w : World) :
    (callFunc 48 #[.int .u64 x, .int .u64 y, .int .u64 0]).run Tryd.prog w = .ok (.value (.tuple #[.int .u64 ((x + y + 0) % 18446744073709551616), .int .u64 ((x + y + 0) / 18446744073709551616)])) w := by
  rw [run_callFunc_extern Tryd.func48 (by kernel_rfl) (by kernel_rfl) (by kernel_rfl) (e := add64Entry) (by kernel_rfl), run_add64 x y 0 hx hy (by omega) (by omega)]
  rfl

def smallV (v : Nat) : Nat := if v < 18446744073709551616 then v else 0
def smallB (v : Nat) : Bool := decide (v < 18446744073709551616)

set_option maxHeartbeats 1000000 in
theorem small_any (A : Option Addr) (n c : Nat) (xs : List Nat) (w : World) (hr : RL w .u32 A n xs) (hn : n ≤ c) (hc : c ≤ maxLen) (hN : n ≤ 900000) (hx : ∀ x ∈ xs, x < 4294967296) :
    Calls Tryd.prog 30 #[.agg #[.slice A n c]] w fun e w' => e = .returned (.tuple #[.int .u64 ((smallV (val B9 xs) : Nat) : Int), .bool (smallB (val B9 xs))]) ∧ Below w.heap.size w w' := by
  have HX := hide hx
  clear hx
  go_enter Tryd.func30, Tryd.ntmps30
  go_wp2_with fail
  have HB := box1 w (.slice A n c) 24
  generalize w.alloc (Obj.cells #[Value.slice A n c] 24) = W at HB ⊢
  obtain ⟨hW, _, _⟩ := HB
  refine (canon_any A n c xs _ (hr.below hW) hn hc (by omega) HX.out).mono ?_
  rintro e w1 ⟨A1, n1, c1, rfl, hr1, hn1, hc1, hb1⟩
  have hl1 : n1 ≤ n + 1 := dig_len_u32 hr1.len hr.len HX.out
  have hb2 := hW.trans (hb1.mono hW.size)
  have HL := hide hr1.len
  clear hr hb1
  go_wp2
  go_loop [5, 6, 7, 8, 9, 10] (fun v t _ _ _ _ => ∃ k V : Nat, k ≤ n1 ∧ t = .int .i64 ((k : Int) - 1) ∧ v = .int .u64 (V : Int) ∧ val B9 ((dig B9 (val B9 xs)).drop k) = V ∧ V < 18446744073709551616) (fun _ t _ _ _ _ => (intOf t + 1).toNat)
  case atStart => exact ⟨n1, 0, by omega, rfl, rfl, by rw [List.drop_eq_nil_of_le (by rw [HL.out]; exact Nat.le_refl _)]; rfl, by omega⟩
  case round =>
    obtain ⟨k, V, hk, rfl, rfl, hv, hV⟩ := hrel
    by_cases h0 : k = 0
    · subst h0
      have HV := hide (show val B9 xs = V from by rw [← hv]; exact (val_dig B9 (by decide) _).symm)
      clear hv
      go_wp2
      go_ret2
      refine ⟨?_, hb2⟩
      rw [HV.out]
      have e1 : smallV V = V := by rw [smallV, if_pos hV]
      have e2 : smallB V = true := by simp [smallB, hV]
      rw [e1, e2]
      rfl
    · obtain ⟨k, rfl⟩ : ∃ j, k = j + 1 := ⟨k - 1, by omega⟩
      obtain ⟨b, o, x, rfl, hx, hcell⟩ := hr1.at_ (j := k) (by omega)
      have hxb : x < 1000000000 := dig_lt B9 (by decide) _ x (List.mem_of_getElem? hx)
      obtain ⟨hi, hhi⟩ : ∃ y, V * 1000000000 / 18446744073709551616 = y := ⟨_, rfl⟩
      obtain ⟨lo, hlo⟩ : ∃ y, V * 1000000000 % 18446744073709551616 = y := ⟨_, rfl⟩
      have hlo1 : lo < 18446744073709551616 := by omega
      have hhi1 : hi < 1000000000 := by omega
      have hstep : val B9 ((dig B9 (val B9 xs)).drop k) = V * 1000000000 + x := by rw [val_drop_step B9 hx, hv]; show x + 1000000000 * V = _; omega
      have hle : val B9 ((dig B9 (val B9 xs)).drop k) ≤ val B9 xs := by
        have h1 := val_append B9 ((dig B9 (val B9 xs)).take k) ((dig B9 (val B9 xs)).drop k)
        rw [List.take_append_drop, val_dig B9 (by decide)] at h1
        have h2 : 1 * val B9 ((dig B9 (val B9 xs)).drop k) ≤ B9 ^ ((dig B9 (val B9 xs)).take k).length * val B9 ((dig B9 (val B9 xs)).drop k) := Nat.mul_le_mul_right _ (Nat.pow_pos (by decide))
        rw [Nat.one_mul] at h2
        omega
      have HHI := hide hhi
      have HLO := hide hlo
      have HST := hide hstep
      clear hx hv
      rw [show (((k + 1 : Nat) : Int) - 1) = (k : Int) from by omega]
      by_cases hbig : V * 1000000000 + x < 18446744073709551616
      · have hi0 : hi = 0 := by omega
        have hlov : lo = V * 1000000000 := by omega
        have HLV := hide hlov
        subst hi0
        have hadd : ∀ w : World, (callFunc 48 #[.int .u64 (lo : Int), .int .u64 (x : Int), .int .u64 0]).run Tryd.prog w = .ok (.value (.tuple #[.int .u64 ((lo : Int) + (x : Int)), .int .u64 0])) w := by
          intro w
          rw [call_add64 (lo : Int) (x : Int) (by omega) (by omega) w]
          rw [show ((lo : Int) + (x : Int) + 0) % 18446744073709551616 = (lo : Int) + (x : Int) from by omega, show ((lo : Int) + (x : Int) + 0) / 18446744073709551616 = 0 from by omega]
        clear hhi hlo hstep hle hlov
        go_wp2_with fail
        refine (mul64_any V hV _ 0 lo HHI.out HLO.out).mono ?_
        rintro e w3 ⟨rfl, rfl⟩
        go_wp2
        go_round
        case rel => exact ⟨k, lo + x, by omega, rfl, by go_num, by rw [HST.out, HLV.out], by rw [HLV.out]; exact hbig⟩
        case measure => simp [intOf]
      · have hnot : ¬ val B9 xs < 18446744073709551616 := by omega
        have E1 := hide (show smallV (val B9 xs) = 0 from by rw [smallV, if_neg hnot])
        have E2 := hide (show smallB (val B9 xs) = false from by simp [smallB]; omega)
        by_cases hi0 : hi = 0
        · have hlov : lo + x ≥ 18446744073709551616 := by omega
          subst hi0
          have hadd : ∀ w : World, (callFunc 48 #[.int .u64 (lo : Int), .int .u64 (x : Int), .int .u64 0]).run Tryd.prog w = .ok (.value (.tuple #[.int .u64 ((lo : Int) + (x : Int) - 18446744073709551616), .int .u64 1])) w := by
            intro w
            rw [call_add64 (lo : Int) (x : Int) (by omega) (by omega) w]
            rw [show ((lo : Int) + (x : Int) + 0) % 18446744073709551616 = (lo : Int) + (x : Int) - 18446744073709551616 from by omega, show ((lo : Int) + (x : Int) + 0) / 18446744073709551616 = 1 from by omega]
          clear hhi hlo hstep hle hlov hbig hnot
          go_wp2_with fail
          refine (mul64_any V hV _ 0 lo HHI.out HLO.out).mono ?_
          rintro e w3 ⟨rfl, rfl⟩
          go_wp2
          go_ret2
          rw [E1.out, E2.out]
          exact ⟨rfl, hb2⟩
        · have hine : ((hi : Int) != 0) = true := by simp; exact hi0
          have hadd : ∀ w : World, (callFunc 48 #[.int .u64 (lo : Int), .int .u64 (x : Int), .int .u64 0]).run Tryd.prog w = .ok (.value (.tuple #[.int .u64 (((lo : Int) + (x : Int) + 0) % 18446744073709551616), .int .u64 (((lo : Int) + (x : Int) + 0) / 18446744073709551616)])) w :=
            fun w => call_add64 (lo : Int) (x : Int) (by omega) (by omega) w
          clear hhi hlo hstep hle hbig hnot
          go_wp2_with fail
          refine (mul64_any V hV _ hi lo HHI.out HLO.out).mono ?_
          rintro e w3 ⟨rfl, rfl⟩
          go_wp2
          go_ret2
          rw [E1.out, E2.out]
          exact ⟨rfl, hb2⟩
end Go.Proofs.YthkgiobemfnpmaaDoor
