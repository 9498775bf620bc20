/- Int and ReadInt, of the program and of the reference. -/
import Derived.Test.YtledmceoeambiaaFApp
namespace Go.Proofs.Ytledmceoeambiaa
open Go Go.RowKit FM

/-- the natural whose digits an integer has -/
def u64 (n : Int) : Nat := (n % 18446744073709551616).toNat
theorem u64_eq (n : Int) : ((u64 n : Nat) : Int) = n % 18446744073709551616 := Int.toNat_of_nonneg (Int.emod_nonneg _ (by decide))
theorem u64_lt (n : Int) : u64 n < 18446744073709551616 := by
  have h := Int.emod_lt_of_pos n (b := 18446744073709551616) (by decide)
  have := u64_eq n
  omega
theorem u64_wrap (n : Int) : IntKind.u64.wrap n = ((u64 n : Nat) : Int) := by
  rw [u64_eq]
  simp [IntKind.wrap, IntKind.bits, IntKind.signed]
/-- an integer of the call's own digits -/
def OwnedB (ys : List Nat) (n : Nat) (w : World) (e : Ending) (w' : World) : Prop := ∃ g, e = .returned (.slice (some ⟨g, 0, none⟩) n n) ∧ OwnB w' w.heap.size g ys ∧ Below w.heap.size w w'
set_option maxHeartbeats 1000000 in
theorem int_any (n : Int) (w : World) (ys : List Nat) (hy : big (u64 n) 8 = ys) : Calls Try.prog 18 #[.int .i64 n] w (OwnedB ys 8 w) := by
  have HY := hide hy
  have hw := u64_wrap n
  clear hy
  generalize u64 n = v at *
  go_enter Try.func18, Try.ntmps18
  go_wp2_with fail
  refine (digits_any v 8 _ (by omega) ys HY.out).mono ?_
  rintro e w1 ⟨g1, rfl, ho1, hb1⟩
  have HO1 := hide ho1
  have HB1 := hide hb1
  clear ho1 hb1
  go_wp2_with fail
  go_ret
  exact ⟨g1, rfl, HO1.out, HB1.out⟩
set_option maxHeartbeats 1000000 in
theorem rint_any (n : Int) (w : World) (ys : List Nat) (hy : big (u64 n) 8 = ys) : Calls Try.prog 21 #[.int .i64 n] w (OwnedB ys 8 w) := by
  have HY := hide hy
  have hw := u64_wrap n
  have HV := hide (u64_lt n)
  clear hy
  generalize u64 n = v at *
  go_enter Try.func21, Try.ntmps21
  go_wp2_with fail
  refine (big_any v 8 _ HV.out (by omega) ys HY.out).mono ?_
  rintro e w1 ⟨g1, rfl, ho1, hb1⟩
  have HO1 := hide ho1
  have HB1 := hide hb1
  clear ho1 hb1
  go_wp2_with fail
  go_ret
  exact ⟨g1, rfl, HO1.out, HB1.out⟩
end Go.Proofs.Ytledmceoeambiaa
