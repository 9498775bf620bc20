/- The body of FrameSums. -/
import Derived.Test.YtledmceoeambiaaFAwk
namespace Go.Proofs.Ytledmceoeambiaa
open Go Go.RowKit FM

set_option maxRecDepth 100000 in
set_option maxHeartbeats 16000000 in
theorem sums_no (A : Option Addr) (n c : Nat) (xs : List Nat) (w : World) (_hx : BR w A n xs) (_hxc : n ≤ c) (_hxm : c ≤ maxLen) (_hf : ¬ n ≤ 20000) :
    Calls Try.prog 3 #[.slice A n c] w fun e w' => e = .returned (.bool true) ∧ Below w.heap.size w w' := by
  have HB := hide (Below.refl w.heap.size w)
  unfold maxLen at _hxm
  have d : decide ((20000 : Int) < (n : Int)) = true := decide_eq_true (by omega)
  clear _hx
  go_enter Try.func3, Try.ntmps3
  go_wp2_with fail
  (with_reducible refine (awake_yes _).mono ?_)
  rintro e w1 ⟨rfl, hb⟩
  replace HB := hide (HB.out.trans (hb.mono HB.out.size))
  clear hb
  go_wp2_with fail
  (with_reducible refine (awake_yes _).mono ?_)
  rintro e w2 ⟨rfl, hb⟩
  replace HB := hide (HB.out.trans (hb.mono HB.out.size))
  clear hb
  go_wp2_with fail
  go_ret
  exact ⟨rfl, HB.out⟩
set_option maxRecDepth 100000 in
set_option maxHeartbeats 16000000 in
theorem sums_yes (A : Option Addr) (n c : Nat) (xs : List Nat) (w : World) (hx : BR w A n xs) (_hxc : n ≤ c) (_hxm : c ≤ maxLen) (_hf : n ≤ 20000) :
    Calls Try.prog 3 #[.slice A n c] w fun e w' => e = .returned (.bool true) ∧ Below w.heap.size w w' := by
  have HB := hide (Below.refl w.heap.size w)
  unfold maxLen at _hxm
  obtain ⟨v, hv⟩ := (⟨_, rfl⟩ : ∃ v, adler xs = v)
  have HV := hide hv
  have HX := hide hx
  clear hv hx
  have d : decide ((20000 : Int) < (n : Int)) = false := decide_eq_false (by omega)
  go_enter Try.func3, Try.ntmps3
  go_wp2_with fail
  (with_reducible refine (awake_yes _).mono ?_)
  rintro e w1 ⟨rfl, hb⟩
  replace HB := hide (HB.out.trans (hb.mono HB.out.size))
  replace HX := hide (HX.out.below hb)
  clear hb
  go_wp2_with fail
  (with_reducible refine (adler_any A n c xs _ HX.out (by unfold maxLen; omega) v HV.out).mono ?_)
  rintro e w2 ⟨rfl, rfl⟩
  go_wp2_with fail
  (with_reducible refine (radler_any A n c xs _ HX.out (by unfold maxLen; omega) v HV.out).mono ?_)
  rintro e w3 ⟨rfl, rfl⟩
  go_wp2_with fail
  go_ret
  exact ⟨rfl, HB.out⟩
theorem sums_all (A : Option Addr) (n c : Nat) (xs : List Nat) (w : World) (hx : BR w A n xs) (hxc : n ≤ c) (hxm : c ≤ maxLen) :
    Calls Try.prog 3 #[.slice A n c] w fun e w' => e = .returned (.bool true) ∧ Below w.heap.size w w' := by
  by_cases hf : n ≤ 20000
  · exact sums_yes A n c xs w hx hxc hxm hf
  · exact sums_no A n c xs w hx hxc hxm hf
end Go.Proofs.Ytledmceoeambiaa
