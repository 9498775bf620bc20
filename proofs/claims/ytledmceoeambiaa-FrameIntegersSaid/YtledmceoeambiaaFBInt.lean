/- The body of FrameIntegers. -/
import Derived.Test.YtledmceoeambiaaFAwk
namespace Go.Proofs.Ytledmceoeambiaa
open Go Go.RowKit FM

theorem u64_back {z : Int} (h : -9223372036854775808 ≤ z ∧ z < 9223372036854775808) : IntKind.i64.wrap ((u64 z : Nat) : Int) = z := by
  rw [u64_eq]
  simp only [IntKind.wrap, IntKind.bits, IntKind.signed]
  simp
  omega
set_option maxRecDepth 100000 in
set_option maxHeartbeats 16000000 in
theorem ints_no (z : Int) (A : Option Addr) (n c : Nat) (xs : List Nat) (w : World) (_hx : BR w A n xs) (_hxc : n ≤ c) (_hxm : c ≤ maxLen) (_hz : -9223372036854775808 ≤ z ∧ z < 9223372036854775808) (_hf : ¬ n ≤ 100) :
    Calls Try.prog 8 #[.int .i64 z, .slice A n c] w fun e w' => e = .returned (.bool true) ∧ Below w.heap.size w w' := by
  have HB := hide (Below.refl w.heap.size w)
  unfold maxLen at _hxm
  have d : decide ((100 : Int) < (n : Int)) = true := decide_eq_true (by omega)
  clear _hx _hz
  go_enter Try.func8, Try.ntmps8
  go_wp2_with fail
  (with_reducible refine (awake_yes _).mono ?_)
  rintro e w1 ⟨rfl, hb⟩
  replace HB := hide (HB.out.trans (hb.mono HB.out.size))
  clear hb
  go_wp2_with fail
  (with_reducible refine (awake_yes _).mono ?_)
  rintro e w2 ⟨rfl, hb⟩
  replace HB := hide (HB.out.trans (hb.mono HB.out.size))
  clear hb
  go_wp2_with fail
  go_ret
  exact ⟨rfl, HB.out⟩
set_option maxRecDepth 100000 in
set_option maxHeartbeats 16000000 in
theorem ints_yes (z : Int) (A : Option Addr) (n c : Nat) (xs : List Nat) (w : World) (hx : BR w A n xs) (hxc : n ≤ c) (hxm : c ≤ maxLen) (hz : -9223372036854775808 ≤ z ∧ z < 9223372036854775808) (_hf : n ≤ 100) :
    Calls Try.prog 8 #[.int .i64 z, .slice A n c] w fun e w' => e = .returned (.bool true) ∧ Below w.heap.size w w' := by
  have HB := hide (Below.refl w.heap.size w)
  obtain ⟨F, hF⟩ := (⟨_, rfl⟩ : ∃ F, big (u64 z) 8 = F)
  have HF := hide hF
  have HFL := hide (show F.length = 8 from by rw [← hF]; exact big_len 8 _)
  have HFB := hide (show By F from by rw [← hF]; exact big_by 8 _)
  have HW := hide (show IntKind.i64.wrap (riN (F ++ xs) : Int) = z from by rw [← hF, (read_int xs (u64_lt z)).2.1]; exact u64_back hz)
  have HR := hide (show riR (F ++ xs) = xs from by rw [← hF, (read_int xs (u64_lt z)).2.2])
  have HE := hide (show riE (F ++ xs) = 0 from by rw [← hF, (read_int xs (u64_lt z)).1])
  obtain ⟨r, hr⟩ := (⟨_, rfl⟩ : ∃ r, IntKind.i64.wrap (riN xs : Int) = r)
  obtain ⟨R, hR⟩ := (⟨_, rfl⟩ : ∃ R, riR xs = R)
  obtain ⟨E, hE⟩ := (⟨_, rfl⟩ : ∃ E, riE xs = E)
  have Hr := hide hr
  have HRR := hide hR
  have HEE := hide hE
  have HX := hide hx
  have HXc := hide hxc
  have HXm := hide hxm
  unfold maxLen at hxm
  clear hF hr hR hE hx hz
  have d : decide ((100 : Int) < (n : Int)) = false := decide_eq_false (by omega)
  go_enter Try.func8, Try.ntmps8
  go_wp2_with fail
  (with_reducible refine (awake_yes _).mono ?_)
  rintro e w1 ⟨rfl, hb⟩
  replace HB := hide (HB.out.trans (hb.mono HB.out.size))
  replace HX := hide (HX.out.below hb)
  clear hb
  go_wp2_with fail
  refine (int_any z _ F HF.out).mono ?_
  rintro e w2 ⟨g1, rfl, ho1, hb⟩
  replace HB := hide (HB.out.trans (hb.mono HB.out.size))
  replace HX := hide (HX.out.below hb)
  clear hb
  have HI := hide ((ho1.rb (n := 8) HFL.out (by unfold maxLen; omega)).br HFB.out)
  clear ho1
  have HA0 := hide ((Below.refl w2.heap.size w2).alloc (Nat.le_refl _) (.cells #[] 5))
  go_wp2_with (first
    | (at_builtin; refine wpList_append_rl _ rfl _ _ 22 rfl w2.heap.size 5 .u8 1 Try.underlying22 u8_info _ 0 0 [] rfl (RB.new w2 (Nat.le_refl _)) (some ⟨g1, 0, none⟩) 8 8 F rfl (HI.out.below HA0.out).1 (by omega) 8 (by omega) (by omega) (by simp) ?_; intro Aw3 cw3 w3 hroww3 hbelw3 hszw3; have HRw3 := hide hroww3; have HEw3 := hide (HA0.out.trans hbelw3); have hsw3 : w2.heap.size ≤ w3.heap.size := HEw3.out.size; clear hroww3 hbelw3 hszw3)
    | (at_builtin; refine wpList_append_rl _ rfl _ _ 22 rfl w2.heap.size 5 .u8 1 Try.underlying22 u8_info Aw3 8 cw3 F rfl HRw3.out A n c xs rfl (HX.out.below HEw3.out).1 (by omega) (8 + n) (by omega) (by omega) hsw3 ?_; intro Aw4 cw4 w4 hroww4 hbelw4 hszw4))
  have hb := HEw3.out.trans hbelw4
  replace HB := hide (HB.out.trans (hb.mono HB.out.size))
  replace HX := hide (HX.out.below hb)
  replace HI := hide (HI.out.below hb)
  have HC := hide (RB.br hroww4 (By.app HI.out.2 HX.out.2))
  have HCl := hide (show 8 + n ≤ cw4 ∧ cw4 ≤ maxLen from Row.le hroww4)
  clear hb hroww4 hbelw4 hszw4 HRw3 HEw3 hsw3 HA0
  refine (readInt_any Aw4 _ cw4 _ _ HC.out HCl.out.1 HCl.out.2 (by omega) z xs 0 HW.out HR.out HE.out).mono ?_
  rintro e w5 ⟨A5, n5, c5, rfl, hr5, hb⟩
  replace HB := hide (HB.out.trans (hb.mono HB.out.size))
  replace HX := hide (HX.out.below hb)
  replace HI := hide (HI.out.below hb)
  replace HC := hide (HC.out.below hb)
  have H5 := hide hr5
  clear hr5
  clear hb
  go_wp2_with fail
  refine (readInt_any A n c _ _ HX.out HXc.out HXm.out (by omega) r R E Hr.out HRR.out HEE.out).mono ?_
  rintro e w6 ⟨A6, n6, c6, rfl, hr6, hb⟩
  replace HB := hide (HB.out.trans (hb.mono HB.out.size))
  replace HX := hide (HX.out.below hb)
  replace HI := hide (HI.out.below hb)
  replace HC := hide (HC.out.below hb)
  replace H5 := hide (H5.out.below hb)
  have H6 := hide hr6
  clear hr6
  clear hb
  go_wp2_with fail
  refine (rreadInt_any A n c _ _ HX.out HXc.out HXm.out (by omega) r R E Hr.out HRR.out HEE.out).mono ?_
  rintro e w7 ⟨A7, n7, c7, rfl, hr7, hb⟩
  replace HB := hide (HB.out.trans (hb.mono HB.out.size))
  replace HX := hide (HX.out.below hb)
  replace HI := hide (HI.out.below hb)
  replace HC := hide (HC.out.below hb)
  replace H5 := hide (H5.out.below hb)
  replace H6 := hide (H6.out.below hb)
  have H7 := hide hr7
  clear hr7
  clear hb
  go_wp2_with fail
  refine (rint_any z _ F HF.out).mono ?_
  rintro e w8 ⟨g8, rfl, ho8, hb⟩
  replace HB := hide (HB.out.trans (hb.mono HB.out.size))
  replace HX := hide (HX.out.below hb)
  replace HI := hide (HI.out.below hb)
  replace HC := hide (HC.out.below hb)
  replace H5 := hide (H5.out.below hb)
  replace H6 := hide (H6.out.below hb)
  replace H7 := hide (H7.out.below hb)
  clear hb
  have H8 := hide ((ho8.rb (n := 8) HFL.out (by unfold maxLen; omega)).br HFB.out)
  clear ho8
  go_wp2_with fail
  (with_reducible refine (same_any _ 8 8 F _ 8 8 F _ HI.out H8.out true (decide_eq_true rfl)).mono ?_)
  rintro e w9 ⟨rfl, rfl⟩
  go_wp2_with fail
  (with_reducible refine (same_any A5 n5 c5 xs A n c xs _ H5.out HX.out true (decide_eq_true rfl)).mono ?_)
  rintro e w10 ⟨rfl, rfl⟩
  go_wp2_with fail
  (with_reducible refine (same_any A6 n6 c6 R A7 n7 c7 R _ H6.out H7.out true (decide_eq_true rfl)).mono ?_)
  rintro e w11 ⟨rfl, rfl⟩
  go_wp2_with fail
  go_ret
  exact ⟨rfl, HB.out⟩
theorem ints_all (z : Int) (A : Option Addr) (n c : Nat) (xs : List Nat) (w : World) (hx : BR w A n xs) (hxc : n ≤ c) (hxm : c ≤ maxLen) (hz : -9223372036854775808 ≤ z ∧ z < 9223372036854775808) :
    Calls Try.prog 8 #[.int .i64 z, .slice A n c] w fun e w' => e = .returned (.bool true) ∧ Below w.heap.size w w' := by
  by_cases hf : n ≤ 100
  · exact ints_yes z A n c xs w hx hxc hxm hz hf
  · exact ints_no z A n c xs w hx hxc hxm hz hf
end Go.Proofs.Ytledmceoeambiaa
