/- The body of FrameStrings. -/
import Derived.Test.YtledmceoeambiaaFAwk
namespace Go.Proofs.Ytledmceoeambiaa
open Go Go.RowKit FM

theorem read_str2 {s : List Nat} (rest : List Nat) (hs : s.length ≤ 4096) : bS (str s ++ rest) = s ∧ bR (str s ++ rest) = rest ∧ rbE (str s ++ rest) = 0 := by
  obtain ⟨h1, h2, h3⟩ := read_str (s := s) rest hs
  unfold bS bR
  rw [if_pos h1, if_pos h1]
  exact ⟨h2, h3, h1⟩
theorem str_by {s : List Nat} (h : By s) : By (str s) := (big_by 2 _).app h
set_option maxRecDepth 100000 in
set_option maxHeartbeats 16000000 in
theorem strings_no1 (A : Option Addr) (n c : Nat) (xs : List Nat) (A' : Option Addr) (m d : Nat) (ys : List Nat) (w : World) (_hx : BR w A n xs) (_hxc : n ≤ c) (_hxm : c ≤ maxLen) (_hy : BR w A' m ys) (_hyc : m ≤ d) (_hym : d ≤ maxLen) (_hf : ¬ n ≤ 5000) :
    Calls Try.prog 9 #[.slice A n c, .slice A' m d] w fun e w' => e = .returned (.bool true) ∧ Below w.heap.size w w' := by
  have HB := hide (Below.refl w.heap.size w)
  unfold maxLen at _hxm
  unfold maxLen at _hym
  have d1 : decide ((5000 : Int) < (n : Int)) = true := decide_eq_true (by omega)
  clear _hx _hy
  go_enter Try.func9, Try.ntmps9
  go_wp2_with fail
  (with_reducible refine (awake_yes _).mono ?_)
  rintro e w1 ⟨rfl, hb⟩
  replace HB := hide (HB.out.trans (hb.mono HB.out.size))
  clear hb
  go_wp2_with fail
  (with_reducible refine (awake_yes _).mono ?_)
  rintro e w2 ⟨rfl, hb⟩
  replace HB := hide (HB.out.trans (hb.mono HB.out.size))
  clear hb
  go_wp2_with fail
  go_ret
  exact ⟨rfl, HB.out⟩
set_option maxRecDepth 100000 in
set_option maxHeartbeats 16000000 in
theorem strings_no2 (A : Option Addr) (n c : Nat) (xs : List Nat) (A' : Option Addr) (m d : Nat) (ys : List Nat) (w : World) (_hx : BR w A n xs) (_hxc : n ≤ c) (_hxm : c ≤ maxLen) (_hy : BR w A' m ys) (_hyc : m ≤ d) (_hym : d ≤ maxLen) (_hf : n ≤ 5000) (_hg : ¬ m ≤ 5000) :
    Calls Try.prog 9 #[.slice A n c, .slice A' m d] w fun e w' => e = .returned (.bool true) ∧ Below w.heap.size w w' := by
  have HB := hide (Below.refl w.heap.size w)
  unfold maxLen at _hxm
  unfold maxLen at _hym
  have d1 : decide ((5000 : Int) < (n : Int)) = false := decide_eq_false (by omega)
  have d2 : decide ((5000 : Int) < (m : Int)) = true := decide_eq_true (by omega)
  clear _hx _hy
  go_enter Try.func9, Try.ntmps9
  go_wp2_with fail
  (with_reducible refine (awake_yes _).mono ?_)
  rintro e w1 ⟨rfl, hb⟩
  replace HB := hide (HB.out.trans (hb.mono HB.out.size))
  clear hb
  go_wp2_with fail
  (with_reducible refine (awake_yes _).mono ?_)
  rintro e w2 ⟨rfl, hb⟩
  replace HB := hide (HB.out.trans (hb.mono HB.out.size))
  clear hb
  go_wp2_with fail
  go_ret
  exact ⟨rfl, HB.out⟩
set_option maxRecDepth 100000 in
set_option maxHeartbeats 16000000 in
theorem strings_full (A : Option Addr) (n c : Nat) (xs : List Nat) (A' : Option Addr) (m d : Nat) (ys : List Nat) (w : World) (hx : BR w A n xs) (hxc : n ≤ c) (hxm : c ≤ maxLen) (hy : BR w A' m ys) (hyc : m ≤ d) (hym : d ≤ maxLen) (_hf : n ≤ 5000) (hg : 4096 < n) (_hh : m ≤ 5000) :
    Calls Try.prog 9 #[.slice A n c, .slice A' m d] w fun e w' => e = .returned (.bool true) ∧ Below w.heap.size w w' := by
  have HB := hide (Below.refl w.heap.size w)
  have HM := hide (show n ≤ maxLen from Nat.le_trans hxc hxm)
  obtain ⟨S, hS⟩ := (⟨_, rfl⟩ : ∃ S, bS ys = S)
  obtain ⟨R, hR⟩ := (⟨_, rfl⟩ : ∃ R, bR ys = R)
  obtain ⟨E, hE⟩ := (⟨_, rfl⟩ : ∃ E, rbE ys = E)
  have HO1 := hide hS
  have HO2 := hide hR
  have HO3 := hide hE
  have HX := hide hx
  have HY := hide hy
  have HXc := hide hxc
  have HXm := hide hxm
  have HYc := hide hyc
  have HYm := hide hym
  unfold maxLen at hxm
  unfold maxLen at hym
  clear hS hR hE hx hy
  have d1 : decide ((5000 : Int) < (n : Int)) = false := decide_eq_false (by omega)
  have d2 : decide ((5000 : Int) < (m : Int)) = false := decide_eq_false (by omega)
  go_enter Try.func9, Try.ntmps9
  go_wp2_with fail
  (with_reducible refine (awake_yes _).mono ?_)
  rintro e w1 ⟨rfl, hb⟩
  replace HB := hide (HB.out.trans (hb.mono HB.out.size))
  replace HX := hide (HX.out.below hb)
  replace HY := hide (HY.out.below hb)
  clear hb
  go_wp2_with fail
  refine (bytesOf_full A n c _ HM.out hg).mono ?_
  rintro e w2 ⟨rfl, rfl⟩
  go_wp2_with fail
  refine (rbytesOf_full A n c _ HM.out hg).mono ?_
  rintro e w3 ⟨rfl, rfl⟩
  go_wp2_with fail
  refine (readBytes_any A' m d ys _ HY.out HYc.out HYm.out (by omega) S R E HO1.out HO2.out HO3.out).mono ?_
  rintro e w4 ⟨A3, n3, c3, A4, n4, c4, rfl, hr3, hr4, hb⟩
  replace HB := hide (HB.out.trans (hb.mono HB.out.size))
  replace HX := hide (HX.out.below hb)
  replace HY := hide (HY.out.below hb)
  have H3 := hide hr3
  clear hr3
  have H4 := hide hr4
  clear hr4
  clear hb
  go_wp2_with fail
  refine (rreadBytes_any A' m d ys _ HY.out HYc.out HYm.out (by omega) S R E HO1.out HO2.out HO3.out).mono ?_
  rintro e w5 ⟨A5, n5, c5, A6, n6, c6, rfl, hr5, hr6, hb⟩
  replace HB := hide (HB.out.trans (hb.mono HB.out.size))
  replace HX := hide (HX.out.below hb)
  replace HY := hide (HY.out.below hb)
  replace H3 := hide (H3.out.below hb)
  replace H4 := hide (H4.out.below hb)
  have H5 := hide hr5
  clear hr5
  have H6 := hide hr6
  clear hr6
  clear hb
  go_wp2_with fail
  (with_reducible refine (same_any none 0 0 [] none 0 0 [] _ BR.nil_ BR.nil_ true rfl).mono ?_)
  rintro e w6 ⟨rfl, rfl⟩
  go_wp2_with fail
  (with_reducible refine (same_any A3 n3 c3 S A5 n5 c5 S _ H3.out H5.out true (decide_eq_true rfl)).mono ?_)
  rintro e w7 ⟨rfl, rfl⟩
  go_wp2_with fail
  (with_reducible refine (same_any A4 n4 c4 R A6 n6 c6 R _ H4.out H6.out true (decide_eq_true rfl)).mono ?_)
  rintro e w8 ⟨rfl, rfl⟩
  have HN := hide (show BR w5 none 0 [] from BR.nil_)
  have HA0 := hide ((Below.refl w5.heap.size w5).alloc (Nat.le_refl _) (.cells #[] 5))
  go_wp2_with (first
    | (at_builtin; refine wpList_append_rl _ rfl _ _ 22 rfl w5.heap.size 5 .u8 1 Try.underlying22 u8_info _ 0 0 [] rfl (RB.new w5 (Nat.le_refl _)) none 0 0 [] rfl (HN.out.below HA0.out).1 (by omega) 0 (by omega) (by omega) (by simp) ?_; intro Aw9 cw9 w9 hroww9 hbelw9 hszw9; have HRw9 := hide hroww9; have HEw9 := hide (HA0.out.trans hbelw9); have hsw9 : w5.heap.size ≤ w9.heap.size := HEw9.out.size; clear hroww9 hbelw9 hszw9)
    | (at_builtin; refine wpList_append_rl _ rfl _ _ 22 rfl w5.heap.size 5 .u8 1 Try.underlying22 u8_info Aw9 0 cw9 [] rfl HRw9.out A' m d ys rfl (HY.out.below HEw9.out).1 (by omega) m (by omega) (by omega) hsw9 ?_; intro Aw10 cw10 w10 hroww10 hbelw10 hszw10))
  have hb := HEw9.out.trans hbelw10
  replace HB := hide (HB.out.trans (hb.mono HB.out.size))
  replace HX := hide (HX.out.below hb)
  replace HY := hide (HY.out.below hb)
  replace H3 := hide (H3.out.below hb)
  replace H4 := hide (H4.out.below hb)
  replace H5 := hide (H5.out.below hb)
  replace H6 := hide (H6.out.below hb)
  have HC := hide (RB.br hroww10 (By.app HN.out.2 HY.out.2))
  have HCl := hide (show m ≤ cw10 ∧ cw10 ≤ maxLen from Row.le hroww10)
  clear hb hroww10 hbelw10 hszw10 HRw9 HEw9 hsw9 HA0
  refine (readBytes_any Aw10 _ cw10 _ _ HC.out HCl.out.1 HCl.out.2 (by omega) S R E HO1.out HO2.out HO3.out).mono ?_
  rintro e w11 ⟨A7, n7, c7, A8, n8, c8, rfl, hr7, hr8, hb⟩
  replace HB := hide (HB.out.trans (hb.mono HB.out.size))
  replace HX := hide (HX.out.below hb)
  replace HY := hide (HY.out.below hb)
  replace H3 := hide (H3.out.below hb)
  replace H4 := hide (H4.out.below hb)
  replace H5 := hide (H5.out.below hb)
  replace H6 := hide (H6.out.below hb)
  replace HC := hide (HC.out.below hb)
  have H7 := hide hr7
  clear hr7
  have H8 := hide hr8
  clear hr8
  clear hb
  go_wp2_with fail
  go_ret
  exact ⟨rfl, HB.out⟩
set_option maxRecDepth 100000 in
set_option maxHeartbeats 16000000 in
theorem strings_yes (A : Option Addr) (n c : Nat) (xs : List Nat) (A' : Option Addr) (m d : Nat) (ys : List Nat) (w : World) (hx : BR w A n xs) (hxc : n ≤ c) (hxm : c ≤ maxLen) (hy : BR w A' m ys) (hyc : m ≤ d) (hym : d ≤ maxLen) (hg : n ≤ 4096) (_hh : m ≤ 5000) :
    Calls Try.prog 9 #[.slice A n c, .slice A' m d] w fun e w' => e = .returned (.bool true) ∧ Below w.heap.size w w' := by
  have HB := hide (Below.refl w.heap.size w)
  obtain ⟨S, hS⟩ := (⟨_, rfl⟩ : ∃ S, bS ys = S)
  obtain ⟨R, hR⟩ := (⟨_, rfl⟩ : ∃ R, bR ys = R)
  obtain ⟨E, hE⟩ := (⟨_, rfl⟩ : ∃ E, rbE ys = E)
  obtain ⟨F, hF⟩ := (⟨_, rfl⟩ : ∃ F, str xs = F)
  have HFB := hide (show By F from by rw [← hF]; exact str_by hx.2)
  have ho := read_str2 (s := xs) ys (by rw [hx.len]; exact hg)
  rw [hF] at ho
  obtain ⟨ho1, ho2, ho3⟩ := ho
  have HF := hide hF
  have HP1 := hide ho1
  have HP2 := hide ho2
  have HP3 := hide ho3
  clear hF ho1 ho2 ho3
  have HO1 := hide hS
  have HO2 := hide hR
  have HO3 := hide hE
  have HX := hide hx
  have HY := hide hy
  have HXc := hide hxc
  have HXm := hide hxm
  have HYc := hide hyc
  have HYm := hide hym
  unfold maxLen at hxm
  unfold maxLen at hym
  clear hS hR hE hx hy
  have d1 : decide ((5000 : Int) < (n : Int)) = false := decide_eq_false (by omega)
  have d2 : decide ((5000 : Int) < (m : Int)) = false := decide_eq_false (by omega)
  go_enter Try.func9, Try.ntmps9
  go_wp2_with fail
  (with_reducible refine (awake_yes _).mono ?_)
  rintro e w1 ⟨rfl, hb⟩
  replace HB := hide (HB.out.trans (hb.mono HB.out.size))
  replace HX := hide (HX.out.below hb)
  replace HY := hide (HY.out.below hb)
  clear hb
  go_wp2_with fail
  refine (bytesOf_any A n c xs _ HX.out hg F HF.out).mono ?_
  rintro e w2 ⟨A1, c1, rfl, hr1, hb⟩
  replace HB := hide (HB.out.trans (hb.mono HB.out.size))
  replace HX := hide (HX.out.below hb)
  replace HY := hide (HY.out.below hb)
  have H1 := hide (hr1.br HFB.out)
  clear hr1
  clear hb
  go_wp2_with fail
  refine (rbytesOf_any A n c xs _ HX.out hg F HF.out).mono ?_
  rintro e w3 ⟨A2, c2, rfl, hr2, hb⟩
  replace HB := hide (HB.out.trans (hb.mono HB.out.size))
  replace HX := hide (HX.out.below hb)
  replace HY := hide (HY.out.below hb)
  replace H1 := hide (H1.out.below hb)
  have H2 := hide (hr2.br HFB.out)
  clear hr2
  clear hb
  go_wp2_with fail
  refine (readBytes_any A' m d ys _ HY.out HYc.out HYm.out (by omega) S R E HO1.out HO2.out HO3.out).mono ?_
  rintro e w4 ⟨A3, n3, c3, A4, n4, c4, rfl, hr3, hr4, hb⟩
  replace HB := hide (HB.out.trans (hb.mono HB.out.size))
  replace HX := hide (HX.out.below hb)
  replace HY := hide (HY.out.below hb)
  replace H1 := hide (H1.out.below hb)
  replace H2 := hide (H2.out.below hb)
  have H3 := hide hr3
  clear hr3
  have H4 := hide hr4
  clear hr4
  clear hb
  go_wp2_with fail
  refine (rreadBytes_any A' m d ys _ HY.out HYc.out HYm.out (by omega) S R E HO1.out HO2.out HO3.out).mono ?_
  rintro e w5 ⟨A5, n5, c5, A6, n6, c6, rfl, hr5, hr6, hb⟩
  replace HB := hide (HB.out.trans (hb.mono HB.out.size))
  replace HX := hide (HX.out.below hb)
  replace HY := hide (HY.out.below hb)
  replace H1 := hide (H1.out.below hb)
  replace H2 := hide (H2.out.below hb)
  replace H3 := hide (H3.out.below hb)
  replace H4 := hide (H4.out.below hb)
  have H5 := hide hr5
  clear hr5
  have H6 := hide hr6
  clear hr6
  clear hb
  go_wp2_with fail
  (with_reducible refine (same_any A1 (n + 2) c1 F A2 (n + 2) c2 F _ H1.out H2.out true (decide_eq_true rfl)).mono ?_)
  rintro e w6 ⟨rfl, rfl⟩
  go_wp2_with fail
  (with_reducible refine (same_any A3 n3 c3 S A5 n5 c5 S _ H3.out H5.out true (decide_eq_true rfl)).mono ?_)
  rintro e w7 ⟨rfl, rfl⟩
  go_wp2_with fail
  (with_reducible refine (same_any A4 n4 c4 R A6 n6 c6 R _ H4.out H6.out true (decide_eq_true rfl)).mono ?_)
  rintro e w8 ⟨rfl, rfl⟩
  have HA0 := hide ((Below.refl w5.heap.size w5).alloc (Nat.le_refl _) (.cells #[] 5))
  go_wp2_with (first
    | (at_builtin; refine wpList_append_rl _ rfl _ _ 22 rfl w5.heap.size 5 .u8 1 Try.underlying22 u8_info _ 0 0 [] rfl (RB.new w5 (Nat.le_refl _)) A1 (n + 2) c1 F rfl (H1.out.below HA0.out).1 (by omega) (n + 2) (by omega) (by omega) (by simp) ?_; intro Aw9 cw9 w9 hroww9 hbelw9 hszw9; have HRw9 := hide hroww9; have HEw9 := hide (HA0.out.trans hbelw9); have hsw9 : w5.heap.size ≤ w9.heap.size := HEw9.out.size; clear hroww9 hbelw9 hszw9)
    | (at_builtin; refine wpList_append_rl _ rfl _ _ 22 rfl w5.heap.size 5 .u8 1 Try.underlying22 u8_info Aw9 (n + 2) cw9 F rfl HRw9.out A' m d ys rfl (HY.out.below HEw9.out).1 (by omega) ((n + 2) + m) (by omega) (by omega) hsw9 ?_; intro Aw10 cw10 w10 hroww10 hbelw10 hszw10))
  have hb := HEw9.out.trans hbelw10
  replace HB := hide (HB.out.trans (hb.mono HB.out.size))
  replace HX := hide (HX.out.below hb)
  replace HY := hide (HY.out.below hb)
  replace H1 := hide (H1.out.below hb)
  replace H2 := hide (H2.out.below hb)
  replace H3 := hide (H3.out.below hb)
  replace H4 := hide (H4.out.below hb)
  replace H5 := hide (H5.out.below hb)
  replace H6 := hide (H6.out.below hb)
  have HC := hide (RB.br hroww10 (By.app H1.out.2 HY.out.2))
  have HCl := hide (show ((n + 2) + m) ≤ cw10 ∧ cw10 ≤ maxLen from Row.le hroww10)
  clear hb hroww10 hbelw10 hszw10 HRw9 HEw9 hsw9 HA0
  refine (readBytes_any Aw10 _ cw10 _ _ HC.out HCl.out.1 HCl.out.2 (by omega) xs ys 0 HP1.out HP2.out HP3.out).mono ?_
  rintro e w11 ⟨A7, n7, c7, A8, n8, c8, rfl, hr7, hr8, hb⟩
  replace HB := hide (HB.out.trans (hb.mono HB.out.size))
  replace HX := hide (HX.out.below hb)
  replace HY := hide (HY.out.below hb)
  replace H1 := hide (H1.out.below hb)
  replace H2 := hide (H2.out.below hb)
  replace H3 := hide (H3.out.below hb)
  replace H4 := hide (H4.out.below hb)
  replace H5 := hide (H5.out.below hb)
  replace H6 := hide (H6.out.below hb)
  replace HC := hide (HC.out.below hb)
  have H7 := hide hr7
  clear hr7
  have H8 := hide hr8
  clear hr8
  clear hb
  go_wp2_with fail
  (with_reducible refine (same_any A7 n7 c7 xs A n c xs _ H7.out HX.out true (decide_eq_true rfl)).mono ?_)
  rintro e w12 ⟨rfl, rfl⟩
  go_wp2_with fail
  (with_reducible refine (same_any A8 n8 c8 ys A' m d ys _ H8.out HY.out true (decide_eq_true rfl)).mono ?_)
  rintro e w13 ⟨rfl, rfl⟩
  go_wp2_with fail
  go_ret
  exact ⟨rfl, HB.out⟩
theorem strings_all (A : Option Addr) (n c : Nat) (xs : List Nat) (A' : Option Addr) (m d : Nat) (ys : List Nat) (w : World) (hx : BR w A n xs) (hxc : n ≤ c) (hxm : c ≤ maxLen) (hy : BR w A' m ys) (hyc : m ≤ d) (hym : d ≤ maxLen) :
    Calls Try.prog 9 #[.slice A n c, .slice A' m d] w fun e w' => e = .returned (.bool true) ∧ Below w.heap.size w w' := by
  by_cases hf : n ≤ 5000
  · by_cases hh : m ≤ 5000
    · by_cases hg : n ≤ 4096
      · exact strings_yes A n c xs A' m d ys w hx hxc hxm hy hyc hym hg hh
      · exact strings_full A n c xs A' m d ys w hx hxc hxm hy hyc hym hf (by omega) hh
    · exact strings_no2 A n c xs A' m d ys w hx hxc hxm hy hyc hym hf hh
  · exact strings_no1 A n c xs A' m d ys w hx hxc hxm hy hyc hym hf
end Go.Proofs.Ytledmceoeambiaa
