/- The body of FrameSeals. -/
import Derived.Test.YtledmceoeambiaaFAwk
namespace Go.Proofs.Ytledmceoeambiaa
open Go Go.RowKit FM

theorem open_frame2 {kind : Nat} {data : List Nat} (rest : List Nat) (hd : data.length ≤ 8192) :
    oK (frame kind data ++ rest) = kind ∧ oD (frame kind data ++ rest) = data ∧ oR (frame kind data ++ rest) = rest ∧ opE (frame kind data ++ rest) = 0 := by
  obtain ⟨h1, h2, h3, h4⟩ := open_frame (kind := kind) rest hd
  unfold oK oD oR
  rw [if_pos h1, if_pos h1, if_pos h1]
  exact ⟨h2, h3, h4, h1⟩
set_option maxRecDepth 100000 in
set_option maxHeartbeats 16000000 in
theorem seals_no1 (kd : Nat) (A : Option Addr) (n c : Nat) (xs : List Nat) (A' : Option Addr) (m d : Nat) (ys : List Nat) (w : World) (_hk : kd < 256) (_hx : BR w A n xs) (_hxc : n ≤ c) (_hxm : c ≤ maxLen) (_hy : BR w A' m ys) (_hyc : m ≤ d) (_hym : d ≤ maxLen) (_hf : ¬ n ≤ 9000) :
    Calls Try.prog 4 #[.int .u8 (kd : Int), .slice A n c, .slice A' m d] w fun e w' => e = .returned (.bool true) ∧ Below w.heap.size w w' := by
  have HB := hide (Below.refl w.heap.size w)
  unfold maxLen at _hxm
  unfold maxLen at _hym
  have d1 : decide ((9000 : Int) < (n : Int)) = true := decide_eq_true (by omega)
  clear _hx _hy
  go_enter Try.func4, Try.ntmps4
  go_wp2_with fail
  (with_reducible refine (awake_yes _).mono ?_)
  rintro e w1 ⟨rfl, hb⟩
  replace HB := hide (HB.out.trans (hb.mono HB.out.size))
  clear hb
  go_wp2_with fail
  (with_reducible refine (awake_yes _).mono ?_)
  rintro e w2 ⟨rfl, hb⟩
  replace HB := hide (HB.out.trans (hb.mono HB.out.size))
  clear hb
  go_wp2_with fail
  go_ret
  exact ⟨rfl, HB.out⟩
set_option maxRecDepth 100000 in
set_option maxHeartbeats 16000000 in
theorem seals_no2 (kd : Nat) (A : Option Addr) (n c : Nat) (xs : List Nat) (A' : Option Addr) (m d : Nat) (ys : List Nat) (w : World) (_hk : kd < 256) (_hx : BR w A n xs) (_hxc : n ≤ c) (_hxm : c ≤ maxLen) (_hy : BR w A' m ys) (_hyc : m ≤ d) (_hym : d ≤ maxLen) (_hf : n ≤ 9000) (_hg : ¬ m ≤ 100) :
    Calls Try.prog 4 #[.int .u8 (kd : Int), .slice A n c, .slice A' m d] w fun e w' => e = .returned (.bool true) ∧ Below w.heap.size w w' := by
  have HB := hide (Below.refl w.heap.size w)
  unfold maxLen at _hxm
  unfold maxLen at _hym
  have d1 : decide ((9000 : Int) < (n : Int)) = false := decide_eq_false (by omega)
  have d2 : decide ((100 : Int) < (m : Int)) = true := decide_eq_true (by omega)
  clear _hx _hy
  go_enter Try.func4, Try.ntmps4
  go_wp2_with fail
  (with_reducible refine (awake_yes _).mono ?_)
  rintro e w1 ⟨rfl, hb⟩
  replace HB := hide (HB.out.trans (hb.mono HB.out.size))
  clear hb
  go_wp2_with fail
  (with_reducible refine (awake_yes _).mono ?_)
  rintro e w2 ⟨rfl, hb⟩
  replace HB := hide (HB.out.trans (hb.mono HB.out.size))
  clear hb
  go_wp2_with fail
  go_ret
  exact ⟨rfl, HB.out⟩
set_option maxRecDepth 100000 in
set_option maxHeartbeats 16000000 in
theorem seals_full (kd : Nat) (A : Option Addr) (n c : Nat) (xs : List Nat) (A' : Option Addr) (m d : Nat) (ys : List Nat) (w : World) (_hk : kd < 256) (_hx : BR w A n xs) (hxc : n ≤ c) (hxm : c ≤ maxLen) (_hy : BR w A' m ys) (_hyc : m ≤ d) (_hym : d ≤ maxLen) (_hf : n ≤ 9000) (hg : 8192 < n) (_hh : m ≤ 100) :
    Calls Try.prog 4 #[.int .u8 (kd : Int), .slice A n c, .slice A' m d] w fun e w' => e = .returned (.bool true) ∧ Below w.heap.size w w' := by
  have HB := hide (Below.refl w.heap.size w)
  have HM := hide (show n ≤ maxLen from Nat.le_trans hxc hxm)
  unfold maxLen at hxm
  unfold maxLen at _hym
  have d1 : decide ((9000 : Int) < (n : Int)) = false := decide_eq_false (by omega)
  have d2 : decide ((100 : Int) < (m : Int)) = false := decide_eq_false (by omega)
  clear _hx _hy
  go_enter Try.func4, Try.ntmps4
  go_wp2_with fail
  (with_reducible refine (awake_yes _).mono ?_)
  rintro e w1 ⟨rfl, hb⟩
  replace HB := hide (HB.out.trans (hb.mono HB.out.size))
  clear hb
  go_wp2_with fail
  refine (seal_full (kd : Int) A n c _ HM.out hg).mono ?_
  rintro e w2 ⟨rfl, rfl⟩
  go_wp2_with fail
  refine (rseal_full (kd : Int) A n c _ HM.out hg).mono ?_
  rintro e w3 ⟨rfl, rfl⟩
  go_wp2_with fail
  (with_reducible refine (same_any none 0 0 [] none 0 0 [] _ BR.nil_ BR.nil_ true rfl).mono ?_)
  rintro e w4 ⟨rfl, rfl⟩
  go_wp2_with fail
  go_ret
  exact ⟨rfl, HB.out⟩
set_option maxRecDepth 100000 in
set_option maxHeartbeats 16000000 in
theorem seals_yes (kd : Nat) (A : Option Addr) (n c : Nat) (xs : List Nat) (A' : Option Addr) (m d : Nat) (ys : List Nat) (w : World) (hk : kd < 256) (hx : BR w A n xs) (_hxc : n ≤ c) (_hxm : c ≤ maxLen) (hy : BR w A' m ys) (_hyc : m ≤ d) (_hym : d ≤ maxLen) (hg : n ≤ 8192) (_hh : m ≤ 100) :
    Calls Try.prog 4 #[.int .u8 (kd : Int), .slice A n c, .slice A' m d] w fun e w' => e = .returned (.bool true) ∧ Below w.heap.size w w' := by
  have HB := hide (Below.refl w.heap.size w)
  obtain ⟨F, hF⟩ := (⟨_, rfl⟩ : ∃ F, frame kd xs = F)
  have HFB := hide (show By F from by rw [← hF]; exact frame_by hk hx.2)
  have ho := open_frame2 (kind := kd) (data := xs) ys (by rw [hx.len]; exact hg)
  rw [hF] at ho
  obtain ⟨ho1, ho2, ho3, ho4⟩ := ho
  have HF := hide hF
  have HK := hide hk
  have HO1 := hide ho1
  have HO2 := hide ho2
  have HO3 := hide ho3
  have HO4 := hide ho4
  have HX := hide hx
  have HY := hide hy
  unfold maxLen at _hxm
  unfold maxLen at _hym
  clear hF hk ho1 ho2 ho3 ho4 hx hy
  have d1 : decide ((9000 : Int) < (n : Int)) = false := decide_eq_false (by omega)
  have d2 : decide ((100 : Int) < (m : Int)) = false := decide_eq_false (by omega)
  go_enter Try.func4, Try.ntmps4
  go_wp2_with fail
  (with_reducible refine (awake_yes _).mono ?_)
  rintro e w1 ⟨rfl, hb⟩
  replace HB := hide (HB.out.trans (hb.mono HB.out.size))
  replace HX := hide (HX.out.below hb)
  replace HY := hide (HY.out.below hb)
  clear hb
  go_wp2_with fail
  refine (seal_any kd A n c xs _ HX.out HK.out hg F HF.out).mono ?_
  rintro e w2 ⟨A1, c1, rfl, hr1, hb⟩
  replace HB := hide (HB.out.trans (hb.mono HB.out.size))
  replace HX := hide (HX.out.below hb)
  replace HY := hide (HY.out.below hb)
  have H1 := hide (hr1.br HFB.out)
  clear hr1
  clear hb
  go_wp2_with fail
  refine (rseal_any kd A n c xs _ HX.out HK.out hg F HF.out).mono ?_
  rintro e w3 ⟨A2, c2, rfl, hr2, hb⟩
  replace HB := hide (HB.out.trans (hb.mono HB.out.size))
  replace HX := hide (HX.out.below hb)
  replace HY := hide (HY.out.below hb)
  replace H1 := hide (H1.out.below hb)
  have H2 := hide (hr2.br HFB.out)
  clear hr2
  clear hb
  go_wp2_with fail
  (with_reducible refine (same_any A1 (n + 9) c1 F A2 (n + 9) c2 F _ H1.out H2.out true (decide_eq_true rfl)).mono ?_)
  rintro e w4 ⟨rfl, rfl⟩
  have HA0 := hide ((Below.refl w3.heap.size w3).alloc (Nat.le_refl _) (.cells #[] 5))
  go_wp2_with (first
    | (at_builtin; refine wpList_append_rl _ rfl _ _ 22 rfl w3.heap.size 5 .u8 1 Try.underlying22 u8_info _ 0 0 [] rfl (RB.new w3 (Nat.le_refl _)) A1 (n + 9) c1 F rfl (H1.out.below HA0.out).1 (by omega) (n + 9) (by omega) (by omega) (by simp) ?_; intro Aw5 cw5 w5 hroww5 hbelw5 hszw5; have HRw5 := hide hroww5; have HEw5 := hide (HA0.out.trans hbelw5); have hsw5 : w3.heap.size ≤ w5.heap.size := HEw5.out.size; clear hroww5 hbelw5 hszw5)
    | (at_builtin; refine wpList_append_rl _ rfl _ _ 22 rfl w3.heap.size 5 .u8 1 Try.underlying22 u8_info Aw5 (n + 9) cw5 F rfl HRw5.out A' m d ys rfl (HY.out.below HEw5.out).1 (by omega) ((n + 9) + m) (by omega) (by omega) hsw5 ?_; intro Aw6 cw6 w6 hroww6 hbelw6 hszw6))
  have hb := HEw5.out.trans hbelw6
  replace HB := hide (HB.out.trans (hb.mono HB.out.size))
  replace HX := hide (HX.out.below hb)
  replace HY := hide (HY.out.below hb)
  replace H1 := hide (H1.out.below hb)
  replace H2 := hide (H2.out.below hb)
  have HC := hide (RB.br hroww6 (By.app H1.out.2 HY.out.2))
  have HCl := hide (show ((n + 9) + m) ≤ cw6 ∧ cw6 ≤ maxLen from Row.le hroww6)
  clear hb hroww6 hbelw6 hszw6 HRw5 HEw5 hsw5 HA0
  refine (open_any Aw6 _ cw6 _ _ HC.out HCl.out.1 HCl.out.2 (by omega) kd xs ys 0 HO1.out HO2.out HO3.out HO4.out).mono ?_
  rintro e w7 ⟨A5, n5, c5, A6, n6, c6, rfl, hr5, hr6, hb⟩
  replace HB := hide (HB.out.trans (hb.mono HB.out.size))
  replace HX := hide (HX.out.below hb)
  replace HY := hide (HY.out.below hb)
  replace H1 := hide (H1.out.below hb)
  replace H2 := hide (H2.out.below hb)
  replace HC := hide (HC.out.below hb)
  have H5 := hide (hr5.br HX.out.2)
  clear hr5
  have H6 := hide (hr6.br HY.out.2)
  clear hr6
  clear hb
  go_wp2_with fail
  (with_reducible refine (same_any A5 n5 c5 xs A n c xs _ H5.out HX.out true (decide_eq_true rfl)).mono ?_)
  rintro e w8 ⟨rfl, rfl⟩
  go_wp2_with fail
  (with_reducible refine (same_any A6 n6 c6 ys A' m d ys _ H6.out HY.out true (decide_eq_true rfl)).mono ?_)
  rintro e w9 ⟨rfl, rfl⟩
  go_wp2_with fail
  go_ret
  exact ⟨rfl, HB.out⟩
theorem seals_all (kd : Nat) (A : Option Addr) (n c : Nat) (xs : List Nat) (A' : Option Addr) (m d : Nat) (ys : List Nat) (w : World) (hk : kd < 256) (hx : BR w A n xs) (hxc : n ≤ c) (hxm : c ≤ maxLen) (hy : BR w A' m ys) (hyc : m ≤ d) (hym : d ≤ maxLen) :
    Calls Try.prog 4 #[.int .u8 (kd : Int), .slice A n c, .slice A' m d] w fun e w' => e = .returned (.bool true) ∧ Below w.heap.size w w' := by
  by_cases hf : n ≤ 9000
  · by_cases hh : m ≤ 100
    · by_cases hg : n ≤ 8192
      · exact seals_yes kd A n c xs A' m d ys w hk hx hxc hxm hy hyc hym hg hh
      · exact seals_full kd A n c xs A' m d ys w hk hx hxc hxm hy hyc hym hf (by omega) hh
    · exact seals_no2 kd A n c xs A' m d ys w hk hx hxc hxm hy hyc hym hf hh
  · exact seals_no1 kd A n c xs A' m d ys w hk hx hxc hxm hy hyc hym hf
end Go.Proofs.Ytledmceoeambiaa
