/- The body of FrameTorn. -/
import Derived.Test.YtledmceoeambiaaFAwk
namespace Go.Proofs.Ytledmceoeambiaa
open Go Go.RowKit FM

set_option maxRecDepth 100000 in
set_option maxHeartbeats 16000000 in
theorem torn_no (kd : Nat) (A : Option Addr) (n c : Nat) (xs : List Nat) (u : Nat) (w : World) (_hk : kd < 256) (_hx : BR w A n xs) (_hxc : n ≤ c) (_hxm : c ≤ maxLen) (_hu : u < 65536) (_hf : ¬ n ≤ 8192) :
    Calls Try.prog 6 #[.int .u8 (kd : Int), .slice A n c, .int .u16 (u : Int)] w fun e w' => e = .returned (.bool true) ∧ Below w.heap.size w w' := by
  have HB := hide (Below.refl w.heap.size w)
  unfold maxLen at _hxm
  have d1 : decide ((8192 : Int) < (n : Int)) = true := decide_eq_true (by omega)
  clear _hx
  go_enter Try.func6, Try.ntmps6
  go_wp2_with fail
  (with_reducible refine (awake_yes _).mono ?_)
  rintro e w1 ⟨rfl, hb⟩
  replace HB := hide (HB.out.trans (hb.mono HB.out.size))
  clear hb
  go_wp2_with fail
  (with_reducible refine (awake_yes _).mono ?_)
  rintro e w2 ⟨rfl, hb⟩
  replace HB := hide (HB.out.trans (hb.mono HB.out.size))
  clear hb
  go_wp2_with fail
  go_ret
  exact ⟨rfl, HB.out⟩
set_option maxRecDepth 100000 in
set_option maxHeartbeats 16000000 in
theorem torn_yes (kd : Nat) (A : Option Addr) (n c : Nat) (xs : List Nat) (u : Nat) (w : World) (hk : kd < 256) (hx : BR w A n xs) (_hxc : n ≤ c) (_hxm : c ≤ maxLen) (_hu : u < 65536) (hg : n ≤ 8192) :
    Calls Try.prog 6 #[.int .u8 (kd : Int), .slice A n c, .int .u16 (u : Int)] w fun e w' => e = .returned (.bool true) ∧ Below w.heap.size w w' := by
  have HB := hide (Below.refl w.heap.size w)
  obtain ⟨F, hF⟩ := (⟨_, rfl⟩ : ∃ F, frame kd xs = F)
  have HFB := hide (show By F from by rw [← hF]; exact frame_by hk hx.2)
  obtain ⟨q, hq⟩ := (⟨_, rfl⟩ : ∃ q, u % (n + 9) = q)
  have hqn : q < n + 9 := by rw [← hq]; exact Nat.mod_lt _ (by omega)
  have ho4 : opE (F.take q) = 4 := by rw [← hF]; exact torn (by rw [hx.len]; exact hg) (by rw [hx.len]; exact hqn)
  have ho1 : oK (F.take q) = 0 := by unfold oK; rw [if_neg (by omega)]
  have ho2 : oD (F.take q) = [] := by unfold oD; rw [if_neg (by omega)]
  have ho3 : oR (F.take q) = [] := by unfold oR; rw [if_neg (by omega)]
  have hqi : (u : Int) % ((n : Int) + 9) = (q : Int) := by rw [← hq]; simp [Int.natCast_emod]
  have HF := hide hF
  have HK := hide hk
  have HO1 := hide ho1
  have HO2 := hide ho2
  have HO3 := hide ho3
  have HO4 := hide ho4
  have HX := hide hx
  unfold maxLen at _hxm
  clear hF hk ho1 ho2 ho3 ho4 hx hq
  have d1 : decide ((8192 : Int) < (n : Int)) = false := decide_eq_false (by omega)
  go_enter Try.func6, Try.ntmps6
  go_wp2_with fail
  (with_reducible refine (awake_yes _).mono ?_)
  rintro e w1 ⟨rfl, hb⟩
  replace HB := hide (HB.out.trans (hb.mono HB.out.size))
  replace HX := hide (HX.out.below hb)
  clear hb
  go_wp2_with fail
  refine (rseal_any kd A n c xs _ HX.out HK.out hg F HF.out).mono ?_
  rintro e w2 ⟨A1, c1, rfl, hr1, hb⟩
  replace HB := hide (HB.out.trans (hb.mono HB.out.size))
  replace HX := hide (HX.out.below hb)
  have H1 := hide (show BR _ A1 (n + 9) F ∧ (n + 9 ≤ c1 ∧ c1 ≤ maxLen) from ⟨hr1.br HFB.out, Row.le hr1⟩)
  clear hr1
  clear hb
  have H2 := hide (show q ≤ c1 ∧ c1 ≤ maxLen from ⟨by have := H1.out.2.1; omega, H1.out.2.2⟩)
  have H3 := hide (H1.out.1.take_ (m := q) (by omega))
  have j1 : q ≤ c1 := H2.out.1
  have j2 : c1 ≤ 9223372036854775807 := H2.out.2
  go_wp2_with fail
  refine (open_any A1 q c1 (F.take q) _ H3.out H2.out.1 H2.out.2 (by omega) 0 [] [] 4 HO1.out HO2.out HO3.out HO4.out).mono ?_
  rintro e w3 ⟨A5, n5, c5, A6, n6, c6, rfl, hr5, hr6, hb⟩
  replace HB := hide (HB.out.trans (hb.mono HB.out.size))
  replace HX := hide (HX.out.below hb)
  have H5 := hide (show 0 = n5 from Row.len hr5)
  clear hr5
  have H6 := hide (show 0 = n6 from Row.len hr6)
  clear hr6
  clear hb
  obtain rfl : 0 = n5 := H5.out
  obtain rfl : 0 = n6 := H6.out
  go_wp2_with fail
  go_ret
  exact ⟨rfl, HB.out⟩
theorem torn_all (kd : Nat) (A : Option Addr) (n c : Nat) (xs : List Nat) (u : Nat) (w : World) (hk : kd < 256) (hx : BR w A n xs) (hxc : n ≤ c) (hxm : c ≤ maxLen) (hu : u < 65536) :
    Calls Try.prog 6 #[.int .u8 (kd : Int), .slice A n c, .int .u16 (u : Int)] w fun e w' => e = .returned (.bool true) ∧ Below w.heap.size w w' := by
  by_cases hf : n ≤ 8192
  · exact torn_yes kd A n c xs u w hk hx hxc hxm hu hf
  · exact torn_no kd A n c xs u w hk hx hxc hxm hu hf
end Go.Proofs.Ytledmceoeambiaa
