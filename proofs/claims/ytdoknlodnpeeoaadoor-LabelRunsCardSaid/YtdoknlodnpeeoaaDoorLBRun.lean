/- The body of LabelRuns. -/
import Derived.Test.YtdoknlodnpeeoaaDoorLRRM
import Derived.Test.YtdoknlodnpeeoaaDoorLAwk
namespace Go.Proofs.YtdoknlodnpeeoaaDoor
open Go Go.RowKit Go.Lib

set_option maxRecDepth 100000 in
set_option maxHeartbeats 16000000 in
theorem run_big (A : Option Addr) (m c : Nat) (w : World) (hT : Lw w) (h : 200 < m) :
    Calls Tryd.prog 7 #[.slice A m c] w fun e w' => e = .returned (.bool true) ∧ Below w.heap.size w w' := by
  have HT := hide hT
  have d1 : decide (200 < (m : Int)) = true := decide_eq_true (by omega)
  clear hT
  go_enter Tryd.func7, Tryd.ntmps7
  have B := Below.refl w.heap.size w
  go_wp2_with fail
  refine (awake_yes _ HT.out).mono ?_
  rintro e w1 ⟨rfl, hb⟩
  replace B := B.trans (hb.mono B.size)
  clear hb
  go_wp2_with fail
  refine (awake_yes _ (HT.out.below B)).mono ?_
  rintro e w2 ⟨rfl, hb⟩
  replace B := B.trans (hb.mono B.size)
  clear hb
  go_wp2_with fail
  go_ret
  exact ⟨rfl, B⟩
set_option maxRecDepth 100000 in
set_option maxHeartbeats 16000000 in
theorem run_n (A : Option Addr) (m c : Nat) (xs : List Int) (w : World) (hT : Lw w) (hx : IL w A m xs) (hmc : m ≤ c) (hc : c ≤ maxLen) (h : m ≤ 200) (hr : setB 1000 1 xs = false) :
    Calls Tryd.prog 7 #[.slice A m c] w fun e w' => e = .returned (.bool true) ∧ Below w.heap.size w w' := by
  have HT := hide hT
  have d1 : decide (200 < (m : Int)) = false := decide_eq_false (by omega)
  have HX := hide hx
  have HMC := hide hmc
  have HC := hide hc
  have HM := hide h
  have HS := hide (show runT xs = ⟨#[]⟩ from by unfold runT; rw [if_neg (by rw [hr]; decide)])
  have HE := hide (show runE xs = 1 from by unfold runE; rw [if_neg (by rw [hr]; decide)])
  clear hx hmc hc h hr
  clear hT
  go_enter Tryd.func7, Tryd.ntmps7
  have B := Below.refl w.heap.size w
  go_wp2_with fail
  refine (awake_yes _ HT.out).mono ?_
  rintro e w1 ⟨rfl, hb⟩
  replace B := B.trans (hb.mono B.size)
  clear hb
  go_wp2_with fail
  refine (runs_all A m c xs _ (HX.out.below B) HMC.out HC.out (HT.out.below B) ⟨#[]⟩ 1 HS.out HE.out).mono ?_
  rintro e w2 ⟨rfl, hb⟩
  replace B := B.trans (hb.mono B.size)
  clear hb
  go_wp2_with fail
  refine (rruns_all A m c xs _ (HX.out.below B) (Nat.le_trans HMC.out HC.out) ⟨#[]⟩ 1 HS.out HE.out).mono ?_
  rintro e w3 ⟨rfl, hb⟩
  replace B := B.trans (hb.mono B.size)
  clear hb
  go_wp2_with fail
  refine (expand_any ⟨#[]⟩ _ (HT.out.below B) (by decide) [] 0 (by decide +kernel)).mono ?_
  rintro e w4 ⟨⟨A5, c5, rfl, -, -, -⟩, hb⟩
  replace B := B.trans (hb.mono B.size)
  clear hb
  go_wp2_with fail
  go_ret
  exact ⟨rfl, B⟩
set_option maxRecDepth 100000 in
set_option maxHeartbeats 16000000 in
theorem run_y (A : Option Addr) (c : Nat) (L : List Nat) (w : World) (hT : Lw w) (hx : IL w A L.length (ints5 L)) (hmc : L.length ≤ c) (hc : c ≤ maxLen) (h : L.length ≤ 200) (hr : setB 1000 1 (ints5 L) = true) :
    Calls Tryd.prog 7 #[.slice A L.length c] w fun e w' => e = .returned (.bool true) ∧ Below w.heap.size w w' := by
  have HT := hide hT
  have d1 : decide (200 < (L.length : Int)) = false := decide_eq_false (by omega)
  have HX := hide hx
  have HMC := hide hmc
  have HC := hide hc
  have HM := hide h
  obtain ⟨S, hS⟩ : ∃ S, runsT (ints5 L) = S := ⟨_, rfl⟩
  have HS := hide (show runT (ints5 L) = S from by unfold runT; rw [if_pos hr, hS])
  have HE := hide (show runE (ints5 L) = 0 from by unfold runE; rw [if_pos hr])
  have HZ := hide (show S.size ≤ 1000 from by rw [← hS]; have h1 := runsT_size hr; have h2 := hx.len; omega)
  have HEX := hide (show expR S.data.toList = (L, 0) from by
    rw [← hS, exp_runs hr]
    congr 1
    unfold ints5
    rw [List.map_map]
    conv => rhs; rw [← List.map_id L]
    rfl)
  clear hx hmc hc h hr hS
  clear hT
  go_enter Tryd.func7, Tryd.ntmps7
  have B := Below.refl w.heap.size w
  go_wp2_with fail
  refine (awake_yes _ HT.out).mono ?_
  rintro e w1 ⟨rfl, hb⟩
  replace B := B.trans (hb.mono B.size)
  clear hb
  go_wp2_with fail
  refine (runs_all A _ c (ints5 L) _ (HX.out.below B) HMC.out HC.out (HT.out.below B) S 0 HS.out HE.out).mono ?_
  rintro e w2 ⟨rfl, hb⟩
  replace B := B.trans (hb.mono B.size)
  clear hb
  go_wp2_with fail
  refine (rruns_all A _ c (ints5 L) _ (HX.out.below B) (Nat.le_trans HMC.out HC.out) S 0 HS.out HE.out).mono ?_
  rintro e w3 ⟨rfl, hb⟩
  replace B := B.trans (hb.mono B.size)
  clear hb
  go_wp2_with fail
  refine (expand_any S _ (HT.out.below B) HZ.out L 0 HEX.out).mono ?_
  rintro e w4 ⟨⟨A5, c5, rfl, hrl, -, -⟩, hb⟩
  replace B := B.trans (hb.mono B.size)
  clear hb
  have HRL := hide hrl
  clear hrl
  go_wp2_with fail
  refine (ints_same A5 _ c5 (ints5 L) A c _ (rl_il HRL.out) (HX.out.below B) (by have := HM.out; omega)).mono ?_
  rintro e w5 ⟨rfl, hb⟩
  replace B := B.trans (hb.mono B.size)
  clear hb
  go_wp2_with fail
  go_ret
  exact ⟨rfl, B⟩
theorem runsl_all (A : Option Addr) (m c : Nat) (xs : List Int) (w : World) (hx : IL w A m xs) (hmc : m ≤ c) (hc : c ≤ maxLen) (hT : Lw w) :
    Calls Tryd.prog 7 #[.slice A m c] w fun e w' => e = .returned (.bool true) ∧ Below w.heap.size w w' := by
  by_cases h : m ≤ 200
  · rcases hr : setB 1000 1 xs with _ | _
    · exact run_n A m c xs w hT hx hmc hc h hr
    · have he := ints5_toNat (xs := xs) fun x hx => by have := setB_in 1000 xs 1 hr x hx; omega
      have hl : (xs.map Int.toNat).length = m := by rw [List.length_map]; exact hx.len
      subst hl
      exact run_y A c (xs.map Int.toNat) w hT (by rw [he]; exact hx) hmc hc h (by rw [he]; exact hr)
  · exact run_big A m c w hT (by omega)
end Go.Proofs.YtdoknlodnpeeoaaDoor
