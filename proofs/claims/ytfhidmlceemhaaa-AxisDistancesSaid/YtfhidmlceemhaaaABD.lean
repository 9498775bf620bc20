/- AxisDistances returns true for every three numbers. -/
import Derived.Test.YtfhidmlceemhaaaAV
namespace Go.Proofs.Ytfhidmlceemhaaa
open Go Go.RowKit Go.Lib
open AM
set_option maxHeartbeats 4000000 in
theorem dis_all (a b c : Int) (w : World) : Calls Try.prog 3 #[.int .i64 a, .int .i64 b, .int .i64 c] w fun e w' => e = .returned (.bool true) ∧ Below w.heap.size w w' := by
  obtain ⟨u, hu⟩ : ∃ u, dsX a b = u := ⟨_, rfl⟩
  have HU := hide hu
  have HV := hide (show dsX b a = u from (dsX_comm b a).trans hu)
  clear hu
  obtain ⟨p, hp⟩ : ∃ p, a % 12 = p := ⟨_, rfl⟩
  obtain ⟨q, hq⟩ : ∃ q, b % 12 = q := ⟨_, rfl⟩
  obtain ⟨s, hs⟩ : ∃ s, c % 12 = s := ⟨_, rfl⟩
  have HP := hide hp
  have HQ := hide hq
  have HS := hide hs
  have hp2 : 0 ≤ p ∧ p < 12 := by omega
  have hq2 : 0 ≤ q ∧ q < 12 := by omega
  have hs2 : 0 ≤ s ∧ s < 12 := by omega
  have h1 := dsX_tri hp2 hq2 hs2
  have h2 := dsX_range ⟨hp2, hq2⟩
  have h3 := dsX_range ⟨hq2, hs2⟩
  have h4 := dsX_range ⟨hp2, hs2⟩
  have h5 := dsX_zero hp2 hq2
  obtain ⟨x, hx⟩ : ∃ x, dsX p q = x := ⟨_, rfl⟩
  obtain ⟨y, hy⟩ : ∃ y, dsX q s = y := ⟨_, rfl⟩
  obtain ⟨z, hz⟩ : ∃ z, dsX p s = z := ⟨_, rfl⟩
  rw [hx] at h1 h2 h5
  rw [hy] at h1 h3
  rw [hz] at h1 h4
  have HX := hide hx
  have HY := hide hy
  have HZ := hide hz
  have w1 : IntKind.i64.wrap (x + y) = x + y := IntWalk.i64_in _ (by omega)
  have d1 : decide (z ≤ x + y) = true := decide_eq_true h1
  have d2 : decide (x ≤ 6) = true := decide_eq_true h2.2
  obtain ⟨v, hv⟩ : ∃ v, (x == 0) = v := ⟨_, rfl⟩
  have hv2 : (p == q) = v := by
    rw [← hv]
    rw [Bool.eq_iff_iff, beq_iff_eq, beq_iff_eq]
    exact h5.symm
  clear hp hq hs hp2 hq2 hs2 h1 h2 h3 h4 h5 hx hy hz
  go_enter Try.func3, Try.ntmps3
  go_wp2_with fail
  refine (awake_yes _).mono ?_
  rintro e w1 ⟨rfl, hb⟩
  have HB := hide hb
  clear hb
  go_wp2_with fail
  refine (dist_any a b u HU.out _).mono ?_
  rintro e w2 ⟨rfl, rfl⟩
  go_wp2_with fail
  refine (rdist_any a b u HU.out _).mono ?_
  rintro e w2 ⟨rfl, rfl⟩
  go_wp2_with fail
  refine (dist_any a b u HU.out _).mono ?_
  rintro e w2 ⟨rfl, rfl⟩
  go_wp2_with fail
  refine (dist_any b a u HV.out _).mono ?_
  rintro e w2 ⟨rfl, rfl⟩
  go_wp2_with fail
  refine (mod_any a 12 (by decide) (by decide) p HP.out _).mono ?_
  rintro e w2 ⟨rfl, rfl⟩
  go_wp2_with fail
  refine (mod_any b 12 (by decide) (by decide) q HQ.out _).mono ?_
  rintro e w2 ⟨rfl, rfl⟩
  go_wp2_with fail
  refine (mod_any c 12 (by decide) (by decide) s HS.out _).mono ?_
  rintro e w2 ⟨rfl, rfl⟩
  go_wp2_with fail
  refine (dist_any p s z HZ.out _).mono ?_
  rintro e w2 ⟨rfl, rfl⟩
  go_wp2_with fail
  refine (dist_any p q x HX.out _).mono ?_
  rintro e w2 ⟨rfl, rfl⟩
  go_wp2_with fail
  refine (dist_any q s y HY.out _).mono ?_
  rintro e w2 ⟨rfl, rfl⟩
  go_wp2_with fail
  refine (dist_any p q x HX.out _).mono ?_
  rintro e w2 ⟨rfl, rfl⟩
  go_wp2_with fail
  refine (dist_any p q x HX.out _).mono ?_
  rintro e w2 ⟨rfl, rfl⟩
  go_wp2_with fail
  go_ret
  exact ⟨rfl, HB.out⟩
end Go.Proofs.Ytfhidmlceemhaaa
