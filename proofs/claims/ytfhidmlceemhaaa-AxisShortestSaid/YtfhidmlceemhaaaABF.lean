/- AxisFixed returns true for every slice of numbers and every number. -/
import Derived.Test.YtfhidmlceemhaaaAV
import Derived.Test.YtfhidmlceemhaaaAN
namespace Go.Proofs.Ytfhidmlceemhaaa
open Go Go.RowKit Go.Lib
open AM
theorem chkSX_pos {l : List Int} {r : Int} (h : chkSX l = r) : r = 0 ∨ r = 7 ∨ r = 6 ∨ r = 1 := h ▸ chkSX_cases l
set_option maxHeartbeats 8000000 in
theorem fix_all (A : Option Addr) (n c : Nat) (l : List Int) (t : Int) (w : World) (hr : IS w A n l) :
    Calls Try.prog 11 #[.slice A n c, .int .i64 t] w fun e w' => e = .returned (.bool true) ∧ Below w.heap.size w w' := by
  have HR := hide hr
  have HN := hide hr.1
  clear hr
  by_cases hf : n ≤ 80
  · have f1 := hide (decide_eq_true hf)
    go_enter Try.func11, Try.ntmps11
    go_wp2_with fail
    refine (awake_yes _).mono ?_
    rintro e w1 ⟨rfl, hb⟩
    have HB := hide hb
    clear hb
    go_wp2_with fail
    refine (few_any A n c _ true f1.out).mono ?_
    rintro e w2 ⟨rfl, rfl⟩
    go_wp2_with fail

    obtain ⟨u, hu⟩ : ∃ u, t % 7 = u := ⟨_, rfl⟩
    have HU := hide hu
    have hu0 : 0 ≤ u := by omega
    have hu6 : u ≤ 6 := by omega
    clear hu
    obtain ⟨r, hr⟩ : ∃ r, chkSX l = r := ⟨_, rfl⟩
    have hrc := chkSX_pos hr
    refine (mod_any t 7 (by decide) (by decide) u HU.out _).mono ?_
    rintro e w3 ⟨rfl, rfl⟩
    go_wp2_with fail
    refine (arc_any A n c l _ (HR.out.keep HB.out)).mono ?_
    rintro e w3 ⟨h, m, rfl, hp, hq, hb⟩
    have HB1 := hide (nxt HB.out hb)
    rw [hr] at hp hq ⊢
    have P := hide hp
    have HRR := hide hr
    clear HB hb hp hq hr
    rcases hrc with rfl | hrc
    · have hpp := P.out rfl
      obtain ⟨v, hv⟩ : ∃ v, fixX l u = v := ⟨_, rfl⟩
      have hm12 : m ≤ 12 := hpp.2.1
      have d1 : decide ((m : Int) ≤ 2 * u + 1) = v := by rw [← hv]; exact (arc_fix HRR.out hpp hu0 hu6).symm
      have w1 : IntKind.i64.wrap (2 * u) = 2 * u := IntWalk.i64_in _ (by omega)
      have w2 : IntKind.i64.wrap (2 * u + 1) = 2 * u + 1 := IntWalk.i64_in _ (by omega)
      have HV := hide hv
      clear hpp hv
      go_wp2_with fail
      refine (fixed_any A n c l u _ (HR.out.keep HB1.out)).mono ?_
      rintro e w4 ⟨rfl, hb⟩
      have HB2 := hide (nxt HB1.out hb)
      rw [HV.out]
      clear HB1 hb
      go_wp2_with fail
      go_ret
      exact ⟨by simp, HB2.out⟩
    · have HV := hide (show fixX l u = false from fixX_no fun h => by have := HRR.out.symm.trans h.1; omega)
      have e0 : (r != 0) = true := by simp; omega
      rcases hrc with rfl | rfl | rfl
      all_goals
        go_wp2_with fail
        refine (fixed_any A n c l u _ (HR.out.keep HB1.out)).mono ?_
        rintro e w4 ⟨rfl, hb⟩
        have HB2 := hide (nxt HB1.out hb)
        rw [HV.out]
        go_wp2_with fail
        go_ret
        exact ⟨rfl, HB2.out⟩
  · have f1 := hide (decide_eq_false hf)
    clear hf
    go_enter Try.func11, Try.ntmps11
    go_wp2_with fail
    refine (awake_yes _).mono ?_
    rintro e w1 ⟨rfl, hb⟩
    have HB := hide hb
    clear hb
    go_wp2_with fail
    refine (few_any A n c _ false f1.out).mono ?_
    rintro e w2 ⟨rfl, rfl⟩
    go_wp2_with fail
    refine (awake_yes _).mono ?_
    rintro e w3 ⟨rfl, hb⟩
    go_wp2_with fail
    go_ret
    exact ⟨rfl, nxt HB.out hb⟩
end Go.Proofs.Ytfhidmlceemhaaa
