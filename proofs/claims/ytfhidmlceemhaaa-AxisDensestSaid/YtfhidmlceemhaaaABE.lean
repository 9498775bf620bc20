/- AxisDensest returns true for every slice of numbers and every number. -/
import Derived.Test.YtfhidmlceemhaaaAV
namespace Go.Proofs.Ytfhidmlceemhaaa
open Go Go.RowKit Go.Lib
open AM
set_option maxHeartbeats 8000000 in
theorem den_all (A : Option Addr) (n c : Nat) (l : List Int) (k : Int) (w : World) (hr : IS w A n l) :
    Calls Try.prog 6 #[.slice A n c, .int .i64 k] w fun e w' => e = .returned (.bool true) ∧ Below w.heap.size w w' := by
  have HR := hide hr
  have HN := hide hr.1
  clear hr
  by_cases hf : n ≤ 80
  · have f1 := hide (decide_eq_true hf)
    go_enter Try.func6, Try.ntmps6
    go_wp2_with fail
    refine (awake_yes _).mono ?_
    rintro e w1 ⟨rfl, hb⟩
    have HB := hide hb
    clear hb
    go_wp2_with fail
    refine (few_any A n c _ true f1.out).mono ?_
    rintro e w2 ⟨rfl, rfl⟩
    go_wp2_with fail

    obtain ⟨r1, hr1⟩ : ∃ r, chkDX l k = r := ⟨_, rfl⟩

    refine (den_any A n c l k _ (HR.out.keep HB.out)).mono ?_
    rintro e w3 ⟨h1, m1, rfl, p1, q1, hb⟩
    have HB1 := hide (nxt HB.out hb)
    rw [hr1] at p1 q1 ⊢
    clear HB hb
    have P1 := hide p1
    have Q1 := hide q1
    clear p1 q1
    go_wp2_with fail
    refine (rden_any A n c l k _ (HR.out.keep HB1.out)).mono ?_
    rintro e w4 ⟨i1, j1, rfl, p1, q1, hb⟩
    have HB2 := hide (nxt HB1.out hb)
    rw [hr1] at p1 q1 ⊢
    obtain ⟨rfl, rfl⟩ : i1 = h1 ∧ j1 = m1 := by
      by_cases hz : r1 = 0
      · exact (p1 hz).uniq (P1.out hz)
      · exact ⟨(q1 hz).1.trans (Q1.out hz).1.symm, (q1 hz).2.trans (Q1.out hz).2.symm⟩
    clear HB1 hb p1 q1 P1 Q1
    go_wp2_with fail

    refine (fixed_any A n c l k _ (HR.out.keep HB2.out)).mono ?_
    rintro e w7 ⟨rfl, hb⟩
    have HB3 := hide (nxt HB2.out hb)
    clear hb HB2
    obtain ⟨v, hv⟩ : ∃ v, fixX l k = v := ⟨_, rfl⟩
    have HV := hide hv
    rw [hv]
    clear hv
    go_wp2_with fail
    refine (rfixed_any A n c l k _ (HR.out.keep HB3.out)).mono ?_
    rintro e w8 ⟨rfl, hb⟩
    have HB4 := hide (nxt HB3.out hb)
    clear hb HB3
    rw [HV.out]
    go_wp2_with fail
    go_ret
    exact ⟨rfl, HB4.out⟩
  · have f1 := hide (decide_eq_false hf)
    clear hf
    go_enter Try.func6, Try.ntmps6
    go_wp2_with fail
    refine (awake_yes _).mono ?_
    rintro e w1 ⟨rfl, hb⟩
    have HB := hide hb
    clear hb
    go_wp2_with fail
    refine (few_any A n c _ false f1.out).mono ?_
    rintro e w2 ⟨rfl, rfl⟩
    go_wp2_with fail
    refine (awake_yes _).mono ?_
    rintro e w3 ⟨rfl, hb⟩
    go_wp2_with fail
    go_ret
    exact ⟨rfl, nxt HB.out hb⟩
end Go.Proofs.Ytfhidmlceemhaaa
