/- AxisArcs returns true for every slice of numbers. -/
import Derived.Test.YtfhidmlceemhaaaAV
namespace Go.Proofs.Ytfhidmlceemhaaa
open Go Go.RowKit Go.Lib
open AM
set_option maxHeartbeats 8000000 in
theorem arc_all (A : Option Addr) (n c : Nat) (l : List Int) (w : World) (hr : IS w A n l) :
    Calls Try.prog 5 #[.slice A n c] w fun e w' => e = .returned (.bool true) ∧ Below w.heap.size w w' := by
  have HR := hide hr
  have HN := hide hr.1
  clear hr
  by_cases hf : n ≤ 80
  · have f1 := hide (decide_eq_true hf)
    go_enter Try.func5, Try.ntmps5
    go_wp2_with fail
    refine (awake_yes _).mono ?_
    rintro e w1 ⟨rfl, hb⟩
    have HB := hide hb
    clear hb
    go_wp2_with fail
    refine (few_any A n c _ true f1.out).mono ?_
    rintro e w2 ⟨rfl, rfl⟩
    go_wp2_with fail

    obtain ⟨r1, hr1⟩ : ∃ r, chkSX l = r := ⟨_, rfl⟩

    refine (arc_any A n c l _ (HR.out.keep HB.out)).mono ?_
    rintro e w3 ⟨h1, m1, rfl, p1, q1, hb⟩
    have HB1 := hide (nxt HB.out hb)
    rw [hr1] at p1 q1 ⊢
    clear HB hb
    have P1 := hide p1
    have Q1 := hide q1
    clear p1 q1
    go_wp2_with fail
    refine (rarc_any A n c l _ (HR.out.keep HB1.out)).mono ?_
    rintro e w4 ⟨i1, j1, rfl, p1, q1, hb⟩
    have HB2 := hide (nxt HB1.out hb)
    rw [hr1] at p1 q1 ⊢
    obtain ⟨rfl, rfl⟩ : i1 = h1 ∧ j1 = m1 := by
      by_cases hz : r1 = 0
      · exact (p1 hz).uniq (P1.out hz)
      · exact ⟨(q1 hz).1.trans (Q1.out hz).1.symm, (q1 hz).2.trans (Q1.out hz).2.symm⟩
    clear HB1 hb p1 q1 P1 Q1
    go_wp2_with fail

    have hr2 := hr1

    refine (median_any A n c l _ (HR.out.keep HB2.out)).mono ?_
    rintro e w5 ⟨h2, m2, rfl, p2, q2, hb⟩
    have HB3 := hide (nxt HB2.out hb)
    rw [hr2] at p2 q2 ⊢
    clear HB2 hb
    have P2 := hide p2
    have Q2 := hide q2
    clear p2 q2
    go_wp2_with fail
    refine (rmed_any A n c l _ (HR.out.keep HB3.out)).mono ?_
    rintro e w6 ⟨i2, j2, rfl, p2, q2, hb⟩
    have HB4 := hide (nxt HB3.out hb)
    rw [hr2] at p2 q2 ⊢
    obtain ⟨rfl, rfl⟩ : i2 = h2 ∧ j2 = m2 := by
      by_cases hz : r1 = 0
      · exact (p2 hz).uniq (P2.out hz)
      · exact ⟨(q2 hz).1.trans (Q2.out hz).1.symm, (q2 hz).2.trans (Q2.out hz).2.symm⟩
    clear HB3 hb p2 q2 P2 Q2
    go_wp2_with fail

    go_ret
    exact ⟨rfl, HB4.out⟩
  · have f1 := hide (decide_eq_false hf)
    clear hf
    go_enter Try.func5, Try.ntmps5
    go_wp2_with fail
    refine (awake_yes _).mono ?_
    rintro e w1 ⟨rfl, hb⟩
    have HB := hide hb
    clear hb
    go_wp2_with fail
    refine (few_any A n c _ false f1.out).mono ?_
    rintro e w2 ⟨rfl, rfl⟩
    go_wp2_with fail
    refine (awake_yes _).mono ?_
    rintro e w3 ⟨rfl, hb⟩
    go_wp2_with fail
    go_ret
    exact ⟨rfl, nxt HB.out hb⟩
end Go.Proofs.Ytfhidmlceemhaaa
