/- AxisCounts returns true for every slice of numbers and every number. -/
import Derived.Test.YtfhidmlceemhaaaAV
namespace Go.Proofs.Ytfhidmlceemhaaa
open Go Go.RowKit Go.Lib
open AM
theorem cntX_len (l : List Int) : (cntX l).length ≤ 12 := by
  unfold cntX
  split
  · unfold castL; rw [List.length_map, ctL_len]; exact Nat.le_refl _
  · exact Nat.zero_le _
theorem turnX_len (l : List Int) (t : Int) : (turnX l t).length ≤ 64 := by
  unfold turnX
  split
  · rename_i h; rw [List.length_map]; exact (chkX_ok.1 h).1
  · exact Nat.zero_le _
set_option maxHeartbeats 8000000 in
theorem cou_all (A : Option Addr) (n c : Nat) (l : List Int) (t : Int) (w : World) (hr : IS w A n l) :
    Calls Try.prog 4 #[.slice A n c, .int .i64 t] w fun e w' => e = .returned (.bool true) ∧ Below w.heap.size w w' := by
  have HR := hide hr
  have HN := hide hr.1
  clear hr
  by_cases hf : n ≤ 80
  · have f1 := hide (decide_eq_true hf)
    go_enter Try.func4, Try.ntmps4
    go_wp2_with fail
    refine (awake_yes _).mono ?_
    rintro e w1 ⟨rfl, hb⟩
    have HB := hide hb
    clear hb
    go_wp2_with fail
    refine (few_any A n c _ true f1.out).mono ?_
    rintro e w2 ⟨rfl, rfl⟩
    go_wp2_with fail

    obtain ⟨r, hrr⟩ : ∃ r, chkX l = r := ⟨_, rfl⟩
    refine (counts_any A n c l _ (HR.out.keep HB.out)).mono ?_
    rintro e w3 ⟨A1, n1, c1, rfl, r1, hb⟩
    have HB1 := hide (nxt HB.out hb)
    rw [hrr]
    have H1 := hide r1
    clear HB hb r1
    go_wp2_with fail
    refine (rcounts_any A n c l _ (HR.out.keep HB1.out)).mono ?_
    rintro e w4 ⟨A2, n2, c2, rfl, r2, hb⟩
    have HB2 := hide (nxt HB1.out hb)
    replace H1 := hide (H1.out.keep hb)
    have H2 := hide r2
    rw [hrr]
    clear HB1 hb r2
    go_wp2_with fail
    refine (turned_any A n c l t _ (HR.out.keep HB2.out)).mono ?_
    rintro e w5 ⟨A3, n3, c3, rfl, r3, hb⟩
    have HB3 := hide (nxt HB2.out hb)
    replace H1 := hide (H1.out.keep hb)
    replace H2 := hide (H2.out.keep hb)
    have H3 := hide r3
    rw [hrr]
    clear HB2 hb r3
    go_wp2_with fail
    refine (rturned_any A n c l t _ (HR.out.keep HB3.out)).mono ?_
    rintro e w6 ⟨A4, n4, c4, rfl, r4, hb⟩
    have HB4 := hide (nxt HB3.out hb)
    replace H1 := hide (H1.out.keep hb)
    replace H2 := hide (H2.out.keep hb)
    replace H3 := hide (H3.out.keep hb)
    have H4 := hide r4
    rw [hrr]
    clear HB3 hb r4 hrr
    go_wp2_with fail
    refine (ints_any A1 n1 c1 (cntX l) A2 n2 c2 (cntX l) _ H1.out H2.out (by rw [← H1.out.1]; exact Nat.le_trans (cntX_len l) (by decide)) true (decide_eq_true rfl)).mono ?_
    rintro e w7 ⟨rfl, hb⟩
    have HB5 := hide (nxt HB4.out hb)
    replace H3 := hide (H3.out.keep hb)
    replace H4 := hide (H4.out.keep hb)
    clear HB4 hb H1 H2
    go_wp2_with fail
    refine (ints_any A3 n3 c3 (turnX l t) A4 n4 c4 (turnX l t) _ H3.out H4.out (by rw [← H3.out.1]; exact Nat.le_trans (turnX_len l t) (by decide)) true (decide_eq_true rfl)).mono ?_
    rintro e w8 ⟨rfl, hb⟩
    have HB6 := hide (nxt HB5.out hb)
    clear HB5 hb
    go_wp2_with fail
    go_ret
    exact ⟨rfl, HB6.out⟩
  · have f1 := hide (decide_eq_false hf)
    clear hf
    go_enter Try.func4, Try.ntmps4
    go_wp2_with fail
    refine (awake_yes _).mono ?_
    rintro e w1 ⟨rfl, hb⟩
    have HB := hide hb
    clear hb
    go_wp2_with fail
    refine (few_any A n c _ false f1.out).mono ?_
    rintro e w2 ⟨rfl, rfl⟩
    go_wp2_with fail
    refine (awake_yes _).mono ?_
    rintro e w3 ⟨rfl, hb⟩
    go_wp2_with fail
    go_ret
    exact ⟨rfl, nxt HB.out hb⟩
end Go.Proofs.Ytfhidmlceemhaaa
