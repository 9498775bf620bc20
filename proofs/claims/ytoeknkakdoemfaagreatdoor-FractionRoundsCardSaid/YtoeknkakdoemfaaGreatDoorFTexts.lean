/- The contract of fraction.Text. -/
import Derived.Test.YtoeknkakdoemfaaGreatDoorFText
import Derived.Test.YtoeknkakdoemfaaGreatDoorBaseG
import Derived.Test.YtoeknkakdoemfaaGreatDoorDec
namespace Go.Proofs.YtoeknkakdoemfaaGreatDoor
open Go Go.RowKit

/-- the text of a number -/
def qbody (r : Rat) : ByteArray := if r.den = 1 then strN (asc r.num.natAbs) else strN (asc r.num.natAbs) ++ (strN [47] ++ strN (asc r.den))
def qtext (r : Rat) : ByteArray := if decide (r.num < 0) then strN [45] ++ qbody r else qbody r
theorem qv_le (p : Bool) (u v : Nat) : (qv p u v).num.natAbs ≤ u ∧ (qv p u v).den ≤ v + 1 := by
  by_cases hv : v = 0
  · subst hv
    rw [qv_zero]
    exact ⟨Nat.zero_le _, Nat.le_refl _⟩
  · rw [qv_abs hv, qv_den hv]
    exact ⟨Nat.div_le_self _ _, Nat.le_succ_of_le (Nat.div_le_self _ _)⟩
theorem size_le {u L : Nat} (h : u < B9 ^ (L + 2)) (hL : L ≤ 10000) : (strN (asc u)).size ≤ 1000000 := by
  have h1 : (strN (asc u)).size = (asc u).length := by simp [strN, ByteArray.size]
  rw [h1, asc_len]
  have h2 : nd u ≤ 9 * (L + 2) := nd_pow (by rw [pow_B9] at h; exact h) (by omega)
  omega
set_option maxHeartbeats 1000000 in
theorem ftext_any (L : Nat) (h1L : 1 ≤ L) (hL : L ≤ 10000) (p : Bool) (A : Option Addr) (n c u : Nat) (B : Option Addr) (m d v : Nat) (w : World) (hA : Nt w L A n c u) (hB : Nt w L B m d v) (hT : Tab w) (r : Rat) (hr : qv p u v = r) :
    Calls Tryz.prog 10 #[.agg #[.bool p, .slice A n c, .slice B m d]] w fun e w' => e = .returned (.string (qtext r)) ∧ Below w.heap.size w w' := by
  have HR := hide hr
  have hT2 := hide hT
  have HN := hide (show r.num.natAbs < B9 ^ (L + 2) from by
    rw [← hr]
    exact upB (Nat.lt_of_le_of_lt (qv_le p u v).1 hA.lt) (by omega))
  have HD := hide (show r.den < B9 ^ (L + 2) from by
    rw [← hr]
    have h1 := (qv_le p u v).2
    have h2 := hB.lt
    have h3 : B9 ^ (L + 1) * 2 ≤ B9 ^ (L + 2) := by rw [Nat.pow_succ B9 (L + 1)]; exact Nat.mul_le_mul_left _ (by decide)
    have h4 : 1 ≤ B9 ^ (L + 1) := Nat.pow_pos (by decide)
    omega)
  clear hr hT
  go_enter Tryz.func10, Tryz.ntmps10
  go_wp2_with fail
  generalize hW : w.alloc _ = W
  obtain ⟨hbW, b0, -⟩ := boxesA1 hW
  clear hW
  refine (fnorm_any L h1L (by omega) p A n c u B m d v _ (hA.below hbW) (hB.below hbW) r HR.out).mono ?_
  rintro e w1 ⟨A1, n1, c1, B1, m1, d1, rfl, h1, i1, hb1⟩
  have hbA := hbW.trans (hb1.mono hbW.size)
  clear hb1 hbW b0 hA hB
  have ln := len_le h1.1.len HN.out
  have lm := len_le i1.1.len HD.out
  have z1 := size_le HN.out hL
  have z2 := size_le HD.out hL
  go_wp2_with fail
  obtain ⟨S, hS⟩ : ∃ S, qtext r = S := ⟨_, rfl⟩
  have C : Calls Tryz.prog 31 #[.agg #[.bool (decide (r.num < 0)), .slice A1 n1 c1, .slice B1 m1 d1]] w1 fun e w' => e = .returned (.string S) ∧ Below w1.heap.size w1 w' := by
    rw [← hS]
    by_cases h1d : r.den = 1
    · rw [h1d] at i1
      have hq : qbody r = strN (asc r.num.natAbs) := if_pos h1d
      unfold qtext
      rw [hq]
      exact canonText_whole _ A1 n1 c1 _ B1 m1 d1 _ h1 i1 (by omega) (hT2.out.below hbA) _ rfl z1
    · have hq : qbody r = strN (asc r.num.natAbs) ++ (strN [47] ++ strN (asc r.den)) := if_neg h1d
      unfold qtext
      rw [hq]
      exact canonText_frac _ A1 n1 c1 _ B1 m1 d1 _ h1 _ h1d i1 (by omega) (by omega) (hT2.out.below hbA) _ rfl z1 _ rfl z2
  have HS := hide hS
  clear hS h1 i1 z1 z2
  refine C.mono ?_
  rintro e w2 ⟨rfl, hb2⟩
  have hbZ := hbA.trans (hb2.mono hbA.size)
  clear hb2 C
  go_wp2
  go_ret
  exact ⟨congrArg (fun x => Ending.returned (.string x)) HS.out.symm, hbZ⟩
end Go.Proofs.YtoeknkakdoemfaaGreatDoor
