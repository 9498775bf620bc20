/- The contract of fraction.Sign. -/
import Derived.Test.YtoeknkakdoemfaaGreatDoorFProd
import Derived.Deep.RegionHeld3
namespace Go.Proofs.YtoeknkakdoemfaaGreatDoor
open Go Go.RowKit

/-- the sign of a fraction -/
def sg (p : Bool) (u v : Nat) : Int := if u = 0 then 0 else if v = 0 then 0 else if p then -1 else 1
theorem sg_sign (p : Bool) (u v : Nat) : sg p u v = (qv p u v).num.sign := by
  unfold sg
  by_cases hv : v = 0
  · subst hv
    rw [qv_zero]
    by_cases hu : u = 0 <;> simp [hu]
  · rw [qv_num hv, if_neg hv]
    by_cases hu : u = 0
    · subst hu
      cases p <;> simp
    · rw [if_neg hu]
      have hk : 0 < u / Nat.gcd u v := Nat.div_pos (Nat.gcd_le_left _ (Nat.pos_of_ne_zero hu)) (Nat.gcd_pos_of_pos_left _ (Nat.pos_of_ne_zero hu))
      generalize u / Nat.gcd u v = k at hk
      cases p
      · simp only [if_false, Bool.false_eq_true]
        exact (Int.sign_eq_one_of_pos (by omega)).symm
      · simp only [if_true]
        exact (Int.sign_eq_neg_one_of_neg (by omega)).symm
set_option maxHeartbeats 1000000 in
theorem fsign_any (L : Nat) (hL : L ≤ 20000) (p : Bool) (A : Option Addr) (n c u : Nat) (B : Option Addr) (m d v : Nat) (w : World) (hA : Nt w L A n c u) (hB : Nt w L B m d v) (r : Int) (hr : sg p u v = r) :
    Calls Tryz.prog 29 #[.agg #[.bool p, .slice A n c, .slice B m d]] w fun e w' => e = .returned (.int .i64 r) ∧ Below w.heap.size w w' := by
  by_cases hu : u = 0
  · obtain rfl : r = 0 := by rw [← hr, sg, if_pos hu]
    clear hr
    have HU := hide hu
    clear hu
    go_enter Tryz.func29, Tryz.ntmps29
    go_wp2_with fail
    generalize hW : w.alloc _ = W
    obtain ⟨hbW, b0, -⟩ := boxesA1 hW
    clear hW
    refine (isZero_any L (by omega) A n c u _ (hA.below hbW) true (by rw [HU.out]; rfl)).mono ?_
    rintro e w1 ⟨rfl, hb1⟩
    have hbA := hbW.trans (hb1.mono hbW.size)
    clear hb1 hbW hA hB b0
    go_wp2
    go_ret
    exact ⟨rfl, hbA⟩
  · by_cases hv : v = 0
    · obtain rfl : r = 0 := by rw [← hr, sg, if_neg hu, if_pos hv]
      clear hr
      have HU := hide hu
      have HV := hide hv
      clear hu hv
      go_enter Tryz.func29, Tryz.ntmps29
      go_wp2_with fail
      generalize hW : w.alloc _ = W
      obtain ⟨hbW, b0, -⟩ := boxesA1 hW
      clear hW
      refine (isZero_any L (by omega) A n c u _ (hA.below hbW) false (by simp [HU.out])).mono ?_
      rintro e w1 ⟨rfl, hb1⟩
      have hbA := hbW.trans (hb1.mono hbW.size)
      have hB := hB.below hbA
      have b0 := b0.below' hb1
      have k2 : w1.cell? ⟨w.heap.size, 2, none⟩ = some (.slice B m d) := b0.at_ 2
      clear hb1 hbW hA
      go_wp2_with fail
      refine (isZero_any L (by omega) B m d v _ hB true (by rw [HV.out]; rfl)).mono ?_
      rintro e w2 ⟨rfl, hb2⟩
      have hbA := hbA.trans (hb2.mono hbA.size)
      clear hb2 hB k2 b0
      go_wp2
      go_ret
      exact ⟨rfl, hbA⟩
    · have hr2 : (if p then -1 else 1) = r := by rw [← hr, sg, if_neg hu, if_neg hv]
      have HR := hide hr2
      clear hr hr2
      have HU := hide hu
      have HV := hide hv
      clear hu hv
      go_enter Tryz.func29, Tryz.ntmps29
      go_wp2_with fail
      generalize hW : w.alloc _ = W
      obtain ⟨hbW, b0, -⟩ := boxesA1 hW
      clear hW
      refine (isZero_any L (by omega) A n c u _ (hA.below hbW) false (by simp [HU.out])).mono ?_
      rintro e w1 ⟨rfl, hb1⟩
      have hbA := hbW.trans (hb1.mono hbW.size)
      have hB := hB.below hbA
      have b0 := b0.below' hb1
      have k2 : w1.cell? ⟨w.heap.size, 2, none⟩ = some (.slice B m d) := b0.at_ 2
      clear hb1 hbW hA
      go_wp2_with fail
      refine (isZero_any L (by omega) B m d v _ hB false (by simp [HV.out])).mono ?_
      rintro e w2 ⟨rfl, hb2⟩
      have hbA := hbA.trans (hb2.mono hbA.size)
      have b0 := b0.below' hb2
      have k0 : w2.cell? ⟨w.heap.size, 0, none⟩ = some (.bool p) := b0.at_ 0
      clear hb2 hB k2 b0
      cases p
      · obtain rfl : r = 1 := HR.out.symm
        go_wp2
        go_ret
        exact ⟨rfl, hbA⟩
      · obtain rfl : r = -1 := HR.out.symm
        go_wp2
        go_ret
        exact ⟨rfl, hbA⟩
end Go.Proofs.YtoeknkakdoemfaaGreatDoor
