/- The order of fractions: the walk. -/
import Derived.Test.YtanhofmgapbjfaaDoorField
import Derived.Test.YtanhofmgapbjfaaDoorBaseN
namespace Go.Proofs.YtanhofmgapbjfaaDoor
open Go Go.RowKit

set_option maxHeartbeats 16000000 in
set_option maxRecDepth 100000 in
theorem order_yes (HA : Hid Awake) (pa : Bool) (Aa : Option Addr) (na ca : Nat) (Ba : Option Addr) (ma da : Nat) (pb : Bool) (Ab : Option Addr) (nb cb : Nat) (Bb : Option Addr) (mb db : Nat) (pc : Bool) (Ac : Option Addr) (nc cc : Nat) (Bc : Option Addr) (mc dc : Nat) (x y z : Rat) (w : World) (hx : Fr w 6 pa Aa na ca Ba ma da x) (hy : Fr w 6 pb Ab nb cb Bb mb db y) (hz : Fr w 6 pc Ac nc cc Bc mc dc z) (hT : Tab w) (hf : (na ≤ 6 ∧ ma ≤ 6) ∧ (nb ≤ 6 ∧ mb ≤ 6) ∧ nc ≤ 6 ∧ mc ≤ 6) :
    Calls Tryd.prog 8 #[.agg #[.bool pa, .slice Aa na ca, .slice Ba ma da], .agg #[.bool pb, .slice Ab nb cb, .slice Bb mb db], .agg #[.bool pc, .slice Ac nc cc, .slice Bc mc dc]] w fun e w' => e = .returned (.bool true) ∧ Below w.heap.size w w' := by
  have HFW := hide hf
  clear hf
  have TX := hx.ht
  have TY := hy.ht
  have TZ := hz.ht
  have T1 := hide (show Ht (x) 40 from Ht.up TX (by omega))
  have T0 := hide (show Ht (y) 40 from Ht.up TY (by omega))
  have T2 := hide (show Ht (x + z) 40 from Ht.up (TX.add TZ) (by omega))
  have T3 := hide (show Ht (y + z) 40 from Ht.up (TY.add TZ) (by omega))
  have T4 := hide (show Ht (x * z) 40 from Ht.up (TX.mul TZ) (by omega))
  have T5 := hide (show Ht (y * z) 40 from Ht.up (TY.mul TZ) (by omega))
  have T6 := hide (show Ht ((x.floor : Rat)) 40 from Ht.up (TX.floor (by omega)) (by omega))
  have T7 := hide (show Ht (1) 40 from Ht.up (Ht.int (k := 1) (i := 1) (by decide) (by omega)) (by omega))
  have T8 := hide (show Ht ((x.floor : Rat) + 1) 40 from Ht.up ((TX.floor (by omega)).add (Ht.int (k := 1) (i := 1) (by decide) (by omega))) (by omega))
  clear TX TY TZ
  obtain ⟨n, hn⟩ : ∃ n, cs x y = n := ⟨_, rfl⟩
  obtain ⟨q, hq⟩ : ∃ q, cs y z = q := ⟨_, rfl⟩
  obtain ⟨r, hr⟩ : ∃ r, cs x z = r := ⟨_, rfl⟩
  obtain ⟨s, hs⟩ : ∃ s, z.num.sign = s := ⟨_, rfl⟩
  obtain ⟨t, ht⟩ : ∃ t, cs (x * z) (y * z) = t := ⟨_, rfl⟩
  obtain ⟨b0, hb0⟩ : ∃ b0, decide (x = y) = b0 := ⟨_, rfl⟩
  obtain ⟨v, hv⟩ : ∃ v, cs (x.floor : Rat) x = v := ⟨_, rfl⟩
  obtain ⟨u, hu⟩ : ∃ u, cs x ((x.floor : Rat) + 1) = u := ⟨_, rfl⟩
  have N1 : -1 ≤ n := by rw [← hn]; exact sign_lo _
  have N2 : n ≤ 1 := by rw [← hn]; exact sign_hi _
  have S1 : -1 ≤ s := by rw [← hs]; exact sign_lo _
  have S2 : s ≤ 1 := by rw [← hs]; exact sign_hi _
  have hts : n * s = t := by rw [← hn, ← hs, ← ht, cs_mul]
  have T1' : -1 ≤ t := by rw [← ht]; exact sign_lo _
  have T2' : t ≤ 1 := by rw [← ht]; exact sign_hi _
  have WN : IntKind.i64.wrap n = n := IntWalk.i64_in _ (by omega)
  have WT : IntKind.i64.wrap (n * s) = t := by rw [hts]; exact IntWalk.i64_in _ (by omega)
  have D1 : decide (n < -1) = false := by simp; omega
  have D2 : decide (1 < n) = false := by simp; omega
  have D3 : (n == 0) = b0 := by
    rw [← hb0, Bool.eq_iff_iff, beq_iff_eq, decide_eq_true_iff, ← hn]
    exact cs_zero x y
  have D4 : decide (v ≤ 0) = true := by simp; rw [← hv]; exact floor_le' x
  have D5 : decide (u < 0) = true := by simp; rw [← hu]; exact lt_floor' x
  have HTR := hide (show n ≤ 0 → q ≤ 0 → r ≤ 0 from by rw [← hn, ← hq, ← hr]; exact cs_trans)
  have HN := hide hn
  have HM := hide (show cs y x = -n from by rw [cs_swap, hn])
  have HQ := hide hq
  have HR := hide hr
  have HS := hide hs
  have HT := hide ht
  have HB := hide hb0
  have HV := hide hv
  have HU := hide hu
  clear hn hq hr hs ht hb0 hv hu N1 N2 S1 S2 hts T1' T2'
  go_enter Tryd.func8, Tryd.ntmps8
  go_wp2_with fail
  generalize hW : ((w.alloc _).alloc _).alloc _ = W
  obtain ⟨hbW, ba, bb, bc, -⟩ := boxesA3 hW
  clear hW
  refine (HA.out _ (hT.below hbW)).mono ?_
  rintro e w1 ⟨rfl, hb1⟩
  have hbA := hbW.trans (hb1.mono hbW.size)
  have ba := ba.below' hb1
  have bb := bb.below' hb1
  have bc := bc.below' hb1
  have hx := hx.below hbA
  have hy := hy.below hbA
  have hz := hz.below hbA
  clear hb1 hbW
  have k0 : w1.cell? ⟨w.heap.size, 0, none⟩ = some (.bool pa) := ba.at_ 0
  have k1 : w1.cell? ⟨w.heap.size, 1, none⟩ = some (.slice Aa na ca) := ba.at_ 1
  have k2 : w1.cell? ⟨w.heap.size, 2, none⟩ = some (.slice Ba ma da) := ba.at_ 2
  have lt0 := ba.lt
  have k3 : w1.cell? ⟨w.heap.size + 1, 0, none⟩ = some (.bool pb) := bb.at_ 0
  have k4 : w1.cell? ⟨w.heap.size + 1, 1, none⟩ = some (.slice Ab nb cb) := bb.at_ 1
  have k5 : w1.cell? ⟨w.heap.size + 1, 2, none⟩ = some (.slice Bb mb db) := bb.at_ 2
  have lt1 := bb.lt
  have k6 : w1.cell? ⟨w.heap.size + 1 + 1, 0, none⟩ = some (.bool pc) := bc.at_ 0
  have k7 : w1.cell? ⟨w.heap.size + 1 + 1, 1, none⟩ = some (.slice Ac nc cc) := bc.at_ 1
  have k8 : w1.cell? ⟨w.heap.size + 1 + 1, 2, none⟩ = some (.slice Bc mc dc) := bc.at_ 2
  have lt2 := bc.lt
  go_wp2_with fail
  clear k0 k1 k2 k3 k4 k5 k6 k7 k8 lt0 lt1 lt2
  generalize hW : w1.alloc _ = W1
  obtain ⟨hb, hfew⟩ := few3 hW
  have bS := (boxesA1 hW).2.1
  clear hW bS
  have hbA := hbA.trans (hb.mono hbA.size)
  have ba := ba.below' hb
  have bb := bb.below' hb
  have bc := bc.below' hb
  have hx := hx.below hb
  have hy := hy.below hb
  have hz := hz.below hb
  clear hb
  refine (few_any _ 3 3 _ _ _ (by simp [maxLen]) hfew true (by rw [isFew3]; simp [HFW.out])).mono ?_
  rintro e w2 ⟨rfl, rfl⟩
  clear hfew
  have k0 : w2.cell? ⟨w.heap.size, 0, none⟩ = some (.bool pa) := ba.at_ 0
  have k1 : w2.cell? ⟨w.heap.size, 1, none⟩ = some (.slice Aa na ca) := ba.at_ 1
  have k2 : w2.cell? ⟨w.heap.size, 2, none⟩ = some (.slice Ba ma da) := ba.at_ 2
  have lt0 := ba.lt
  have k3 : w2.cell? ⟨w.heap.size + 1, 0, none⟩ = some (.bool pb) := bb.at_ 0
  have k4 : w2.cell? ⟨w.heap.size + 1, 1, none⟩ = some (.slice Ab nb cb) := bb.at_ 1
  have k5 : w2.cell? ⟨w.heap.size + 1, 2, none⟩ = some (.slice Bb mb db) := bb.at_ 2
  have lt1 := bb.lt
  have k6 : w2.cell? ⟨w.heap.size + 1 + 1, 0, none⟩ = some (.bool pc) := bc.at_ 0
  have k7 : w2.cell? ⟨w.heap.size + 1 + 1, 1, none⟩ = some (.slice Ac nc cc) := bc.at_ 1
  have k8 : w2.cell? ⟨w.heap.size + 1 + 1, 2, none⟩ = some (.slice Bc mc dc) := bc.at_ 2
  have lt2 := bc.lt
  go_wp2_with fail
  clear k0 k1 k2 k3 k4 k5 k6 k7 k8
  have KX : Hid (∀ w', Below w2.heap.size w2 w' → Fr w' 40 pa Aa na ca Ba ma da x) := fun w' h => (hx.below h).up (by omega)
  have KY : Hid (∀ w', Below w2.heap.size w2 w' → Fr w' 40 pb Ab nb cb Bb mb db y) := fun w' h => (hy.below h).up (by omega)
  have KZ : Hid (∀ w', Below w2.heap.size w2 w' → Fr w' 40 pc Ac nc cc Bc mc dc z) := fun w' h => (hz.below h).up (by omega)
  have KT : Hid (∀ w', Below w2.heap.size w2 w' → w'.cell? ⟨w.heap.size, 0, none⟩ = some (.bool pa) ∧ w'.cell? ⟨w.heap.size, 1, none⟩ = some (.slice Aa na ca) ∧ w'.cell? ⟨w.heap.size, 2, none⟩ = some (.slice Ba ma da) ∧ w'.cell? ⟨w.heap.size + 1, 0, none⟩ = some (.bool pb) ∧ w'.cell? ⟨w.heap.size + 1, 1, none⟩ = some (.slice Ab nb cb) ∧ w'.cell? ⟨w.heap.size + 1, 2, none⟩ = some (.slice Bb mb db) ∧ w'.cell? ⟨w.heap.size + 1 + 1, 0, none⟩ = some (.bool pc) ∧ w'.cell? ⟨w.heap.size + 1 + 1, 1, none⟩ = some (.slice Ac nc cc) ∧ w'.cell? ⟨w.heap.size + 1 + 1, 2, none⟩ = some (.slice Bc mc dc)) := fun w' h =>
    ⟨(ba.below h lt0).at_ 0, (ba.below h lt0).at_ 1, (ba.below h lt0).at_ 2, (bb.below h lt1).at_ 0, (bb.below h lt1).at_ 1, (bb.below h lt1).at_ 2, (bc.below h lt2).at_ 0, (bc.below h lt2).at_ 1, (bc.below h lt2).at_ 2⟩
  have R0 : Below w2.heap.size w2 w2 := Below.refl _ _
  refine (fcmp_f (L := 40) (KX.out _ R0) (KY.out _ R0) (by omega) (by omega) n HN.out).mono ?_
  rintro e w3 ⟨rfl, hb3⟩
  have E3 : Below w2.heap.size w2 w3 := hb3
  clear hb3 R0 ba bb bc hx hy hz
  go_wp2_with fail
  have P0 : Below w2.heap.size w2 w3.drew := E3.drew
  go_region_held3 (fun w' => w'.cell? ⟨w.heap.size, 0, none⟩ = some (.bool pa) ∧ w'.cell? ⟨w.heap.size, 1, none⟩ = some (.slice Aa na ca) ∧ w'.cell? ⟨w.heap.size, 2, none⟩ = some (.slice Ba ma da) ∧ w'.cell? ⟨w.heap.size + 1, 0, none⟩ = some (.bool pb) ∧ w'.cell? ⟨w.heap.size + 1, 1, none⟩ = some (.slice Ab nb cb) ∧ w'.cell? ⟨w.heap.size + 1, 2, none⟩ = some (.slice Bb mb db) ∧ w'.cell? ⟨w.heap.size + 1 + 1, 0, none⟩ = some (.bool pc) ∧ w'.cell? ⟨w.heap.size + 1 + 1, 1, none⟩ = some (.slice Ac nc cc) ∧ w'.cell? ⟨w.heap.size + 1 + 1, 2, none⟩ = some (.slice Bc mc dc))
    (first | exact KT.out _ E7 | exact KT.out _ E6 | exact KT.out _ E5 | exact KT.out _ E4 | exact KT.out _ P0 | exact KT.out _ (Below.refl _ _))
    (first
      | (go_at_call_of 26 (Value.slice Ab nb cb); (with_reducible refine (fcmp_f (L := 40) (KY.out _ P0) (KX.out _ P0) (by omega) (by omega) (-n) HM.out).mono ?_); rintro e w4 ⟨rfl, hb4⟩; have E4 : Below w2.heap.size w2 w4 := (P0).trans (hb4.mono (P0).size))
      | (go_at_call_of 14 (Value.slice Aa na ca); (with_reducible refine (fnorm_f (L := 40) (KX.out _ E4) (by omega) (by omega)).mono ?_); rintro e w5 ⟨p5, A5, n5, c5, B5, m5, d5, rfl, h5, hb5⟩; have E5 : Below w2.heap.size w2 w5 := (E4).trans (hb5.mono (E4).size))
      | (go_at_call_of 14 (Value.slice Ab nb cb); (with_reducible refine (fnorm_f (L := 40) (KY.out _ E5) (by omega) (by omega)).mono ?_); rintro e w6 ⟨p6, A6, n6, c6, B6, m6, d6, rfl, h6, hb6⟩; have E6 : Below w2.heap.size w2 w6 := (E5).trans (hb6.mono (E5).size))
      | (go_at_call_of 11 (Value.slice A5 n5 c5); (with_reducible refine (fbase_d (h5.below hb6) h6 T1.out (by omega) b0 HB.out).mono ?_); rintro e w7 ⟨rfl, hb7⟩; have E7 : Below w2.heap.size w2 w7 := (E6).trans (hb7.mono (E6).size)))
  clear E4 E5 E6 hb4 hb5 hb6 hb7 h5 h6
  clear P0 E3
  have P1 : Below w2.heap.size w2 w7.drew := E7.drew
  go_wp2_with fail
  go_region_held3 (fun w' => w'.cell? ⟨w.heap.size, 0, none⟩ = some (.bool pa) ∧ w'.cell? ⟨w.heap.size, 1, none⟩ = some (.slice Aa na ca) ∧ w'.cell? ⟨w.heap.size, 2, none⟩ = some (.slice Ba ma da) ∧ w'.cell? ⟨w.heap.size + 1, 0, none⟩ = some (.bool pb) ∧ w'.cell? ⟨w.heap.size + 1, 1, none⟩ = some (.slice Ab nb cb) ∧ w'.cell? ⟨w.heap.size + 1, 2, none⟩ = some (.slice Bb mb db) ∧ w'.cell? ⟨w.heap.size + 1 + 1, 0, none⟩ = some (.bool pc) ∧ w'.cell? ⟨w.heap.size + 1 + 1, 1, none⟩ = some (.slice Ac nc cc) ∧ w'.cell? ⟨w.heap.size + 1 + 1, 2, none⟩ = some (.slice Bc mc dc))
    (first | exact KT.out _ E14 | exact KT.out _ E13 | exact KT.out _ E12 | exact KT.out _ E11 | exact KT.out _ E10 | exact KT.out _ E9 | exact KT.out _ E8 | exact KT.out _ P1 | exact KT.out _ E7)
    (first
      | (go_at_call_of 20 (Value.slice Aa na ca); (with_reducible refine (fadd_f (L := 40) (KX.out _ P1) (KZ.out _ P1) (by omega) (by omega) (x + z) rfl).mono ?_); rintro e w8 ⟨p8, A8, n8, c8, B8, m8, d8, rfl, h8, hb8⟩; have E8 : Below w2.heap.size w2 w8 := (P1).trans (hb8.mono (P1).size))
      | (go_at_call_of 20 (Value.slice Ab nb cb); (with_reducible refine (fadd_f (L := 40) (KY.out _ E8) (KZ.out _ E8) (by omega) (by omega) (y + z) rfl).mono ?_); rintro e w9 ⟨p9, A9, n9, c9, B9, m9, d9, rfl, h9, hb9⟩; have E9 : Below w2.heap.size w2 w9 := (E8).trans (hb9.mono (E8).size))
      | (go_at_call_of 26 (Value.slice A8 n8 c8); (with_reducible refine (fcmp_f (L := 40) (Fc.fr (h8.below hb9) T2.out) (Fc.fr h9 T3.out) (by omega) (by omega) (n) ((cs_add x y z).trans HN.out)).mono ?_); rintro e w10 ⟨rfl, hb10⟩; have E10 : Below w2.heap.size w2 w10 := (E9).trans (hb10.mono (E9).size))
      | (go_at_call_of 24 (Value.slice Aa na ca); (with_reducible refine (fmul_f (L := 40) (KX.out _ E10) (KZ.out _ E10) (by omega) (by omega) (x * z) rfl).mono ?_); rintro e w11 ⟨p11, A11, n11, c11, B11, m11, d11, rfl, h11, hb11⟩; have E11 : Below w2.heap.size w2 w11 := (E10).trans (hb11.mono (E10).size))
      | (go_at_call_of 24 (Value.slice Ab nb cb); (with_reducible refine (fmul_f (L := 40) (KY.out _ E11) (KZ.out _ E11) (by omega) (by omega) (y * z) rfl).mono ?_); rintro e w12 ⟨p12, A12, n12, c12, B12, m12, d12, rfl, h12, hb12⟩; have E12 : Below w2.heap.size w2 w12 := (E11).trans (hb12.mono (E11).size))
      | (go_at_call_of 26 (Value.slice A11 n11 c11); (with_reducible refine (fcmp_f (L := 40) (Fc.fr (h11.below hb12) T4.out) (Fc.fr h12 T5.out) (by omega) (by omega) (t) HT.out).mono ?_); rintro e w13 ⟨rfl, hb13⟩; have E13 : Below w2.heap.size w2 w13 := (E12).trans (hb13.mono (E12).size))
      | (go_at_call_of 18 (Value.slice Ac nc cc); (with_reducible refine (fsign_f (L := 40) (KZ.out _ E13) (by omega) s HS.out).mono ?_); rintro e w14 ⟨rfl, hb14⟩; have E14 : Below w2.heap.size w2 w14 := (E13).trans (hb14.mono (E13).size)))
  clear E8 E9 E10 E11 E12 E13 hb8 hb9 hb10 hb11 hb12 hb13 hb14 h8 h9 h11 h12
  clear P1 E7
  obtain ⟨k0, k1, k2, k3, k4, k5, k6, k7, k8⟩ := KT.out w14 E14
  go_wp2_with fail
  clear k0 k1 k2 k3 k4 k5 k6 k7 k8
  refine (fcmp_f (L := 40) (KX.out _ E14) (KY.out _ E14) (by omega) (by omega) n HN.out).mono ?_
  rintro e w15 ⟨rfl, hb15⟩
  have E15 := E14.trans (hb15.mono E14.size)
  clear hb15
  by_cases hn0 : n ≤ 0
  · have D6 : decide (n ≤ 0) = true := by simp; omega
    have HN0 := hide hn0
    clear hn0
    obtain ⟨k0, k1, k2, k3, k4, k5, k6, k7, k8⟩ := KT.out w15 E15
    go_wp2_with fail
    clear k0 k1 k2 k3 k4 k5 k6 k7 k8
    refine (fcmp_f (L := 40) (KY.out _ E15) (KZ.out _ E15) (by omega) (by omega) q HQ.out).mono ?_
    rintro e w16 ⟨rfl, hb16⟩
    have E16 := E15.trans (hb16.mono E15.size)
    clear hb16
    by_cases hq0 : q ≤ 0
    · have D7 : decide (q ≤ 0) = true := by simp; omega
      have D8 : decide (0 < r) = false := by
        have := HTR.out HN0.out hq0
        simp; omega
      clear hq0
      obtain ⟨k0, k1, k2, k3, k4, k5, k6, k7, k8⟩ := KT.out w16 E16
      go_wp2_with fail
      clear k0 k1 k2 k3 k4 k5 k6 k7 k8
      refine (fcmp_f (L := 40) (KX.out _ E16) (KZ.out _ E16) (by omega) (by omega) r HR.out).mono ?_
      rintro e w17 ⟨rfl, hb17⟩
      have E17 := E16.trans (hb17.mono E16.size)
      clear hb17
      obtain ⟨k0, k1, k2, k3, k4, k5, k6, k7, k8⟩ := KT.out w17 E17
      go_wp2_with fail
      clear k0 k1 k2 k3 k4 k5 k6 k7 k8
      refine (ffloor_f (L := 40) (KX.out _ E17) (by omega) (by omega) (x.floor : Rat) rfl).mono ?_
      rintro e w20 ⟨p20, A20, n20, c20, B20, m20, d20, rfl, h20, hb20⟩
      have E20 := E17.trans (hb20.mono E17.size)
      clear hb20
      obtain ⟨k0, k1, k2, k3, k4, k5, k6, k7, k8⟩ := KT.out w20 E20
      have l0 : w.heap.size < w20.heap.size := Nat.lt_of_lt_of_le lt0 E20.size
      have l1 : w.heap.size + 1 < w20.heap.size := Nat.lt_of_lt_of_le lt1 E20.size
      have l2 : w.heap.size + 1 + 1 < w20.heap.size := Nat.lt_of_lt_of_le lt2 E20.size
      go_wp2_with fail
      clear k0 k1 k2 k3 k4 k5 k6 k7 k8 l0 l1 l2
      generalize hW : w20.alloc _ = W21
      obtain ⟨hb, b8, -⟩ := boxesA1 hW
      clear hW
      have E21 : Below w2.heap.size w2 W21 := E20.trans (hb.mono E20.size)
      have h20 := h20.below hb
      clear hb
      have lt8 := b8.lt
      have KU : Hid (∀ w', Below W21.heap.size W21 w' → w'.cell? ⟨w.heap.size, 0, none⟩ = some (.bool pa) ∧ w'.cell? ⟨w.heap.size, 1, none⟩ = some (.slice Aa na ca) ∧ w'.cell? ⟨w.heap.size, 2, none⟩ = some (.slice Ba ma da) ∧ w'.cell? ⟨w20.heap.size, 0, none⟩ = some (.bool p20) ∧ w'.cell? ⟨w20.heap.size, 1, none⟩ = some (.slice A20 n20 c20) ∧ w'.cell? ⟨w20.heap.size, 2, none⟩ = some (.slice B20 m20 d20)) := fun w' h => by
        obtain ⟨q0, q1, q2, -⟩ := KT.out _ (E21.trans (h.mono E21.size))
        exact ⟨q0, q1, q2, (b8.below h lt8).at_ 0, (b8.below h lt8).at_ 1, (b8.below h lt8).at_ 2⟩
      have KA : Hid (∀ w', Below W21.heap.size W21 w' → Fr w' 40 pa Aa na ca Ba ma da x) := fun w' h => KX.out _ (E21.trans (h.mono E21.size))
      have CF : Hid (∀ w', Below W21.heap.size W21 w' → Fc w' p20 A20 n20 c20 B20 m20 d20 (x.floor : Rat)) := fun w' h => h20.below h
      have KF : Hid (∀ w', Below W21.heap.size W21 w' → Fr w' 40 p20 A20 n20 c20 B20 m20 d20 (x.floor : Rat)) := fun w' h => (h20.below h).fr T6.out
      have HT7 := hide (show (((1 : Int) : Rat) / ((1 : Int) : Rat)) = 1 from by decide +kernel)
      have HFF := hide (show (((x.floor : Rat).floor : Int) : Rat) = (x.floor : Rat) from by rw [Rat.floor_intCast])
      have P2 : Below W21.heap.size W21 W21.drew := (Below.refl _ _).drew
      clear h20 b8 lt8
      go_region_held3 (fun w' => w'.cell? ⟨w.heap.size, 0, none⟩ = some (.bool pa) ∧ w'.cell? ⟨w.heap.size, 1, none⟩ = some (.slice Aa na ca) ∧ w'.cell? ⟨w.heap.size, 2, none⟩ = some (.slice Ba ma da) ∧ w'.cell? ⟨w20.heap.size, 0, none⟩ = some (.bool p20) ∧ w'.cell? ⟨w20.heap.size, 1, none⟩ = some (.slice A20 n20 c20) ∧ w'.cell? ⟨w20.heap.size, 2, none⟩ = some (.slice B20 m20 d20))
        (first | exact KU.out _ E27 | exact KU.out _ E26 | exact KU.out _ E25 | exact KU.out _ E24 | exact KU.out _ E23 | exact KU.out _ E22 | exact KU.out _ P2 | exact KU.out _ (Below.refl _ _))
        (first
          | (go_at_call_of 26 (Value.slice A20 n20 c20); (with_reducible refine (fcmp_f (L := 40) (KF.out _ P2) (KA.out _ P2) (by omega) (by omega) (v) HV.out).mono ?_); rintro e w22 ⟨rfl, hb22⟩; have E22 : Below W21.heap.size W21 w22 := (P2).trans (hb22.mono (P2).size))
          | (go_at_call 12; (with_reducible refine (fof_f 1 1 _ (by omega) (by omega) (by omega) (by omega) 1 HT7.out).mono ?_); rintro e w23 ⟨p23, A23, n23, c23, B23, m23, d23, rfl, h23, hb23⟩; have E23 : Below W21.heap.size W21 w23 := (E22).trans (hb23.mono (E22).size))
          | (go_at_call_of 20 (Value.slice A20 n20 c20); (with_reducible refine (fadd_f (L := 40) (KF.out _ E23) (Fc.fr h23 T7.out) (by omega) (by omega) ((x.floor : Rat) + 1) rfl).mono ?_); rintro e w24 ⟨p24, A24, n24, c24, B24, m24, d24, rfl, h24, hb24⟩; have E24 : Below W21.heap.size W21 w24 := (E23).trans (hb24.mono (E23).size))
          | (go_at_call_of 26 (Value.slice Aa na ca); (with_reducible refine (fcmp_f (L := 40) (KA.out _ E24) (Fc.fr h24 T8.out) (by omega) (by omega) (u) HU.out).mono ?_); rintro e w25 ⟨rfl, hb25⟩; have E25 : Below W21.heap.size W21 w25 := (E24).trans (hb25.mono (E24).size))
          | (go_at_call_of 30 (Value.slice A20 n20 c20); (with_reducible refine (ffloor_f (L := 40) (KF.out _ E25) (by omega) (by omega) ((x.floor : Rat)) HFF.out).mono ?_); rintro e w26 ⟨p26, A26, n26, c26, B26, m26, d26, rfl, h26, hb26⟩; have E26 : Below W21.heap.size W21 w26 := (E25).trans (hb26.mono (E25).size))
          | (go_at_call_of 11 (Value.slice A26 n26 c26); (with_reducible refine (fbase_f h26 (CF.out _ E26) T6.out (by omega)).mono ?_); rintro e w27 ⟨rfl, hb27⟩; have E27 : Below W21.heap.size W21 w27 := (E26).trans (hb27.mono (E26).size)))
      clear E22 E23 E24 E25 E26 hb22 hb23 hb24 hb25 hb26 hb27 h23 h24 h26
      have hbZ := hbA.trans ((E21.trans (E27.mono E21.size)).mono hbA.size)
      clear E27 E21 KU KA CF KF P2
      go_wp2
      go_ret
      exact ⟨rfl, hbZ⟩
    · have D7 : decide (q ≤ 0) = false := by simp; omega
      clear hq0
      obtain ⟨k0, k1, k2, k3, k4, k5, k6, k7, k8⟩ := KT.out w16 E16
      go_wp2_with fail
      clear k0 k1 k2 k3 k4 k5 k6 k7 k8
      refine (ffloor_f (L := 40) (KX.out _ E16) (by omega) (by omega) (x.floor : Rat) rfl).mono ?_
      rintro e w20 ⟨p20, A20, n20, c20, B20, m20, d20, rfl, h20, hb20⟩
      have E20 := E16.trans (hb20.mono E16.size)
      clear hb20
      obtain ⟨k0, k1, k2, k3, k4, k5, k6, k7, k8⟩ := KT.out w20 E20
      have l0 : w.heap.size < w20.heap.size := Nat.lt_of_lt_of_le lt0 E20.size
      have l1 : w.heap.size + 1 < w20.heap.size := Nat.lt_of_lt_of_le lt1 E20.size
      have l2 : w.heap.size + 1 + 1 < w20.heap.size := Nat.lt_of_lt_of_le lt2 E20.size
      go_wp2_with fail
      clear k0 k1 k2 k3 k4 k5 k6 k7 k8 l0 l1 l2
      generalize hW : w20.alloc _ = W21
      obtain ⟨hb, b8, -⟩ := boxesA1 hW
      clear hW
      have E21 : Below w2.heap.size w2 W21 := E20.trans (hb.mono E20.size)
      have h20 := h20.below hb
      clear hb
      have lt8 := b8.lt
      have KU : Hid (∀ w', Below W21.heap.size W21 w' → w'.cell? ⟨w.heap.size, 0, none⟩ = some (.bool pa) ∧ w'.cell? ⟨w.heap.size, 1, none⟩ = some (.slice Aa na ca) ∧ w'.cell? ⟨w.heap.size, 2, none⟩ = some (.slice Ba ma da) ∧ w'.cell? ⟨w20.heap.size, 0, none⟩ = some (.bool p20) ∧ w'.cell? ⟨w20.heap.size, 1, none⟩ = some (.slice A20 n20 c20) ∧ w'.cell? ⟨w20.heap.size, 2, none⟩ = some (.slice B20 m20 d20)) := fun w' h => by
        obtain ⟨q0, q1, q2, -⟩ := KT.out _ (E21.trans (h.mono E21.size))
        exact ⟨q0, q1, q2, (b8.below h lt8).at_ 0, (b8.below h lt8).at_ 1, (b8.below h lt8).at_ 2⟩
      have KA : Hid (∀ w', Below W21.heap.size W21 w' → Fr w' 40 pa Aa na ca Ba ma da x) := fun w' h => KX.out _ (E21.trans (h.mono E21.size))
      have CF : Hid (∀ w', Below W21.heap.size W21 w' → Fc w' p20 A20 n20 c20 B20 m20 d20 (x.floor : Rat)) := fun w' h => h20.below h
      have KF : Hid (∀ w', Below W21.heap.size W21 w' → Fr w' 40 p20 A20 n20 c20 B20 m20 d20 (x.floor : Rat)) := fun w' h => (h20.below h).fr T6.out
      have HT7 := hide (show (((1 : Int) : Rat) / ((1 : Int) : Rat)) = 1 from by decide +kernel)
      have HFF := hide (show (((x.floor : Rat).floor : Int) : Rat) = (x.floor : Rat) from by rw [Rat.floor_intCast])
      have P2 : Below W21.heap.size W21 W21.drew := (Below.refl _ _).drew
      clear h20 b8 lt8
      go_region_held3 (fun w' => w'.cell? ⟨w.heap.size, 0, none⟩ = some (.bool pa) ∧ w'.cell? ⟨w.heap.size, 1, none⟩ = some (.slice Aa na ca) ∧ w'.cell? ⟨w.heap.size, 2, none⟩ = some (.slice Ba ma da) ∧ w'.cell? ⟨w20.heap.size, 0, none⟩ = some (.bool p20) ∧ w'.cell? ⟨w20.heap.size, 1, none⟩ = some (.slice A20 n20 c20) ∧ w'.cell? ⟨w20.heap.size, 2, none⟩ = some (.slice B20 m20 d20))
        (first | exact KU.out _ E27 | exact KU.out _ E26 | exact KU.out _ E25 | exact KU.out _ E24 | exact KU.out _ E23 | exact KU.out _ E22 | exact KU.out _ P2 | exact KU.out _ (Below.refl _ _))
        (first
          | (go_at_call_of 26 (Value.slice A20 n20 c20); (with_reducible refine (fcmp_f (L := 40) (KF.out _ P2) (KA.out _ P2) (by omega) (by omega) (v) HV.out).mono ?_); rintro e w22 ⟨rfl, hb22⟩; have E22 : Below W21.heap.size W21 w22 := (P2).trans (hb22.mono (P2).size))
          | (go_at_call 12; (with_reducible refine (fof_f 1 1 _ (by omega) (by omega) (by omega) (by omega) 1 HT7.out).mono ?_); rintro e w23 ⟨p23, A23, n23, c23, B23, m23, d23, rfl, h23, hb23⟩; have E23 : Below W21.heap.size W21 w23 := (E22).trans (hb23.mono (E22).size))
          | (go_at_call_of 20 (Value.slice A20 n20 c20); (with_reducible refine (fadd_f (L := 40) (KF.out _ E23) (Fc.fr h23 T7.out) (by omega) (by omega) ((x.floor : Rat) + 1) rfl).mono ?_); rintro e w24 ⟨p24, A24, n24, c24, B24, m24, d24, rfl, h24, hb24⟩; have E24 : Below W21.heap.size W21 w24 := (E23).trans (hb24.mono (E23).size))
          | (go_at_call_of 26 (Value.slice Aa na ca); (with_reducible refine (fcmp_f (L := 40) (KA.out _ E24) (Fc.fr h24 T8.out) (by omega) (by omega) (u) HU.out).mono ?_); rintro e w25 ⟨rfl, hb25⟩; have E25 : Below W21.heap.size W21 w25 := (E24).trans (hb25.mono (E24).size))
          | (go_at_call_of 30 (Value.slice A20 n20 c20); (with_reducible refine (ffloor_f (L := 40) (KF.out _ E25) (by omega) (by omega) ((x.floor : Rat)) HFF.out).mono ?_); rintro e w26 ⟨p26, A26, n26, c26, B26, m26, d26, rfl, h26, hb26⟩; have E26 : Below W21.heap.size W21 w26 := (E25).trans (hb26.mono (E25).size))
          | (go_at_call_of 11 (Value.slice A26 n26 c26); (with_reducible refine (fbase_f h26 (CF.out _ E26) T6.out (by omega)).mono ?_); rintro e w27 ⟨rfl, hb27⟩; have E27 : Below W21.heap.size W21 w27 := (E26).trans (hb27.mono (E26).size)))
      clear E22 E23 E24 E25 E26 hb22 hb23 hb24 hb25 hb26 hb27 h23 h24 h26
      have hbZ := hbA.trans ((E21.trans (E27.mono E21.size)).mono hbA.size)
      clear E27 E21 KU KA CF KF P2
      go_wp2
      go_ret
      exact ⟨rfl, hbZ⟩
  · have D6 : decide (n ≤ 0) = false := by simp; omega
    have HN0 := hide hn0
    clear hn0
    obtain ⟨k0, k1, k2, k3, k4, k5, k6, k7, k8⟩ := KT.out w15 E15
    go_wp2_with fail
    clear k0 k1 k2 k3 k4 k5 k6 k7 k8
    refine (ffloor_f (L := 40) (KX.out _ E15) (by omega) (by omega) (x.floor : Rat) rfl).mono ?_
    rintro e w20 ⟨p20, A20, n20, c20, B20, m20, d20, rfl, h20, hb20⟩
    have E20 := E15.trans (hb20.mono E15.size)
    clear hb20
    obtain ⟨k0, k1, k2, k3, k4, k5, k6, k7, k8⟩ := KT.out w20 E20
    have l0 : w.heap.size < w20.heap.size := Nat.lt_of_lt_of_le lt0 E20.size
    have l1 : w.heap.size + 1 < w20.heap.size := Nat.lt_of_lt_of_le lt1 E20.size
    have l2 : w.heap.size + 1 + 1 < w20.heap.size := Nat.lt_of_lt_of_le lt2 E20.size
    go_wp2_with fail
    clear k0 k1 k2 k3 k4 k5 k6 k7 k8 l0 l1 l2
    generalize hW : w20.alloc _ = W21
    obtain ⟨hb, b8, -⟩ := boxesA1 hW
    clear hW
    have E21 : Below w2.heap.size w2 W21 := E20.trans (hb.mono E20.size)
    have h20 := h20.below hb
    clear hb
    have lt8 := b8.lt
    have KU : Hid (∀ w', Below W21.heap.size W21 w' → w'.cell? ⟨w.heap.size, 0, none⟩ = some (.bool pa) ∧ w'.cell? ⟨w.heap.size, 1, none⟩ = some (.slice Aa na ca) ∧ w'.cell? ⟨w.heap.size, 2, none⟩ = some (.slice Ba ma da) ∧ w'.cell? ⟨w20.heap.size, 0, none⟩ = some (.bool p20) ∧ w'.cell? ⟨w20.heap.size, 1, none⟩ = some (.slice A20 n20 c20) ∧ w'.cell? ⟨w20.heap.size, 2, none⟩ = some (.slice B20 m20 d20)) := fun w' h => by
      obtain ⟨q0, q1, q2, -⟩ := KT.out _ (E21.trans (h.mono E21.size))
      exact ⟨q0, q1, q2, (b8.below h lt8).at_ 0, (b8.below h lt8).at_ 1, (b8.below h lt8).at_ 2⟩
    have KA : Hid (∀ w', Below W21.heap.size W21 w' → Fr w' 40 pa Aa na ca Ba ma da x) := fun w' h => KX.out _ (E21.trans (h.mono E21.size))
    have CF : Hid (∀ w', Below W21.heap.size W21 w' → Fc w' p20 A20 n20 c20 B20 m20 d20 (x.floor : Rat)) := fun w' h => h20.below h
    have KF : Hid (∀ w', Below W21.heap.size W21 w' → Fr w' 40 p20 A20 n20 c20 B20 m20 d20 (x.floor : Rat)) := fun w' h => (h20.below h).fr T6.out
    have HT7 := hide (show (((1 : Int) : Rat) / ((1 : Int) : Rat)) = 1 from by decide +kernel)
    have HFF := hide (show (((x.floor : Rat).floor : Int) : Rat) = (x.floor : Rat) from by rw [Rat.floor_intCast])
    have P2 : Below W21.heap.size W21 W21.drew := (Below.refl _ _).drew
    clear h20 b8 lt8
    go_region_held3 (fun w' => w'.cell? ⟨w.heap.size, 0, none⟩ = some (.bool pa) ∧ w'.cell? ⟨w.heap.size, 1, none⟩ = some (.slice Aa na ca) ∧ w'.cell? ⟨w.heap.size, 2, none⟩ = some (.slice Ba ma da) ∧ w'.cell? ⟨w20.heap.size, 0, none⟩ = some (.bool p20) ∧ w'.cell? ⟨w20.heap.size, 1, none⟩ = some (.slice A20 n20 c20) ∧ w'.cell? ⟨w20.heap.size, 2, none⟩ = some (.slice B20 m20 d20))
      (first | exact KU.out _ E27 | exact KU.out _ E26 | exact KU.out _ E25 | exact KU.out _ E24 | exact KU.out _ E23 | exact KU.out _ E22 | exact KU.out _ P2 | exact KU.out _ (Below.refl _ _))
      (first
        | (go_at_call_of 26 (Value.slice A20 n20 c20); (with_reducible refine (fcmp_f (L := 40) (KF.out _ P2) (KA.out _ P2) (by omega) (by omega) (v) HV.out).mono ?_); rintro e w22 ⟨rfl, hb22⟩; have E22 : Below W21.heap.size W21 w22 := (P2).trans (hb22.mono (P2).size))
        | (go_at_call 12; (with_reducible refine (fof_f 1 1 _ (by omega) (by omega) (by omega) (by omega) 1 HT7.out).mono ?_); rintro e w23 ⟨p23, A23, n23, c23, B23, m23, d23, rfl, h23, hb23⟩; have E23 : Below W21.heap.size W21 w23 := (E22).trans (hb23.mono (E22).size))
        | (go_at_call_of 20 (Value.slice A20 n20 c20); (with_reducible refine (fadd_f (L := 40) (KF.out _ E23) (Fc.fr h23 T7.out) (by omega) (by omega) ((x.floor : Rat) + 1) rfl).mono ?_); rintro e w24 ⟨p24, A24, n24, c24, B24, m24, d24, rfl, h24, hb24⟩; have E24 : Below W21.heap.size W21 w24 := (E23).trans (hb24.mono (E23).size))
        | (go_at_call_of 26 (Value.slice Aa na ca); (with_reducible refine (fcmp_f (L := 40) (KA.out _ E24) (Fc.fr h24 T8.out) (by omega) (by omega) (u) HU.out).mono ?_); rintro e w25 ⟨rfl, hb25⟩; have E25 : Below W21.heap.size W21 w25 := (E24).trans (hb25.mono (E24).size))
        | (go_at_call_of 30 (Value.slice A20 n20 c20); (with_reducible refine (ffloor_f (L := 40) (KF.out _ E25) (by omega) (by omega) ((x.floor : Rat)) HFF.out).mono ?_); rintro e w26 ⟨p26, A26, n26, c26, B26, m26, d26, rfl, h26, hb26⟩; have E26 : Below W21.heap.size W21 w26 := (E25).trans (hb26.mono (E25).size))
        | (go_at_call_of 11 (Value.slice A26 n26 c26); (with_reducible refine (fbase_f h26 (CF.out _ E26) T6.out (by omega)).mono ?_); rintro e w27 ⟨rfl, hb27⟩; have E27 : Below W21.heap.size W21 w27 := (E26).trans (hb27.mono (E26).size)))
    clear E22 E23 E24 E25 E26 hb22 hb23 hb24 hb25 hb26 hb27 h23 h24 h26
    have hbZ := hbA.trans ((E21.trans (E27.mono E21.size)).mono hbA.size)
    clear E27 E21 KU KA CF KF P2
    go_wp2
    go_ret
    exact ⟨rfl, hbZ⟩
end Go.Proofs.YtanhofmgapbjfaaDoor
