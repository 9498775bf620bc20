/- FractionQuotients: the walk. -/
import Derived.Test.YtanhofmgapbjfaaDoorNorms
import Derived.Test.YtanhofmgapbjfaaDoorGFloor
namespace Go.Proofs.YtanhofmgapbjfaaDoor
open Go Go.RowKit

theorem cn_nil {w : World} : Cn w none 0 0 0 := ⟨RL.nil_, by omega, by simp [maxLen]⟩
set_option maxHeartbeats 16000000 in
set_option maxRecDepth 100000 in
theorem quots_zero (HA : Hid Awake) (pa : Bool) (Aa : Option Addr) (na ca : Nat) (Ba : Option Addr) (ma da : Nat) (pb : Bool) (Ab : Option Addr) (nb cb : Nat) (Bb : Option Addr) (mb db : Nat) (x : Rat) (y : Rat) (w : World) (hx : Fr w 6 pa Aa na ca Ba ma da x) (hy : Fr w 6 pb Ab nb cb Bb mb db y) (hT : Tab w) (hy0 : y = 0) (hf : (na ≤ 6 ∧ ma ≤ 6) ∧ nb ≤ 6 ∧ mb ≤ 6) :
    Calls Tryd.prog 5 #[.agg #[.bool pa, .slice Aa na ca, .slice Ba ma da], .agg #[.bool pb, .slice Ab nb cb, .slice Bb mb db]] w fun e w' => e = .returned (.bool true) ∧ Below w.heap.size w w' := by
  have HFW := hide hf
  have HT0 := hide hT
  clear hf hT
  have TX := hide (show Ht x 40 from hx.ht.up (by omega))
  have TQ := hide (show Ht (x / y) 40 from (hx.ht.div hy.ht).up (by omega))
  have TF := hide (show Ht (x.floor : Rat) 40 from (hx.ht.floor (by omega)).up (by omega))
  have HY0 := hide hy0
  clear hy0
  go_enter Tryd.func5, Tryd.ntmps5
  go_wp2_with fail
  generalize hW : (w.alloc _).alloc _ = W
  obtain ⟨hbW, ba, bb, -⟩ := boxesA2 hW
  clear hW
  refine (HA.out _ (HT0.out.below hbW)).mono ?_
  rintro e w1 ⟨rfl, hb1⟩
  have hbA := hbW.trans (hb1.mono hbW.size)
  have ba := ba.below' hb1
  have bb := bb.below' hb1
  clear hb1 hbW
  have k0 : w1.cell? ⟨w.heap.size, 0, none⟩ = some (.bool pa) := ba.at_ 0
  have k1 : w1.cell? ⟨w.heap.size, 1, none⟩ = some (.slice Aa na ca) := ba.at_ 1
  have k2 : w1.cell? ⟨w.heap.size, 2, none⟩ = some (.slice Ba ma da) := ba.at_ 2
  have lt0 := ba.lt
  have k3 : w1.cell? ⟨w.heap.size + 1, 0, none⟩ = some (.bool pb) := bb.at_ 0
  have k4 : w1.cell? ⟨w.heap.size + 1, 1, none⟩ = some (.slice Ab nb cb) := bb.at_ 1
  have k5 : w1.cell? ⟨w.heap.size + 1, 2, none⟩ = some (.slice Bb mb db) := bb.at_ 2
  have lt1 := bb.lt
  go_wp2_with fail
  clear k0 k1 k2 lt0 k3 k4 k5 lt1
  generalize hW : w1.alloc _ = W1
  obtain ⟨hb, hfew⟩ := few2 hW
  clear hW
  have hbA := hbA.trans (hb.mono hbA.size)
  have ba := ba.below' hb
  have bb := bb.below' hb
  clear hb
  refine (few_any _ 2 2 _ _ _ (by simp [maxLen]) hfew true (by rw [isFew2]; simp [HFW.out])).mono ?_
  rintro e w2 ⟨rfl, rfl⟩
  clear hfew
  have KX : Hid (∀ w', Below w2.heap.size w2 w' → Fr w' 40 pa Aa na ca Ba ma da x) := fun w' h => (hx.below (hbA.trans (h.mono hbA.size))).up (by omega)
  have KY : Hid (∀ w', Below w2.heap.size w2 w' → Fr w' 40 pb Ab nb cb Bb mb db y) := fun w' h => (hy.below (hbA.trans (h.mono hbA.size))).up (by omega)
  have lt0 := ba.lt
  have lt1 := bb.lt
  have KT : Hid (∀ w', Below w2.heap.size w2 w' → w'.cell? ⟨w.heap.size, 0, none⟩ = some (.bool pa) ∧ w'.cell? ⟨w.heap.size, 1, none⟩ = some (.slice Aa na ca) ∧ w'.cell? ⟨w.heap.size, 2, none⟩ = some (.slice Ba ma da) ∧ w'.cell? ⟨w.heap.size + 1, 0, none⟩ = some (.bool pb) ∧ w'.cell? ⟨w.heap.size + 1, 1, none⟩ = some (.slice Ab nb cb) ∧ w'.cell? ⟨w.heap.size + 1, 2, none⟩ = some (.slice Bb mb db)) := fun w' h =>
    ⟨(ba.below h lt0).at_ 0, (ba.below h lt0).at_ 1, (ba.below h lt0).at_ 2, (bb.below h lt1).at_ 0, (bb.below h lt1).at_ 1, (bb.below h lt1).at_ 2⟩
  have R0 : Below w2.heap.size w2 w2 := Below.refl _ _
  obtain ⟨k0, k1, k2, k3, k4, k5⟩ := KT.out w2 R0
  clear ba bb hx hy
  go_wp2_with fail
  clear k0 k1 k2 k3 k4 k5
  refine (fdiv_f0 (L := 40) (KY.out _ R0) (by omega) HY0.out).mono ?_
  rintro e w3 ⟨rfl, hb3⟩
  have E3 := R0.trans (hb3.mono R0.size)
  obtain ⟨k0, k1, k2, k3, k4, k5⟩ := KT.out w3 E3
  have l0 : w.heap.size < w3.heap.size := Nat.lt_of_lt_of_le lt0 E3.size
  have l1 : w.heap.size + 1 < w3.heap.size := Nat.lt_of_lt_of_le lt1 E3.size
  clear hb3
  go_wp2_with fail
  clear k0 k1 k2 k3 k4 k5 l0 l1
  generalize hW : w3.alloc _ = W4
  obtain ⟨hb, b3, -⟩ := boxesA1 hW
  clear hW
  have E4 := E3.trans (hb.mono E3.size)
  clear hb
  refine (gdiv_0 (L := 40) (KY.out _ E4) (by omega) (by omega) HY0.out).mono ?_
  rintro e w5 ⟨rfl, hb5⟩
  have E5 := E4.trans (hb5.mono E4.size)
  have b3 := b3.below' hb5
  obtain ⟨k0, k1, k2, k3, k4, k5⟩ := KT.out w5 E5
  have l0 : w.heap.size < w5.heap.size := Nat.lt_of_lt_of_le lt0 E5.size
  have l1 : w.heap.size + 1 < w5.heap.size := Nat.lt_of_lt_of_le lt1 E5.size
  have l3 := b3.lt
  clear hb5
  go_wp2_with fail
  clear k0 k1 k2 k3 k4 k5 l0 l1 l3
  generalize hW : w5.alloc _ = W6
  obtain ⟨hb, b5, -⟩ := boxesA1 hW
  clear hW
  have E6 : Below w2.heap.size w2 W6 := E5.trans (hb.mono E5.size)
  have b3 := b3.below' hb
  clear hb
  have l3 := b3.lt
  have l5 := b5.lt
  have KU : Hid (∀ w', Below W6.heap.size W6 w' → w'.cell? ⟨w.heap.size, 0, none⟩ = some (.bool pa) ∧ w'.cell? ⟨w.heap.size, 1, none⟩ = some (.slice Aa na ca) ∧ w'.cell? ⟨w.heap.size, 2, none⟩ = some (.slice Ba ma da) ∧ w'.cell? ⟨w3.heap.size, 0, none⟩ = some (.bool false) ∧ w'.cell? ⟨w3.heap.size, 1, none⟩ = some (.slice none 0 0) ∧ w'.cell? ⟨w3.heap.size, 2, none⟩ = some (.slice none 0 0) ∧ w'.cell? ⟨w5.heap.size, 0, none⟩ = some (.bool false) ∧ w'.cell? ⟨w5.heap.size, 1, none⟩ = some (.slice none 0 0) ∧ w'.cell? ⟨w5.heap.size, 2, none⟩ = some (.slice none 0 0)) := fun w' h => by
    obtain ⟨q0, q1, q2, -⟩ := KT.out _ (E6.trans (h.mono E6.size))
    exact ⟨q0, q1, q2, (b3.below h l3).at_ 0, (b3.below h l3).at_ 1, (b3.below h l3).at_ 2, (b5.below h l5).at_ 0, (b5.below h l5).at_ 1, (b5.below h l5).at_ 2⟩
  have KA : Hid (∀ w', Below W6.heap.size W6 w' → Fr w' 40 pa Aa na ca Ba ma da x) := fun w' h => KX.out _ (E6.trans (h.mono E6.size))
  have P1 : Below W6.heap.size W6 W6.drew := (Below.refl _ _).drew
  clear b3 b5 l3 l5
  go_region_held3 (fun w' => w'.cell? ⟨w.heap.size, 0, none⟩ = some (.bool pa) ∧ w'.cell? ⟨w.heap.size, 1, none⟩ = some (.slice Aa na ca) ∧ w'.cell? ⟨w.heap.size, 2, none⟩ = some (.slice Ba ma da) ∧ w'.cell? ⟨w3.heap.size, 0, none⟩ = some (.bool false) ∧ w'.cell? ⟨w3.heap.size, 1, none⟩ = some (.slice none 0 0) ∧ w'.cell? ⟨w3.heap.size, 2, none⟩ = some (.slice none 0 0) ∧ w'.cell? ⟨w5.heap.size, 0, none⟩ = some (.bool false) ∧ w'.cell? ⟨w5.heap.size, 1, none⟩ = some (.slice none 0 0) ∧ w'.cell? ⟨w5.heap.size, 2, none⟩ = some (.slice none 0 0))
    (first | exact KU.out _ E13 | exact KU.out _ E12 | exact KU.out _ E11 | exact KU.out _ E10 | exact KU.out _ P1 | exact KU.out _ (Below.refl _ _))
    (first
      | (go_at_call_of 11 (Value.slice none 0 0); (with_reducible refine (fbase_same false none 0 0 0 none 0 0 0 none 0 0 none 0 0 _ cn_nil cn_nil cn_nil cn_nil (by omega) (by omega)).mono ?_); rintro e w10 ⟨rfl, hb10⟩; have E10 : Below W6.heap.size W6 w10 := (P1).trans (hb10.mono (P1).size))
      | (go_at_call_of 30 (Value.slice Aa na ca); (with_reducible refine (ffloor_f (L := 40) (KA.out _ E10) (by omega) (by omega) ((x.floor : Rat)) rfl).mono ?_); rintro e w11 ⟨p11, A11, n11, c11, B11, m11, d11, rfl, h11, hb11⟩; have E11 : Below W6.heap.size W6 w11 := (E10).trans (hb11.mono (E10).size))
      | (go_at_call_of 31 (Value.slice Aa na ca); (with_reducible refine (gfloor_f (L := 40) (KA.out _ E11) (by omega) (by omega) ((x.floor : Rat)) rfl).mono ?_); rintro e w12 ⟨p12, A12, n12, c12, B12, m12, d12, rfl, h12, hb12⟩; have E12 : Below W6.heap.size W6 w12 := (E11).trans (hb12.mono (E11).size))
      | (go_at_call_of 11 (Value.slice A11 n11 c11); (with_reducible refine (fbase_f (h11.below hb12) h12 TF.out (by omega)).mono ?_); rintro e w13 ⟨rfl, hb13⟩; have E13 : Below W6.heap.size W6 w13 := (E12).trans (hb13.mono (E12).size)))
  clear E10 E11 E12 hb10 hb11 hb12 hb13 h11 h12
  have hbZ := hbA.trans ((E6.trans (E13.mono E6.size)).mono hbA.size)
  clear E13 E6 KU KA KT P1
  go_wp2
  go_ret
  exact ⟨rfl, hbZ⟩
set_option maxHeartbeats 16000000 in
set_option maxRecDepth 100000 in
theorem quots_nz (HA : Hid Awake) (pa : Bool) (Aa : Option Addr) (na ca : Nat) (Ba : Option Addr) (ma da : Nat) (pb : Bool) (Ab : Option Addr) (nb cb : Nat) (Bb : Option Addr) (mb db : Nat) (x : Rat) (y : Rat) (w : World) (hx : Fr w 6 pa Aa na ca Ba ma da x) (hy : Fr w 6 pb Ab nb cb Bb mb db y) (hT : Tab w) (hy0 : y ≠ 0) (hf : (na ≤ 6 ∧ ma ≤ 6) ∧ nb ≤ 6 ∧ mb ≤ 6) :
    Calls Tryd.prog 5 #[.agg #[.bool pa, .slice Aa na ca, .slice Ba ma da], .agg #[.bool pb, .slice Ab nb cb, .slice Bb mb db]] w fun e w' => e = .returned (.bool true) ∧ Below w.heap.size w w' := by
  have HFW := hide hf
  have HT0 := hide hT
  clear hf hT
  have TX := hide (show Ht x 40 from hx.ht.up (by omega))
  have TQ := hide (show Ht (x / y) 40 from (hx.ht.div hy.ht).up (by omega))
  have TF := hide (show Ht (x.floor : Rat) 40 from (hx.ht.floor (by omega)).up (by omega))
  have HY0 := hide hy0
  clear hy0
  go_enter Tryd.func5, Tryd.ntmps5
  go_wp2_with fail
  generalize hW : (w.alloc _).alloc _ = W
  obtain ⟨hbW, ba, bb, -⟩ := boxesA2 hW
  clear hW
  refine (HA.out _ (HT0.out.below hbW)).mono ?_
  rintro e w1 ⟨rfl, hb1⟩
  have hbA := hbW.trans (hb1.mono hbW.size)
  have ba := ba.below' hb1
  have bb := bb.below' hb1
  clear hb1 hbW
  have k0 : w1.cell? ⟨w.heap.size, 0, none⟩ = some (.bool pa) := ba.at_ 0
  have k1 : w1.cell? ⟨w.heap.size, 1, none⟩ = some (.slice Aa na ca) := ba.at_ 1
  have k2 : w1.cell? ⟨w.heap.size, 2, none⟩ = some (.slice Ba ma da) := ba.at_ 2
  have lt0 := ba.lt
  have k3 : w1.cell? ⟨w.heap.size + 1, 0, none⟩ = some (.bool pb) := bb.at_ 0
  have k4 : w1.cell? ⟨w.heap.size + 1, 1, none⟩ = some (.slice Ab nb cb) := bb.at_ 1
  have k5 : w1.cell? ⟨w.heap.size + 1, 2, none⟩ = some (.slice Bb mb db) := bb.at_ 2
  have lt1 := bb.lt
  go_wp2_with fail
  clear k0 k1 k2 lt0 k3 k4 k5 lt1
  generalize hW : w1.alloc _ = W1
  obtain ⟨hb, hfew⟩ := few2 hW
  clear hW
  have hbA := hbA.trans (hb.mono hbA.size)
  have ba := ba.below' hb
  have bb := bb.below' hb
  clear hb
  refine (few_any _ 2 2 _ _ _ (by simp [maxLen]) hfew true (by rw [isFew2]; simp [HFW.out])).mono ?_
  rintro e w2 ⟨rfl, rfl⟩
  clear hfew
  have KX : Hid (∀ w', Below w2.heap.size w2 w' → Fr w' 40 pa Aa na ca Ba ma da x) := fun w' h => (hx.below (hbA.trans (h.mono hbA.size))).up (by omega)
  have KY : Hid (∀ w', Below w2.heap.size w2 w' → Fr w' 40 pb Ab nb cb Bb mb db y) := fun w' h => (hy.below (hbA.trans (h.mono hbA.size))).up (by omega)
  have lt0 := ba.lt
  have lt1 := bb.lt
  have KT : Hid (∀ w', Below w2.heap.size w2 w' → w'.cell? ⟨w.heap.size, 0, none⟩ = some (.bool pa) ∧ w'.cell? ⟨w.heap.size, 1, none⟩ = some (.slice Aa na ca) ∧ w'.cell? ⟨w.heap.size, 2, none⟩ = some (.slice Ba ma da) ∧ w'.cell? ⟨w.heap.size + 1, 0, none⟩ = some (.bool pb) ∧ w'.cell? ⟨w.heap.size + 1, 1, none⟩ = some (.slice Ab nb cb) ∧ w'.cell? ⟨w.heap.size + 1, 2, none⟩ = some (.slice Bb mb db)) := fun w' h =>
    ⟨(ba.below h lt0).at_ 0, (ba.below h lt0).at_ 1, (ba.below h lt0).at_ 2, (bb.below h lt1).at_ 0, (bb.below h lt1).at_ 1, (bb.below h lt1).at_ 2⟩
  have R0 : Below w2.heap.size w2 w2 := Below.refl _ _
  obtain ⟨k0, k1, k2, k3, k4, k5⟩ := KT.out w2 R0
  clear ba bb hx hy
  go_wp2_with fail
  clear k0 k1 k2 k3 k4 k5
  refine (fdiv_f (L := 40) (KX.out _ R0) (KY.out _ R0) (by omega) HY0.out (x / y) rfl).mono ?_
  rintro e w3 ⟨p3, A3, n3, c3, B3, m3, d3, rfl, h3, hb3⟩
  have E3 := R0.trans (hb3.mono R0.size)
  obtain ⟨k0, k1, k2, k3, k4, k5⟩ := KT.out w3 E3
  have l0 : w.heap.size < w3.heap.size := Nat.lt_of_lt_of_le lt0 E3.size
  have l1 : w.heap.size + 1 < w3.heap.size := Nat.lt_of_lt_of_le lt1 E3.size
  clear hb3
  go_wp2_with fail
  clear k0 k1 k2 k3 k4 k5 l0 l1
  generalize hW : w3.alloc _ = W4
  obtain ⟨hb, b3, -⟩ := boxesA1 hW
  clear hW
  have E4 := E3.trans (hb.mono E3.size)
  have h3 := h3.below hb
  clear hb
  refine (gdiv_f (L := 40) (KX.out _ E4) (KY.out _ E4) (by omega) (by omega) HY0.out (x / y) rfl).mono ?_
  rintro e w5 ⟨p5, A5, n5, c5, B5, m5, d5, rfl, h5, hb5⟩
  have E5 := E4.trans (hb5.mono E4.size)
  have b3 := b3.below' hb5
  have h3 := h3.below hb5
  obtain ⟨k0, k1, k2, k3, k4, k5⟩ := KT.out w5 E5
  have l0 : w.heap.size < w5.heap.size := Nat.lt_of_lt_of_le lt0 E5.size
  have l1 : w.heap.size + 1 < w5.heap.size := Nat.lt_of_lt_of_le lt1 E5.size
  have l3 := b3.lt
  clear hb5
  go_wp2_with fail
  clear k0 k1 k2 k3 k4 k5 l0 l1 l3
  generalize hW : w5.alloc _ = W6
  obtain ⟨hb, b5, -⟩ := boxesA1 hW
  clear hW
  have E6 : Below w2.heap.size w2 W6 := E5.trans (hb.mono E5.size)
  have b3 := b3.below' hb
  have h3 := h3.below hb
  have h5 := h5.below hb
  clear hb
  have l3 := b3.lt
  have l5 := b5.lt
  have KU : Hid (∀ w', Below W6.heap.size W6 w' → w'.cell? ⟨w.heap.size, 0, none⟩ = some (.bool pa) ∧ w'.cell? ⟨w.heap.size, 1, none⟩ = some (.slice Aa na ca) ∧ w'.cell? ⟨w.heap.size, 2, none⟩ = some (.slice Ba ma da) ∧ w'.cell? ⟨w3.heap.size, 0, none⟩ = some (.bool p3) ∧ w'.cell? ⟨w3.heap.size, 1, none⟩ = some (.slice A3 n3 c3) ∧ w'.cell? ⟨w3.heap.size, 2, none⟩ = some (.slice B3 m3 d3) ∧ w'.cell? ⟨w5.heap.size, 0, none⟩ = some (.bool p5) ∧ w'.cell? ⟨w5.heap.size, 1, none⟩ = some (.slice A5 n5 c5) ∧ w'.cell? ⟨w5.heap.size, 2, none⟩ = some (.slice B5 m5 d5)) := fun w' h => by
    obtain ⟨q0, q1, q2, -⟩ := KT.out _ (E6.trans (h.mono E6.size))
    exact ⟨q0, q1, q2, (b3.below h l3).at_ 0, (b3.below h l3).at_ 1, (b3.below h l3).at_ 2, (b5.below h l5).at_ 0, (b5.below h l5).at_ 1, (b5.below h l5).at_ 2⟩
  have KA : Hid (∀ w', Below W6.heap.size W6 w' → Fr w' 40 pa Aa na ca Ba ma da x) := fun w' h => KX.out _ (E6.trans (h.mono E6.size))
  have C3 : Hid (∀ w', Below W6.heap.size W6 w' → Fc w' p3 A3 n3 c3 B3 m3 d3 (x / y)) := fun w' h => h3.below h
  have C5 : Hid (∀ w', Below W6.heap.size W6 w' → Fc w' p5 A5 n5 c5 B5 m5 d5 (x / y)) := fun w' h => h5.below h
  clear h3 h5
  have P1 : Below W6.heap.size W6 W6.drew := (Below.refl _ _).drew
  clear b3 b5 l3 l5
  go_region_held3 (fun w' => w'.cell? ⟨w.heap.size, 0, none⟩ = some (.bool pa) ∧ w'.cell? ⟨w.heap.size, 1, none⟩ = some (.slice Aa na ca) ∧ w'.cell? ⟨w.heap.size, 2, none⟩ = some (.slice Ba ma da) ∧ w'.cell? ⟨w3.heap.size, 0, none⟩ = some (.bool p3) ∧ w'.cell? ⟨w3.heap.size, 1, none⟩ = some (.slice A3 n3 c3) ∧ w'.cell? ⟨w3.heap.size, 2, none⟩ = some (.slice B3 m3 d3) ∧ w'.cell? ⟨w5.heap.size, 0, none⟩ = some (.bool p5) ∧ w'.cell? ⟨w5.heap.size, 1, none⟩ = some (.slice A5 n5 c5) ∧ w'.cell? ⟨w5.heap.size, 2, none⟩ = some (.slice B5 m5 d5))
    (first | exact KU.out _ E13 | exact KU.out _ E12 | exact KU.out _ E11 | exact KU.out _ E10 | exact KU.out _ P1 | exact KU.out _ (Below.refl _ _))
    (first
      | (go_at_call_of 11 (Value.slice A3 n3 c3); (with_reducible refine (fbase_f (C3.out _ P1) (C5.out _ P1) TQ.out (by omega)).mono ?_); rintro e w10 ⟨rfl, hb10⟩; have E10 : Below W6.heap.size W6 w10 := (P1).trans (hb10.mono (P1).size))
      | (go_at_call_of 30 (Value.slice Aa na ca); (with_reducible refine (ffloor_f (L := 40) (KA.out _ E10) (by omega) (by omega) ((x.floor : Rat)) rfl).mono ?_); rintro e w11 ⟨p11, A11, n11, c11, B11, m11, d11, rfl, h11, hb11⟩; have E11 : Below W6.heap.size W6 w11 := (E10).trans (hb11.mono (E10).size))
      | (go_at_call_of 31 (Value.slice Aa na ca); (with_reducible refine (gfloor_f (L := 40) (KA.out _ E11) (by omega) (by omega) ((x.floor : Rat)) rfl).mono ?_); rintro e w12 ⟨p12, A12, n12, c12, B12, m12, d12, rfl, h12, hb12⟩; have E12 : Below W6.heap.size W6 w12 := (E11).trans (hb12.mono (E11).size))
      | (go_at_call_of 11 (Value.slice A11 n11 c11); (with_reducible refine (fbase_f (h11.below hb12) h12 TF.out (by omega)).mono ?_); rintro e w13 ⟨rfl, hb13⟩; have E13 : Below W6.heap.size W6 w13 := (E12).trans (hb13.mono (E12).size)))
  clear E10 E11 E12 hb10 hb11 hb12 hb13 h11 h12
  have hbZ := hbA.trans ((E6.trans (E13.mono E6.size)).mono hbA.size)
  clear E13 E6 KU KA KT P1
  go_wp2
  go_ret
  exact ⟨rfl, hbZ⟩
set_option maxHeartbeats 16000000 in
set_option maxRecDepth 100000 in
theorem quots_no (HA : Hid Awake) (pa : Bool) (Aa : Option Addr) (na ca : Nat) (Ba : Option Addr) (ma da : Nat) (pb : Bool) (Ab : Option Addr) (nb cb : Nat) (Bb : Option Addr) (mb db : Nat)  (w : World)  (hT : Tab w) (hf : ¬((na ≤ 6 ∧ ma ≤ 6) ∧ nb ≤ 6 ∧ mb ≤ 6)) :
    Calls Tryd.prog 5 #[.agg #[.bool pa, .slice Aa na ca, .slice Ba ma da], .agg #[.bool pb, .slice Ab nb cb, .slice Bb mb db]] w fun e w' => e = .returned (.bool true) ∧ Below w.heap.size w w' := by
  have HFW := hide hf
  have HT0 := hide hT
  clear hf hT
  go_enter Tryd.func5, Tryd.ntmps5
  go_wp2_with fail
  generalize hW : (w.alloc _).alloc _ = W
  obtain ⟨hbW, ba, bb, -⟩ := boxesA2 hW
  clear hW
  refine (HA.out _ (HT0.out.below hbW)).mono ?_
  rintro e w1 ⟨rfl, hb1⟩
  have hbA := hbW.trans (hb1.mono hbW.size)
  have ba := ba.below' hb1
  have bb := bb.below' hb1
  clear hb1 hbW
  have k0 : w1.cell? ⟨w.heap.size, 0, none⟩ = some (.bool pa) := ba.at_ 0
  have k1 : w1.cell? ⟨w.heap.size, 1, none⟩ = some (.slice Aa na ca) := ba.at_ 1
  have k2 : w1.cell? ⟨w.heap.size, 2, none⟩ = some (.slice Ba ma da) := ba.at_ 2
  have lt0 := ba.lt
  have k3 : w1.cell? ⟨w.heap.size + 1, 0, none⟩ = some (.bool pb) := bb.at_ 0
  have k4 : w1.cell? ⟨w.heap.size + 1, 1, none⟩ = some (.slice Ab nb cb) := bb.at_ 1
  have k5 : w1.cell? ⟨w.heap.size + 1, 2, none⟩ = some (.slice Bb mb db) := bb.at_ 2
  have lt1 := bb.lt
  go_wp2_with fail
  clear k0 k1 k2 lt0 k3 k4 k5 lt1
  generalize hW : w1.alloc _ = W1
  obtain ⟨hb, hfew⟩ := few2 hW
  clear hW
  have hbA := hbA.trans (hb.mono hbA.size)
  have ba := ba.below' hb
  have bb := bb.below' hb
  clear hb
  refine (few_any _ 2 2 _ _ _ (by simp [maxLen]) hfew false ⟨fun h => absurd (isFew2.1 h) HFW.out, fun h => by cases h⟩).mono ?_
  rintro e w2 ⟨rfl, rfl⟩
  clear hfew
  go_wp2_with fail
  refine (HA.out _ (HT0.out.below hbA)).mono ?_
  rintro e w3 ⟨rfl, hb3⟩
  have hbZ := hbA.trans (hb3.mono hbA.size)
  clear hb3 hbA
  go_wp2
  go_ret
  exact ⟨rfl, hbZ⟩
end Go.Proofs.YtanhofmgapbjfaaDoor
