/- FractionTexts: the walks. -/
import Derived.Test.YtgfdeihfinlfoaaGreatDoorZLaw
namespace Go.Proofs.YtgfdeihfinlfoaaGreatDoor
open Go Go.RowKit

set_option maxHeartbeats 16000000 in
set_option maxRecDepth 100000 in
theorem ztexts_eq (HA : Hid Awake) (pa : Bool) (Aa : Option Addr) (na ca : Nat) (Ba : Option Addr) (ma da : Nat) (pb : Bool) (Ab : Option Addr) (nb cb : Nat) (Bb : Option Addr) (mb db : Nat) (x : Rat) (y : Rat) (w : World) (hx : Fr w 6 pa Aa na ca Ba ma da x) (hy : Fr w 6 pb Ab nb cb Bb mb db y) (hT : Zw w) (S : ByteArray) (hS : qtext x = S) (hS2 : qtext y = S) (ho : cs x y = 0) (hf : (na ≤ 6 ∧ ma ≤ 6) ∧ nb ≤ 6 ∧ mb ≤ 6) :
    Calls Tryz.prog 3 #[.agg #[.bool pa, .slice Aa na ca, .slice Ba ma da], .agg #[.bool pb, .slice Ab nb cb, .slice Bb mb db]] w fun e w' => e = .returned (.bool true) ∧ Below w.heap.size w w' := by
  have HFW := hide hf
  have HT0 := hide hT
  clear hf hT
  have TX := hide (show Ht x 40 from hx.ht.up (by omega))
  have HS := hide hS
  have HS2 := hide hS2
  have HO := hide ho
  have HZ := hide (show S.size ≤ 4000 from by rw [← hS]; exact text_size hx.ht (by omega))
  clear hS hS2 ho
  go_enter Tryz.func3, Tryz.ntmps3
  go_wp2_with fail
  generalize hW : (w.alloc _).alloc _ = W
  obtain ⟨hbW, ba, bb, -⟩ := boxesA2 hW
  clear hW
  refine (HA.out _ (HT0.out.below hbW).tab).mono ?_
  rintro e w1 ⟨rfl, hb1⟩
  have hbA := hbW.trans (hb1.mono hbW.size)
  have ba := ba.below' hb1
  have bb := bb.below' hb1
  clear hb1 hbW
  have k0 : w1.cell? ⟨w.heap.size, 0, none⟩ = some (.bool pa) := ba.at_ 0
  have k1 : w1.cell? ⟨w.heap.size, 1, none⟩ = some (.slice Aa na ca) := ba.at_ 1
  have k2 : w1.cell? ⟨w.heap.size, 2, none⟩ = some (.slice Ba ma da) := ba.at_ 2
  have lt0 := ba.lt
  have k3 : w1.cell? ⟨w.heap.size + 1, 0, none⟩ = some (.bool pb) := bb.at_ 0
  have k4 : w1.cell? ⟨w.heap.size + 1, 1, none⟩ = some (.slice Ab nb cb) := bb.at_ 1
  have k5 : w1.cell? ⟨w.heap.size + 1, 2, none⟩ = some (.slice Bb mb db) := bb.at_ 2
  have lt1 := bb.lt
  go_wp2_with fail
  clear k0 k1 k2 lt0 k3 k4 k5 lt1
  generalize hW : w1.alloc _ = W1
  obtain ⟨hb, hfew⟩ := few2 hW
  clear hW
  have hbA := hbA.trans (hb.mono hbA.size)
  have ba := ba.below' hb
  have bb := bb.below' hb
  clear hb
  refine (few_any _ 2 2 _ _ _ (by simp [maxLen]) hfew true (by rw [isFew2]; simp [HFW.out])).mono ?_
  rintro e w2 ⟨rfl, rfl⟩
  clear hfew
  have k0 : w2.cell? ⟨w.heap.size, 0, none⟩ = some (.bool pa) := ba.at_ 0
  have k1 : w2.cell? ⟨w.heap.size, 1, none⟩ = some (.slice Aa na ca) := ba.at_ 1
  have k2 : w2.cell? ⟨w.heap.size, 2, none⟩ = some (.slice Ba ma da) := ba.at_ 2
  have lt0 := ba.lt
  go_wp2_with fail
  clear k0 k1 k2 lt0
  refine (ftext_s (L := 6) (hx.below hbA) (by omega) (by omega) (HT0.out.below hbA).tab S HS.out).mono ?_
  rintro e w3 ⟨rfl, hb⟩
  have hbA := hbA.trans (hb.mono hbA.size)
  have ba := ba.below' hb
  have bb := bb.below' hb
  clear hb
  go_wp2_with fail
  refine (fparse_any S _ (HT0.out.below hbA) HZ.out).mono ?_
  rintro e w4 hq
  obtain ⟨p9, A9, n9, c9, B9, m9, d9, rfl, h9, hb⟩ := hq.1 x HS.out
  have hbA := hbA.trans (hb.mono hbA.size)
  have ba := ba.below' hb
  have bb := bb.below' hb
  clear hb hq
  go_wp2_with fail
  generalize hW : w4.alloc _ = w5
  obtain ⟨hb, bz, -⟩ := boxesA1 hW
  clear hW
  have hbA := hbA.trans (hb.mono hbA.size)
  have ba := ba.below' hb
  have bb := bb.below' hb
  have h9 := h9.below hb
  clear hb
  generalize w4.heap.size = gz at *
  have KX : Hid (∀ w', Below w5.heap.size w5 w' → Fr w' 40 pa Aa na ca Ba ma da x) := fun w' h => (hx.below (hbA.trans (h.mono hbA.size))).up (by omega)
  have KY : Hid (∀ w', Below w5.heap.size w5 w' → Fr w' 40 pb Ab nb cb Bb mb db y) := fun w' h => (hy.below (hbA.trans (h.mono hbA.size))).up (by omega)
  have lt0 := ba.lt
  have lt1 := bb.lt
  have lt2 := bz.lt
  have KT : Hid (∀ w', Below w5.heap.size w5 w' → w'.cell? ⟨w.heap.size, 0, none⟩ = some (.bool pa) ∧ w'.cell? ⟨w.heap.size, 1, none⟩ = some (.slice Aa na ca) ∧ w'.cell? ⟨w.heap.size, 2, none⟩ = some (.slice Ba ma da) ∧ w'.cell? ⟨w.heap.size + 1, 0, none⟩ = some (.bool pb) ∧ w'.cell? ⟨w.heap.size + 1, 1, none⟩ = some (.slice Ab nb cb) ∧ w'.cell? ⟨w.heap.size + 1, 2, none⟩ = some (.slice Bb mb db) ∧ w'.cell? ⟨gz, 0, none⟩ = some (.bool p9) ∧ w'.cell? ⟨gz, 1, none⟩ = some (.slice A9 n9 c9) ∧ w'.cell? ⟨gz, 2, none⟩ = some (.slice B9 m9 d9)) := fun w' h =>
    ⟨(ba.below h lt0).at_ 0, (ba.below h lt0).at_ 1, (ba.below h lt0).at_ 2, (bb.below h lt1).at_ 0, (bb.below h lt1).at_ 1, (bb.below h lt1).at_ 2, (bz.below h lt2).at_ 0, (bz.below h lt2).at_ 1, (bz.below h lt2).at_ 2⟩
  have P0 : Below w5.heap.size w5 w5.drew := (Below.refl _ _).drew
  have KZ : Hid (∀ w', Below w5.heap.size w5 w' → Fc w' p9 A9 n9 c9 B9 m9 d9 x) := fun w' h => h9.below h
  have KTab : Hid (∀ w', Below w5.heap.size w5 w' → Tab w') := fun w' h => ((HT0.out.below hbA).below h).tab
  clear ba bb bz h9 hx hy
  go_wp2_with fail
  go_region_held3 (fun w' => w'.cell? ⟨w.heap.size, 0, none⟩ = some (.bool pa) ∧ w'.cell? ⟨w.heap.size, 1, none⟩ = some (.slice Aa na ca) ∧ w'.cell? ⟨w.heap.size, 2, none⟩ = some (.slice Ba ma da) ∧ w'.cell? ⟨w.heap.size + 1, 0, none⟩ = some (.bool pb) ∧ w'.cell? ⟨w.heap.size + 1, 1, none⟩ = some (.slice Ab nb cb) ∧ w'.cell? ⟨w.heap.size + 1, 2, none⟩ = some (.slice Bb mb db) ∧ w'.cell? ⟨gz, 0, none⟩ = some (.bool p9) ∧ w'.cell? ⟨gz, 1, none⟩ = some (.slice A9 n9 c9) ∧ w'.cell? ⟨gz, 2, none⟩ = some (.slice B9 m9 d9))
    (first | exact KT.out _ E14 | exact KT.out _ E13 | exact KT.out _ E12 | exact KT.out _ E11 | exact KT.out _ E10 | exact KT.out _ P0 | exact KT.out _ (Below.refl _ _))
    (first
      | (go_at_call 12; (with_reducible refine (gtext_f (L := 40) (KX.out _ P0) (by omega) (by omega) S HS.out).mono ?_); rintro e w10 ⟨rfl, hb10⟩; have E10 : Below w5.heap.size w5 w10 := (P0).trans (hb10.mono (P0).size))
      | (go_at_call_of 14 (Value.slice Aa na ca); (with_reducible refine (fnorm_f (L := 40) (KX.out _ E10) (by omega) (by omega)).mono ?_); rintro e w11 ⟨p11, A11, n11, c11, B11, m11, d11, rfl, h11, hb11⟩; have E11 : Below w5.heap.size w5 w11 := (E10).trans (hb11.mono (E10).size))
      | (go_at_call_of 13 (Value.slice A9 n9 c9); (with_reducible refine (fbase_f (KZ.out _ E11) h11 TX.out (by omega)).mono ?_); rintro e w12 ⟨rfl, hb12⟩; have E12 : Below w5.heap.size w5 w12 := (E11).trans (hb12.mono (E11).size))
      | (go_at_call 10; (with_reducible refine (ftext_s (L := 40) (KY.out _ E12) (by omega) (by omega) (KTab.out _ E12) S HS2.out).mono ?_); rintro e w13 ⟨rfl, hb13⟩; have E13 : Below w5.heap.size w5 w13 := (E12).trans (hb13.mono (E12).size))
      | (go_at_call 15; (with_reducible refine (fcmp_f (L := 40) (KX.out _ E13) (KY.out _ E13) (by omega) (by omega) 0 HO.out).mono ?_); rintro e w14 ⟨rfl, hb14⟩; have E14 : Below w5.heap.size w5 w14 := (E13).trans (hb14.mono (E13).size)))
  clear E10 E11 E12 E13 hb10 hb11 hb12 hb13 hb14 h11
  have hbZ := hbA.trans ((E14).mono hbA.size)
  clear E14 KT P0
  go_wp2
  go_ret
  exact ⟨rfl, hbZ⟩
set_option maxHeartbeats 16000000 in
set_option maxRecDepth 100000 in
theorem ztexts_ne (HA : Hid Awake) (pa : Bool) (Aa : Option Addr) (na ca : Nat) (Ba : Option Addr) (ma da : Nat) (pb : Bool) (Ab : Option Addr) (nb cb : Nat) (Bb : Option Addr) (mb db : Nat) (x : Rat) (y : Rat) (w : World) (hx : Fr w 6 pa Aa na ca Ba ma da x) (hy : Fr w 6 pb Ab nb cb Bb mb db y) (hT : Zw w) (S : ByteArray) (hS : qtext x = S) (S2 : ByteArray) (hS2 : qtext y = S2) (hne : S ≠ S2) (o : Int) (ho : cs x y = o) (ho2 : (o == 0) = false) (hf : (na ≤ 6 ∧ ma ≤ 6) ∧ nb ≤ 6 ∧ mb ≤ 6) :
    Calls Tryz.prog 3 #[.agg #[.bool pa, .slice Aa na ca, .slice Ba ma da], .agg #[.bool pb, .slice Ab nb cb, .slice Bb mb db]] w fun e w' => e = .returned (.bool true) ∧ Below w.heap.size w w' := by
  have HFW := hide hf
  have HT0 := hide hT
  clear hf hT
  have TX := hide (show Ht x 40 from hx.ht.up (by omega))
  have HS := hide hS
  have HS2 := hide hS2
  have HO := hide ho
  have HZ := hide (show S.size ≤ 4000 from by rw [← hS]; exact text_size hx.ht (by omega))
  have hse := str_ne hne
  clear hS hS2 ho hne
  go_enter Tryz.func3, Tryz.ntmps3
  go_wp2_with fail
  generalize hW : (w.alloc _).alloc _ = W
  obtain ⟨hbW, ba, bb, -⟩ := boxesA2 hW
  clear hW
  refine (HA.out _ (HT0.out.below hbW).tab).mono ?_
  rintro e w1 ⟨rfl, hb1⟩
  have hbA := hbW.trans (hb1.mono hbW.size)
  have ba := ba.below' hb1
  have bb := bb.below' hb1
  clear hb1 hbW
  have k0 : w1.cell? ⟨w.heap.size, 0, none⟩ = some (.bool pa) := ba.at_ 0
  have k1 : w1.cell? ⟨w.heap.size, 1, none⟩ = some (.slice Aa na ca) := ba.at_ 1
  have k2 : w1.cell? ⟨w.heap.size, 2, none⟩ = some (.slice Ba ma da) := ba.at_ 2
  have lt0 := ba.lt
  have k3 : w1.cell? ⟨w.heap.size + 1, 0, none⟩ = some (.bool pb) := bb.at_ 0
  have k4 : w1.cell? ⟨w.heap.size + 1, 1, none⟩ = some (.slice Ab nb cb) := bb.at_ 1
  have k5 : w1.cell? ⟨w.heap.size + 1, 2, none⟩ = some (.slice Bb mb db) := bb.at_ 2
  have lt1 := bb.lt
  go_wp2_with fail
  clear k0 k1 k2 lt0 k3 k4 k5 lt1
  generalize hW : w1.alloc _ = W1
  obtain ⟨hb, hfew⟩ := few2 hW
  clear hW
  have hbA := hbA.trans (hb.mono hbA.size)
  have ba := ba.below' hb
  have bb := bb.below' hb
  clear hb
  refine (few_any _ 2 2 _ _ _ (by simp [maxLen]) hfew true (by rw [isFew2]; simp [HFW.out])).mono ?_
  rintro e w2 ⟨rfl, rfl⟩
  clear hfew
  have k0 : w2.cell? ⟨w.heap.size, 0, none⟩ = some (.bool pa) := ba.at_ 0
  have k1 : w2.cell? ⟨w.heap.size, 1, none⟩ = some (.slice Aa na ca) := ba.at_ 1
  have k2 : w2.cell? ⟨w.heap.size, 2, none⟩ = some (.slice Ba ma da) := ba.at_ 2
  have lt0 := ba.lt
  go_wp2_with fail
  clear k0 k1 k2 lt0
  refine (ftext_s (L := 6) (hx.below hbA) (by omega) (by omega) (HT0.out.below hbA).tab S HS.out).mono ?_
  rintro e w3 ⟨rfl, hb⟩
  have hbA := hbA.trans (hb.mono hbA.size)
  have ba := ba.below' hb
  have bb := bb.below' hb
  clear hb
  go_wp2_with fail
  refine (fparse_any S _ (HT0.out.below hbA) HZ.out).mono ?_
  rintro e w4 hq
  obtain ⟨p9, A9, n9, c9, B9, m9, d9, rfl, h9, hb⟩ := hq.1 x HS.out
  have hbA := hbA.trans (hb.mono hbA.size)
  have ba := ba.below' hb
  have bb := bb.below' hb
  clear hb hq
  go_wp2_with fail
  generalize hW : w4.alloc _ = w5
  obtain ⟨hb, bz, -⟩ := boxesA1 hW
  clear hW
  have hbA := hbA.trans (hb.mono hbA.size)
  have ba := ba.below' hb
  have bb := bb.below' hb
  have h9 := h9.below hb
  clear hb
  generalize w4.heap.size = gz at *
  have KX : Hid (∀ w', Below w5.heap.size w5 w' → Fr w' 40 pa Aa na ca Ba ma da x) := fun w' h => (hx.below (hbA.trans (h.mono hbA.size))).up (by omega)
  have KY : Hid (∀ w', Below w5.heap.size w5 w' → Fr w' 40 pb Ab nb cb Bb mb db y) := fun w' h => (hy.below (hbA.trans (h.mono hbA.size))).up (by omega)
  have lt0 := ba.lt
  have lt1 := bb.lt
  have lt2 := bz.lt
  have KT : Hid (∀ w', Below w5.heap.size w5 w' → w'.cell? ⟨w.heap.size, 0, none⟩ = some (.bool pa) ∧ w'.cell? ⟨w.heap.size, 1, none⟩ = some (.slice Aa na ca) ∧ w'.cell? ⟨w.heap.size, 2, none⟩ = some (.slice Ba ma da) ∧ w'.cell? ⟨w.heap.size + 1, 0, none⟩ = some (.bool pb) ∧ w'.cell? ⟨w.heap.size + 1, 1, none⟩ = some (.slice Ab nb cb) ∧ w'.cell? ⟨w.heap.size + 1, 2, none⟩ = some (.slice Bb mb db) ∧ w'.cell? ⟨gz, 0, none⟩ = some (.bool p9) ∧ w'.cell? ⟨gz, 1, none⟩ = some (.slice A9 n9 c9) ∧ w'.cell? ⟨gz, 2, none⟩ = some (.slice B9 m9 d9)) := fun w' h =>
    ⟨(ba.below h lt0).at_ 0, (ba.below h lt0).at_ 1, (ba.below h lt0).at_ 2, (bb.below h lt1).at_ 0, (bb.below h lt1).at_ 1, (bb.below h lt1).at_ 2, (bz.below h lt2).at_ 0, (bz.below h lt2).at_ 1, (bz.below h lt2).at_ 2⟩
  have P0 : Below w5.heap.size w5 w5.drew := (Below.refl _ _).drew
  have KZ : Hid (∀ w', Below w5.heap.size w5 w' → Fc w' p9 A9 n9 c9 B9 m9 d9 x) := fun w' h => h9.below h
  have KTab : Hid (∀ w', Below w5.heap.size w5 w' → Tab w') := fun w' h => ((HT0.out.below hbA).below h).tab
  clear ba bb bz h9 hx hy
  go_wp2_with fail
  go_region_held3 (fun w' => w'.cell? ⟨w.heap.size, 0, none⟩ = some (.bool pa) ∧ w'.cell? ⟨w.heap.size, 1, none⟩ = some (.slice Aa na ca) ∧ w'.cell? ⟨w.heap.size, 2, none⟩ = some (.slice Ba ma da) ∧ w'.cell? ⟨w.heap.size + 1, 0, none⟩ = some (.bool pb) ∧ w'.cell? ⟨w.heap.size + 1, 1, none⟩ = some (.slice Ab nb cb) ∧ w'.cell? ⟨w.heap.size + 1, 2, none⟩ = some (.slice Bb mb db) ∧ w'.cell? ⟨gz, 0, none⟩ = some (.bool p9) ∧ w'.cell? ⟨gz, 1, none⟩ = some (.slice A9 n9 c9) ∧ w'.cell? ⟨gz, 2, none⟩ = some (.slice B9 m9 d9))
    (first | exact KT.out _ E14 | exact KT.out _ E13 | exact KT.out _ E12 | exact KT.out _ E11 | exact KT.out _ E10 | exact KT.out _ P0 | exact KT.out _ (Below.refl _ _))
    (first
      | (go_at_call 12; (with_reducible refine (gtext_f (L := 40) (KX.out _ P0) (by omega) (by omega) S HS.out).mono ?_); rintro e w10 ⟨rfl, hb10⟩; have E10 : Below w5.heap.size w5 w10 := (P0).trans (hb10.mono (P0).size))
      | (go_at_call_of 14 (Value.slice Aa na ca); (with_reducible refine (fnorm_f (L := 40) (KX.out _ E10) (by omega) (by omega)).mono ?_); rintro e w11 ⟨p11, A11, n11, c11, B11, m11, d11, rfl, h11, hb11⟩; have E11 : Below w5.heap.size w5 w11 := (E10).trans (hb11.mono (E10).size))
      | (go_at_call_of 13 (Value.slice A9 n9 c9); (with_reducible refine (fbase_f (KZ.out _ E11) h11 TX.out (by omega)).mono ?_); rintro e w12 ⟨rfl, hb12⟩; have E12 : Below w5.heap.size w5 w12 := (E11).trans (hb12.mono (E11).size))
      | (go_at_call 10; (with_reducible refine (ftext_s (L := 40) (KY.out _ E12) (by omega) (by omega) (KTab.out _ E12) S2 HS2.out).mono ?_); rintro e w13 ⟨rfl, hb13⟩; have E13 : Below w5.heap.size w5 w13 := (E12).trans (hb13.mono (E12).size))
      | (go_at_call 15; (with_reducible refine (fcmp_f (L := 40) (KX.out _ E13) (KY.out _ E13) (by omega) (by omega) o HO.out).mono ?_); rintro e w14 ⟨rfl, hb14⟩; have E14 : Below w5.heap.size w5 w14 := (E13).trans (hb14.mono (E13).size)))
  clear E10 E11 E12 E13 hb10 hb11 hb12 hb13 hb14 h11
  have hbZ := hbA.trans ((E14).mono hbA.size)
  clear E14 KT P0
  go_wp2
  go_ret
  exact ⟨rfl, hbZ⟩
set_option maxHeartbeats 16000000 in
set_option maxRecDepth 100000 in
theorem ztexts_no (HA : Hid Awake) (pa : Bool) (Aa : Option Addr) (na ca : Nat) (Ba : Option Addr) (ma da : Nat) (pb : Bool) (Ab : Option Addr) (nb cb : Nat) (Bb : Option Addr) (mb db : Nat)  (w : World)  (hT : Zw w) (hf : ¬((na ≤ 6 ∧ ma ≤ 6) ∧ nb ≤ 6 ∧ mb ≤ 6)) :
    Calls Tryz.prog 3 #[.agg #[.bool pa, .slice Aa na ca, .slice Ba ma da], .agg #[.bool pb, .slice Ab nb cb, .slice Bb mb db]] w fun e w' => e = .returned (.bool true) ∧ Below w.heap.size w w' := by
  have HFW := hide hf
  have HT0 := hide hT
  clear hf hT
  go_enter Tryz.func3, Tryz.ntmps3
  go_wp2_with fail
  generalize hW : (w.alloc _).alloc _ = W
  obtain ⟨hbW, ba, bb, -⟩ := boxesA2 hW
  clear hW
  refine (HA.out _ (HT0.out.below hbW).tab).mono ?_
  rintro e w1 ⟨rfl, hb1⟩
  have hbA := hbW.trans (hb1.mono hbW.size)
  have ba := ba.below' hb1
  have bb := bb.below' hb1
  clear hb1 hbW
  have k0 : w1.cell? ⟨w.heap.size, 0, none⟩ = some (.bool pa) := ba.at_ 0
  have k1 : w1.cell? ⟨w.heap.size, 1, none⟩ = some (.slice Aa na ca) := ba.at_ 1
  have k2 : w1.cell? ⟨w.heap.size, 2, none⟩ = some (.slice Ba ma da) := ba.at_ 2
  have lt0 := ba.lt
  have k3 : w1.cell? ⟨w.heap.size + 1, 0, none⟩ = some (.bool pb) := bb.at_ 0
  have k4 : w1.cell? ⟨w.heap.size + 1, 1, none⟩ = some (.slice Ab nb cb) := bb.at_ 1
  have k5 : w1.cell? ⟨w.heap.size + 1, 2, none⟩ = some (.slice Bb mb db) := bb.at_ 2
  have lt1 := bb.lt
  go_wp2_with fail
  clear k0 k1 k2 lt0 k3 k4 k5 lt1
  generalize hW : w1.alloc _ = W1
  obtain ⟨hb, hfew⟩ := few2 hW
  clear hW
  have hbA := hbA.trans (hb.mono hbA.size)
  have ba := ba.below' hb
  have bb := bb.below' hb
  clear hb
  refine (few_any _ 2 2 _ _ _ (by simp [maxLen]) hfew false ⟨fun h => absurd (isFew2.1 h) HFW.out, fun h => by cases h⟩).mono ?_
  rintro e w2 ⟨rfl, rfl⟩
  clear hfew
  go_wp2_with fail
  refine (HA.out _ (HT0.out.below hbA).tab).mono ?_
  rintro e w3 ⟨rfl, hb3⟩
  have hbZ := hbA.trans (hb3.mono hbA.size)
  clear hb3 hbA
  go_wp2
  go_ret
  exact ⟨rfl, hbZ⟩
end Go.Proofs.YtgfdeihfinlfoaaGreatDoor
