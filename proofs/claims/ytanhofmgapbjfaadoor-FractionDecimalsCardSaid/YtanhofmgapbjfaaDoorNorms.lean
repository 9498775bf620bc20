/- FractionNorms and FractionSums: the walks. -/
import Derived.Test.YtanhofmgapbjfaaDoorField
import Derived.Test.YtanhofmgapbjfaaDoorGSub
namespace Go.Proofs.YtanhofmgapbjfaaDoor
open Go Go.RowKit

theorem few1 {w W : World} {t : TypeId} {p1 : Bool} {A1 B1 : Option Addr} {n1 c1 m1 d1 : Nat} (hW : w.alloc (.cells #[.bool p1, .slice A1 n1 c1, .slice B1 m1 d1] t) = W) :
    Below w.heap.size w W ∧ FewL W (some ⟨w.heap.size, 0, none⟩) 1 (fun _ => n1) (fun _ => m1) := by
  obtain ⟨h1, h2, -⟩ := boxesA1 hW
  refine ⟨h1, fun _ => ⟨_, _, rfl, fun i hi => ?_⟩⟩
  obtain rfl : i = 0 := by omega
  exact ⟨A1, c1, B1, d1, h2.at_ 1, h2.at_ 2⟩
theorem isFew1 {n1 m1 : Nat} : isFew 1 (fun _ => n1) (fun _ => m1) ↔ n1 ≤ 6 ∧ m1 ≤ 6 :=
  ⟨fun h => h.1 0 (by omega), fun h => ⟨fun _ _ => h, by omega⟩⟩
theorem few2 {w W : World} {t : TypeId} {p1 p2 : Bool} {A1 B1 A2 B2 : Option Addr} {n1 c1 m1 d1 n2 c2 m2 d2 : Nat} (hW : w.alloc (.cells #[.bool p1, .slice A1 n1 c1, .slice B1 m1 d1, .bool p2, .slice A2 n2 c2, .slice B2 m2 d2] t) = W) :
    Below w.heap.size w W ∧ FewL W (some ⟨w.heap.size, 0, none⟩) 2 (fun i => if i = 0 then n1 else n2) (fun i => if i = 0 then m1 else m2) := by
  obtain ⟨h1, h2, -⟩ := boxesA1 hW
  refine ⟨h1, fun _ => ⟨_, _, rfl, fun i hi => ?_⟩⟩
  have h0 : i = 0 ∨ i = 1 := by omega
  rcases h0 with rfl | rfl
  · exact ⟨A1, c1, B1, d1, h2.at_ 1, h2.at_ 2⟩
  · exact ⟨A2, c2, B2, d2, h2.at_ 4, h2.at_ 5⟩
theorem isFew2 {n1 m1 n2 m2 : Nat} : isFew 2 (fun i => if i = 0 then n1 else n2) (fun i => if i = 0 then m1 else m2) ↔ (n1 ≤ 6 ∧ m1 ≤ 6) ∧ n2 ≤ 6 ∧ m2 ≤ 6 := by
  constructor
  · intro h
    exact ⟨h.1 0 (by omega), h.1 1 (by omega)⟩
  · intro h
    refine ⟨fun i hi => ?_, by omega⟩
    have h0 : i = 0 ∨ i = 1 := by omega
    rcases h0 with rfl | rfl
    · exact h.1
    · exact h.2
set_option maxHeartbeats 16000000 in
set_option maxRecDepth 100000 in
theorem norms_yes (HA : Hid Awake) (i j : Int) (i1 : -9223372036854775808 ≤ i) (i2 : i ≤ 9223372036854775807) (j1 : -9223372036854775808 ≤ j) (j2 : j ≤ 9223372036854775807) (pa : Bool) (Aa : Option Addr) (na ca : Nat) (Ba : Option Addr) (ma da : Nat) (x : Rat) (w : World) (hx : Fr w 6 pa Aa na ca Ba ma da x) (hT : Tab w) (hf : na ≤ 6 ∧ ma ≤ 6) :
    Calls Tryd.prog 3 #[.int .i64 i, .int .i64 j, .agg #[.bool pa, .slice Aa na ca, .slice Ba ma da]] w fun e w' => e = .returned (.bool true) ∧ Below w.heap.size w w' := by
  have HFW := hide hf
  have HT0 := hide hT
  clear hf hT
  have TQ := hide (show Ht ((i : Rat) / (j : Rat)) 40 from Ht.up (Ht.div (Ht.int (i := 3) (by show i.natAbs < 1000000000 ^ 3; omega) (by omega)) (Ht.int (i := 3) (by show j.natAbs < 1000000000 ^ 3; omega) (by omega))) (by omega))
  have TX := hide (show Ht x 40 from hx.ht.up (by omega))
  have TN := hide (show Ht (-x) 40 from hx.ht.neg.up (by omega))
  obtain ⟨o, ho⟩ : ∃ o, x.num.sign = o := ⟨_, rfl⟩
  have HO := hide ho
  have I1 := hide (show -9223372036854775808 ≤ i ∧ i ≤ 9223372036854775807 from ⟨i1, i2⟩)
  have J1 := hide (show -9223372036854775808 ≤ j ∧ j ≤ 9223372036854775807 from ⟨j1, j2⟩)
  clear ho i1 i2 j1 j2
  go_enter Tryd.func3, Tryd.ntmps3
  go_wp2_with fail
  generalize hW : w.alloc _ = W
  obtain ⟨hbW, ba, -⟩ := boxesA1 hW
  clear hW
  refine (HA.out _ (HT0.out.below hbW)).mono ?_
  rintro e w1 ⟨rfl, hb1⟩
  have hbA := hbW.trans (hb1.mono hbW.size)
  have ba := ba.below' hb1
  clear hb1 hbW
  have k0 : w1.cell? ⟨w.heap.size, 0, none⟩ = some (.bool pa) := ba.at_ 0
  have k1 : w1.cell? ⟨w.heap.size, 1, none⟩ = some (.slice Aa na ca) := ba.at_ 1
  have k2 : w1.cell? ⟨w.heap.size, 2, none⟩ = some (.slice Ba ma da) := ba.at_ 2
  have lt0 := ba.lt
  go_wp2_with fail
  clear k0 k1 k2 lt0
  generalize hW : w1.alloc _ = W1
  obtain ⟨hb, hfew⟩ := few1 hW
  clear hW
  have hbA := hbA.trans (hb.mono hbA.size)
  have ba := ba.below' hb
  clear hb
  refine (few_any _ 1 1 _ _ _ (by simp [maxLen]) hfew true (by rw [isFew1]; simp [HFW.out])).mono ?_
  rintro e w2 ⟨rfl, rfl⟩
  clear hfew
  have KX : Hid (∀ w', Below w2.heap.size w2 w' → Fr w' 40 pa Aa na ca Ba ma da x) := fun w' h => (hx.below (hbA.trans (h.mono hbA.size))).up (by omega)
  have lt0 := ba.lt
  have KT : Hid (∀ w', Below w2.heap.size w2 w' → w'.cell? ⟨w.heap.size, 0, none⟩ = some (.bool pa) ∧ w'.cell? ⟨w.heap.size, 1, none⟩ = some (.slice Aa na ca) ∧ w'.cell? ⟨w.heap.size, 2, none⟩ = some (.slice Ba ma da)) := fun w' h =>
    ⟨(ba.below h lt0).at_ 0, (ba.below h lt0).at_ 1, (ba.below h lt0).at_ 2⟩
  have P0 : Below w2.heap.size w2 w2.drew := (Below.refl _ _).drew
  clear ba hx
  go_wp2_with fail
  go_region_held3 (fun w' => w'.cell? ⟨w.heap.size, 0, none⟩ = some (.bool pa) ∧ w'.cell? ⟨w.heap.size, 1, none⟩ = some (.slice Aa na ca) ∧ w'.cell? ⟨w.heap.size, 2, none⟩ = some (.slice Ba ma da))
    (first | exact KT.out _ E20 | exact KT.out _ E19 | exact KT.out _ E18 | exact KT.out _ E17 | exact KT.out _ E16 | exact KT.out _ E15 | exact KT.out _ E14 | exact KT.out _ E13 | exact KT.out _ E12 | exact KT.out _ E11 | exact KT.out _ E10 | exact KT.out _ P0 | exact KT.out _ (Below.refl _ _))
    (first
      | (go_at_call 12; (with_reducible refine (fof_f i j _ I1.out.1 I1.out.2 J1.out.1 J1.out.2 ((i : Rat) / (j : Rat)) rfl).mono ?_); rintro e w10 ⟨p10, A10, n10, c10, B10, m10, d10, rfl, h10, hb10⟩; have E10 : Below w2.heap.size w2 w10 := (P0).trans (hb10.mono (P0).size))
      | (go_at_call 13; (with_reducible refine (gof_f i j _ I1.out.1 I1.out.2 J1.out.1 J1.out.2 ((i : Rat) / (j : Rat)) rfl).mono ?_); rintro e w11 ⟨p11, A11, n11, c11, B11, m11, d11, rfl, h11, hb11⟩; have E11 : Below w2.heap.size w2 w11 := (E10).trans (hb11.mono (E10).size))
      | (go_at_call_of 11 (Value.slice A10 n10 c10); (with_reducible refine (fbase_f (h10.below hb11) h11 TQ.out (by omega)).mono ?_); rintro e w12 ⟨rfl, hb12⟩; have E12 : Below w2.heap.size w2 w12 := (E11).trans (hb12.mono (E11).size))
      | (go_at_call_of 14 (Value.slice Aa na ca); (with_reducible refine (fnorm_f (L := 40) (KX.out _ E12) (by omega) (by omega)).mono ?_); rintro e w13 ⟨p13, A13, n13, c13, B13, m13, d13, rfl, h13, hb13⟩; have E13 : Below w2.heap.size w2 w13 := (E12).trans (hb13.mono (E12).size))
      | (go_at_call_of 15 (Value.slice Aa na ca); (with_reducible refine (gnorm_f (L := 40) (KX.out _ E13) (by omega) (by omega) (x) rfl).mono ?_); rintro e w14 ⟨p14, A14, n14, c14, B14, m14, d14, rfl, h14, hb14⟩; have E14 : Below w2.heap.size w2 w14 := (E13).trans (hb14.mono (E13).size))
      | (go_at_call_of 11 (Value.slice A13 n13 c13); (with_reducible refine (fbase_f (h13.below hb14) h14 TX.out (by omega)).mono ?_); rintro e w15 ⟨rfl, hb15⟩; have E15 : Below w2.heap.size w2 w15 := (E14).trans (hb15.mono (E14).size))
      | (go_at_call_of 16 (Value.slice Aa na ca); (with_reducible refine (fneg_f (L := 40) (KX.out _ E15) (by omega) (by omega) (-x) rfl).mono ?_); rintro e w16 ⟨p16, A16, n16, c16, B16, m16, d16, rfl, h16, hb16⟩; have E16 : Below w2.heap.size w2 w16 := (E15).trans (hb16.mono (E15).size))
      | (go_at_call_of 17 (Value.slice Aa na ca); (with_reducible refine (gneg_f (L := 40) (KX.out _ E16) (by omega) (by omega) (-x) rfl).mono ?_); rintro e w17 ⟨p17, A17, n17, c17, B17, m17, d17, rfl, h17, hb17⟩; have E17 : Below w2.heap.size w2 w17 := (E16).trans (hb17.mono (E16).size))
      | (go_at_call_of 11 (Value.slice A16 n16 c16); (with_reducible refine (fbase_f (h16.below hb17) h17 TN.out (by omega)).mono ?_); rintro e w18 ⟨rfl, hb18⟩; have E18 : Below w2.heap.size w2 w18 := (E17).trans (hb18.mono (E17).size))
      | (go_at_call_of 18 (Value.slice Aa na ca); (with_reducible refine (fsign_f (L := 40) (KX.out _ E18) (by omega) o HO.out).mono ?_); rintro e w19 ⟨rfl, hb19⟩; have E19 : Below w2.heap.size w2 w19 := (E18).trans (hb19.mono (E18).size))
      | (go_at_call_of 19 (Value.slice Aa na ca); (with_reducible refine (gsign_f (L := 40) (KX.out _ E19) (by omega) (by omega) o HO.out).mono ?_); rintro e w20 ⟨rfl, hb20⟩; have E20 : Below w2.heap.size w2 w20 := (E19).trans (hb20.mono (E19).size)))
  clear E10 E11 E12 E13 E14 E15 E16 E17 E18 E19 hb10 hb11 hb12 hb13 hb14 hb15 hb16 hb17 hb18 hb19 hb20 h10 h11 h13 h14 h16 h17
  have hbZ := hbA.trans ((E20).mono hbA.size)
  clear E20 KT P0
  go_wp2
  go_ret
  exact ⟨rfl, hbZ⟩
set_option maxHeartbeats 16000000 in
set_option maxRecDepth 100000 in
theorem norms_no (HA : Hid Awake) (i j : Int) (_i1 : -9223372036854775808 ≤ i) (_i2 : i ≤ 9223372036854775807) (_j1 : -9223372036854775808 ≤ j) (_j2 : j ≤ 9223372036854775807) (pa : Bool) (Aa : Option Addr) (na ca : Nat) (Ba : Option Addr) (ma da : Nat)  (w : World)  (hT : Tab w) (hf : ¬(na ≤ 6 ∧ ma ≤ 6)) :
    Calls Tryd.prog 3 #[.int .i64 i, .int .i64 j, .agg #[.bool pa, .slice Aa na ca, .slice Ba ma da]] w fun e w' => e = .returned (.bool true) ∧ Below w.heap.size w w' := by
  have HFW := hide hf
  have HT0 := hide hT
  clear hf hT
  go_enter Tryd.func3, Tryd.ntmps3
  go_wp2_with fail
  generalize hW : w.alloc _ = W
  obtain ⟨hbW, ba, -⟩ := boxesA1 hW
  clear hW
  refine (HA.out _ (HT0.out.below hbW)).mono ?_
  rintro e w1 ⟨rfl, hb1⟩
  have hbA := hbW.trans (hb1.mono hbW.size)
  have ba := ba.below' hb1
  clear hb1 hbW
  have k0 : w1.cell? ⟨w.heap.size, 0, none⟩ = some (.bool pa) := ba.at_ 0
  have k1 : w1.cell? ⟨w.heap.size, 1, none⟩ = some (.slice Aa na ca) := ba.at_ 1
  have k2 : w1.cell? ⟨w.heap.size, 2, none⟩ = some (.slice Ba ma da) := ba.at_ 2
  have lt0 := ba.lt
  go_wp2_with fail
  clear k0 k1 k2 lt0
  generalize hW : w1.alloc _ = W1
  obtain ⟨hb, hfew⟩ := few1 hW
  clear hW
  have hbA := hbA.trans (hb.mono hbA.size)
  have ba := ba.below' hb
  clear hb
  refine (few_any _ 1 1 _ _ _ (by simp [maxLen]) hfew false ⟨fun h => absurd (isFew1.1 h) HFW.out, fun h => by cases h⟩).mono ?_
  rintro e w2 ⟨rfl, rfl⟩
  clear hfew
  go_wp2_with fail
  refine (HA.out _ (HT0.out.below hbA)).mono ?_
  rintro e w3 ⟨rfl, hb3⟩
  have hbZ := hbA.trans (hb3.mono hbA.size)
  clear hb3 hbA
  go_wp2
  go_ret
  exact ⟨rfl, hbZ⟩
set_option maxHeartbeats 16000000 in
set_option maxRecDepth 100000 in
theorem sums_yes (HA : Hid Awake) (pa : Bool) (Aa : Option Addr) (na ca : Nat) (Ba : Option Addr) (ma da : Nat) (pb : Bool) (Ab : Option Addr) (nb cb : Nat) (Bb : Option Addr) (mb db : Nat) (x : Rat) (y : Rat) (w : World) (hx : Fr w 6 pa Aa na ca Ba ma da x) (hy : Fr w 6 pb Ab nb cb Bb mb db y) (hT : Tab w) (hf : (na ≤ 6 ∧ ma ≤ 6) ∧ nb ≤ 6 ∧ mb ≤ 6) :
    Calls Tryd.prog 4 #[.agg #[.bool pa, .slice Aa na ca, .slice Ba ma da], .agg #[.bool pb, .slice Ab nb cb, .slice Bb mb db]] w fun e w' => e = .returned (.bool true) ∧ Below w.heap.size w w' := by
  have HFW := hide hf
  have HT0 := hide hT
  clear hf hT
  have TX := hide (show Ht x 40 from hx.ht.up (by omega))
  have TA := hide (show Ht (x + y) 40 from (hx.ht.add hy.ht).up (by omega))
  have TS := hide (show Ht (x - y) 40 from (hx.ht.sub hy.ht).up (by omega))
  have TM := hide (show Ht (x * y) 40 from (hx.ht.mul hy.ht).up (by omega))
  obtain ⟨o, ho⟩ : ∃ o, cs x y = o := ⟨_, rfl⟩
  have HO := hide ho
  clear ho
  go_enter Tryd.func4, Tryd.ntmps4
  go_wp2_with fail
  generalize hW : (w.alloc _).alloc _ = W
  obtain ⟨hbW, ba, bb, -⟩ := boxesA2 hW
  clear hW
  refine (HA.out _ (HT0.out.below hbW)).mono ?_
  rintro e w1 ⟨rfl, hb1⟩
  have hbA := hbW.trans (hb1.mono hbW.size)
  have ba := ba.below' hb1
  have bb := bb.below' hb1
  clear hb1 hbW
  have k0 : w1.cell? ⟨w.heap.size, 0, none⟩ = some (.bool pa) := ba.at_ 0
  have k1 : w1.cell? ⟨w.heap.size, 1, none⟩ = some (.slice Aa na ca) := ba.at_ 1
  have k2 : w1.cell? ⟨w.heap.size, 2, none⟩ = some (.slice Ba ma da) := ba.at_ 2
  have lt0 := ba.lt
  have k3 : w1.cell? ⟨w.heap.size + 1, 0, none⟩ = some (.bool pb) := bb.at_ 0
  have k4 : w1.cell? ⟨w.heap.size + 1, 1, none⟩ = some (.slice Ab nb cb) := bb.at_ 1
  have k5 : w1.cell? ⟨w.heap.size + 1, 2, none⟩ = some (.slice Bb mb db) := bb.at_ 2
  have lt1 := bb.lt
  go_wp2_with fail
  clear k0 k1 k2 lt0 k3 k4 k5 lt1
  generalize hW : w1.alloc _ = W1
  obtain ⟨hb, hfew⟩ := few2 hW
  clear hW
  have hbA := hbA.trans (hb.mono hbA.size)
  have ba := ba.below' hb
  have bb := bb.below' hb
  clear hb
  refine (few_any _ 2 2 _ _ _ (by simp [maxLen]) hfew true (by rw [isFew2]; simp [HFW.out])).mono ?_
  rintro e w2 ⟨rfl, rfl⟩
  clear hfew
  have KX : Hid (∀ w', Below w2.heap.size w2 w' → Fr w' 40 pa Aa na ca Ba ma da x) := fun w' h => (hx.below (hbA.trans (h.mono hbA.size))).up (by omega)
  have KY : Hid (∀ w', Below w2.heap.size w2 w' → Fr w' 40 pb Ab nb cb Bb mb db y) := fun w' h => (hy.below (hbA.trans (h.mono hbA.size))).up (by omega)
  have lt0 := ba.lt
  have lt1 := bb.lt
  have KT : Hid (∀ w', Below w2.heap.size w2 w' → w'.cell? ⟨w.heap.size, 0, none⟩ = some (.bool pa) ∧ w'.cell? ⟨w.heap.size, 1, none⟩ = some (.slice Aa na ca) ∧ w'.cell? ⟨w.heap.size, 2, none⟩ = some (.slice Ba ma da) ∧ w'.cell? ⟨w.heap.size + 1, 0, none⟩ = some (.bool pb) ∧ w'.cell? ⟨w.heap.size + 1, 1, none⟩ = some (.slice Ab nb cb) ∧ w'.cell? ⟨w.heap.size + 1, 2, none⟩ = some (.slice Bb mb db)) := fun w' h =>
    ⟨(ba.below h lt0).at_ 0, (ba.below h lt0).at_ 1, (ba.below h lt0).at_ 2, (bb.below h lt1).at_ 0, (bb.below h lt1).at_ 1, (bb.below h lt1).at_ 2⟩
  have P0 : Below w2.heap.size w2 w2.drew := (Below.refl _ _).drew
  clear ba bb hx hy
  go_wp2_with fail
  go_region_held3 (fun w' => w'.cell? ⟨w.heap.size, 0, none⟩ = some (.bool pa) ∧ w'.cell? ⟨w.heap.size, 1, none⟩ = some (.slice Aa na ca) ∧ w'.cell? ⟨w.heap.size, 2, none⟩ = some (.slice Ba ma da) ∧ w'.cell? ⟨w.heap.size + 1, 0, none⟩ = some (.bool pb) ∧ w'.cell? ⟨w.heap.size + 1, 1, none⟩ = some (.slice Ab nb cb) ∧ w'.cell? ⟨w.heap.size + 1, 2, none⟩ = some (.slice Bb mb db))
    (first | exact KT.out _ E20 | exact KT.out _ E19 | exact KT.out _ E18 | exact KT.out _ E17 | exact KT.out _ E16 | exact KT.out _ E15 | exact KT.out _ E14 | exact KT.out _ E13 | exact KT.out _ E12 | exact KT.out _ E11 | exact KT.out _ E10 | exact KT.out _ P0 | exact KT.out _ (Below.refl _ _))
    (first
      | (go_at_call_of 20 (Value.slice Aa na ca); (with_reducible refine (fadd_f (L := 40) (KX.out _ P0) (KY.out _ P0) (by omega) (by omega) (x + y) rfl).mono ?_); rintro e w10 ⟨p10, A10, n10, c10, B10, m10, d10, rfl, h10, hb10⟩; have E10 : Below w2.heap.size w2 w10 := (P0).trans (hb10.mono (P0).size))
      | (go_at_call_of 21 (Value.slice Aa na ca); (with_reducible refine (gadd_f (L := 40) (KX.out _ E10) (KY.out _ E10) (by omega) (by omega) (x + y) rfl).mono ?_); rintro e w11 ⟨p11, A11, n11, c11, B11, m11, d11, rfl, h11, hb11⟩; have E11 : Below w2.heap.size w2 w11 := (E10).trans (hb11.mono (E10).size))
      | (go_at_call_of 11 (Value.slice A10 n10 c10); (with_reducible refine (fbase_f (h10.below hb11) h11 TA.out (by omega)).mono ?_); rintro e w12 ⟨rfl, hb12⟩; have E12 : Below w2.heap.size w2 w12 := (E11).trans (hb12.mono (E11).size))
      | (go_at_call_of 22 (Value.slice Aa na ca); (with_reducible refine (fsub_f (L := 40) (KX.out _ E12) (KY.out _ E12) (by omega) (by omega) (x - y) rfl).mono ?_); rintro e w13 ⟨p13, A13, n13, c13, B13, m13, d13, rfl, h13, hb13⟩; have E13 : Below w2.heap.size w2 w13 := (E12).trans (hb13.mono (E12).size))
      | (go_at_call_of 23 (Value.slice Aa na ca); (with_reducible refine (gsub_f (L := 40) (KX.out _ E13) (KY.out _ E13) (by omega) (by omega) (x - y) rfl).mono ?_); rintro e w14 ⟨p14, A14, n14, c14, B14, m14, d14, rfl, h14, hb14⟩; have E14 : Below w2.heap.size w2 w14 := (E13).trans (hb14.mono (E13).size))
      | (go_at_call_of 11 (Value.slice A13 n13 c13); (with_reducible refine (fbase_f (h13.below hb14) h14 TS.out (by omega)).mono ?_); rintro e w15 ⟨rfl, hb15⟩; have E15 : Below w2.heap.size w2 w15 := (E14).trans (hb15.mono (E14).size))
      | (go_at_call_of 24 (Value.slice Aa na ca); (with_reducible refine (fmul_f (L := 40) (KX.out _ E15) (KY.out _ E15) (by omega) (by omega) (x * y) rfl).mono ?_); rintro e w16 ⟨p16, A16, n16, c16, B16, m16, d16, rfl, h16, hb16⟩; have E16 : Below w2.heap.size w2 w16 := (E15).trans (hb16.mono (E15).size))
      | (go_at_call_of 25 (Value.slice Aa na ca); (with_reducible refine (gmul_f (L := 40) (KX.out _ E16) (KY.out _ E16) (by omega) (by omega) (x * y) rfl).mono ?_); rintro e w17 ⟨p17, A17, n17, c17, B17, m17, d17, rfl, h17, hb17⟩; have E17 : Below w2.heap.size w2 w17 := (E16).trans (hb17.mono (E16).size))
      | (go_at_call_of 11 (Value.slice A16 n16 c16); (with_reducible refine (fbase_f (h16.below hb17) h17 TM.out (by omega)).mono ?_); rintro e w18 ⟨rfl, hb18⟩; have E18 : Below w2.heap.size w2 w18 := (E17).trans (hb18.mono (E17).size))
      | (go_at_call_of 26 (Value.slice Aa na ca); (with_reducible refine (fcmp_f (L := 40) (KX.out _ E18) (KY.out _ E18) (by omega) (by omega) o HO.out).mono ?_); rintro e w19 ⟨rfl, hb19⟩; have E19 : Below w2.heap.size w2 w19 := (E18).trans (hb19.mono (E18).size))
      | (go_at_call_of 27 (Value.slice Aa na ca); (with_reducible refine (gcmp_f (L := 40) (KX.out _ E19) (KY.out _ E19) (by omega) (by omega) o HO.out).mono ?_); rintro e w20 ⟨rfl, hb20⟩; have E20 : Below w2.heap.size w2 w20 := (E19).trans (hb20.mono (E19).size)))
  clear E10 E11 E12 E13 E14 E15 E16 E17 E18 E19 hb10 hb11 hb12 hb13 hb14 hb15 hb16 hb17 hb18 hb19 hb20 h10 h11 h13 h14 h16 h17
  have hbZ := hbA.trans ((E20).mono hbA.size)
  clear E20 KT P0
  go_wp2
  go_ret
  exact ⟨rfl, hbZ⟩
set_option maxHeartbeats 16000000 in
set_option maxRecDepth 100000 in
theorem sums_no (HA : Hid Awake) (pa : Bool) (Aa : Option Addr) (na ca : Nat) (Ba : Option Addr) (ma da : Nat) (pb : Bool) (Ab : Option Addr) (nb cb : Nat) (Bb : Option Addr) (mb db : Nat)  (w : World)  (hT : Tab w) (hf : ¬((na ≤ 6 ∧ ma ≤ 6) ∧ nb ≤ 6 ∧ mb ≤ 6)) :
    Calls Tryd.prog 4 #[.agg #[.bool pa, .slice Aa na ca, .slice Ba ma da], .agg #[.bool pb, .slice Ab nb cb, .slice Bb mb db]] w fun e w' => e = .returned (.bool true) ∧ Below w.heap.size w w' := by
  have HFW := hide hf
  have HT0 := hide hT
  clear hf hT
  go_enter Tryd.func4, Tryd.ntmps4
  go_wp2_with fail
  generalize hW : (w.alloc _).alloc _ = W
  obtain ⟨hbW, ba, bb, -⟩ := boxesA2 hW
  clear hW
  refine (HA.out _ (HT0.out.below hbW)).mono ?_
  rintro e w1 ⟨rfl, hb1⟩
  have hbA := hbW.trans (hb1.mono hbW.size)
  have ba := ba.below' hb1
  have bb := bb.below' hb1
  clear hb1 hbW
  have k0 : w1.cell? ⟨w.heap.size, 0, none⟩ = some (.bool pa) := ba.at_ 0
  have k1 : w1.cell? ⟨w.heap.size, 1, none⟩ = some (.slice Aa na ca) := ba.at_ 1
  have k2 : w1.cell? ⟨w.heap.size, 2, none⟩ = some (.slice Ba ma da) := ba.at_ 2
  have lt0 := ba.lt
  have k3 : w1.cell? ⟨w.heap.size + 1, 0, none⟩ = some (.bool pb) := bb.at_ 0
  have k4 : w1.cell? ⟨w.heap.size + 1, 1, none⟩ = some (.slice Ab nb cb) := bb.at_ 1
  have k5 : w1.cell? ⟨w.heap.size + 1, 2, none⟩ = some (.slice Bb mb db) := bb.at_ 2
  have lt1 := bb.lt
  go_wp2_with fail
  clear k0 k1 k2 lt0 k3 k4 k5 lt1
  generalize hW : w1.alloc _ = W1
  obtain ⟨hb, hfew⟩ := few2 hW
  clear hW
  have hbA := hbA.trans (hb.mono hbA.size)
  have ba := ba.below' hb
  have bb := bb.below' hb
  clear hb
  refine (few_any _ 2 2 _ _ _ (by simp [maxLen]) hfew false ⟨fun h => absurd (isFew2.1 h) HFW.out, fun h => by cases h⟩).mono ?_
  rintro e w2 ⟨rfl, rfl⟩
  clear hfew
  go_wp2_with fail
  refine (HA.out _ (HT0.out.below hbA)).mono ?_
  rintro e w3 ⟨rfl, hb3⟩
  have hbZ := hbA.trans (hb3.mono hbA.size)
  clear hb3 hbA
  go_wp2
  go_ret
  exact ⟨rfl, hbZ⟩
end Go.Proofs.YtanhofmgapbjfaaDoor
