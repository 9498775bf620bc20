/- FractionField and FractionOrder at whatever fractions. -/
import Derived.Test.YtanhofmgapbjfaaDoorOrder
namespace Go.Proofs.YtanhofmgapbjfaaDoor
open Go Go.RowKit

set_option maxHeartbeats 4000000 in
set_option maxRecDepth 100000 in
theorem field_no (HA : Hid Awake) (pa : Bool) (Aa : Option Addr) (na ca : Nat) (Ba : Option Addr) (ma da : Nat) (pb : Bool) (Ab : Option Addr) (nb cb : Nat) (Bb : Option Addr) (mb db : Nat) (pc : Bool) (Ac : Option Addr) (nc cc : Nat) (Bc : Option Addr) (mc dc : Nat) (w : World) (hT : Tab w) (hf : ¬((na ≤ 6 ∧ ma ≤ 6) ∧ (nb ≤ 6 ∧ mb ≤ 6) ∧ nc ≤ 6 ∧ mc ≤ 6)) :
    Calls Tryd.prog 7 #[.agg #[.bool pa, .slice Aa na ca, .slice Ba ma da], .agg #[.bool pb, .slice Ab nb cb, .slice Bb mb db], .agg #[.bool pc, .slice Ac nc cc, .slice Bc mc dc]] w fun e w' => e = .returned (.bool true) ∧ Below w.heap.size w w' := by
  have HFW := hide hf
  have HT := hide hT
  clear hf
  go_enter Tryd.func7, Tryd.ntmps7
  go_wp2_with fail
  generalize hW : ((w.alloc _).alloc _).alloc _ = W
  obtain ⟨hbW, ba, bb, bc, -⟩ := boxesA3 hW
  clear hW
  refine (HA.out _ (hT.below hbW)).mono ?_
  rintro e w1 ⟨rfl, hb1⟩
  have hbA := hbW.trans (hb1.mono hbW.size)
  have ba := ba.below' hb1
  have bb := bb.below' hb1
  have bc := bc.below' hb1
  clear hb1 hbW
  have k0 : w1.cell? ⟨w.heap.size, 0, none⟩ = some (.bool pa) := ba.at_ 0
  have k1 : w1.cell? ⟨w.heap.size, 1, none⟩ = some (.slice Aa na ca) := ba.at_ 1
  have k2 : w1.cell? ⟨w.heap.size, 2, none⟩ = some (.slice Ba ma da) := ba.at_ 2
  have lt0 := ba.lt
  have k3 : w1.cell? ⟨w.heap.size + 1, 0, none⟩ = some (.bool pb) := bb.at_ 0
  have k4 : w1.cell? ⟨w.heap.size + 1, 1, none⟩ = some (.slice Ab nb cb) := bb.at_ 1
  have k5 : w1.cell? ⟨w.heap.size + 1, 2, none⟩ = some (.slice Bb mb db) := bb.at_ 2
  have lt1 := bb.lt
  have k6 : w1.cell? ⟨w.heap.size + 1 + 1, 0, none⟩ = some (.bool pc) := bc.at_ 0
  have k7 : w1.cell? ⟨w.heap.size + 1 + 1, 1, none⟩ = some (.slice Ac nc cc) := bc.at_ 1
  have k8 : w1.cell? ⟨w.heap.size + 1 + 1, 2, none⟩ = some (.slice Bc mc dc) := bc.at_ 2
  have lt2 := bc.lt
  go_wp2_with fail
  clear k0 k1 k2 k3 k4 k5 k6 k7 k8 lt0 lt1 lt2
  generalize hW : w1.alloc _ = W1
  obtain ⟨hb, hfew⟩ := few3 hW
  clear hW
  have hbA := hbA.trans (hb.mono hbA.size)
  clear hb ba bb bc
  refine (few_any _ 3 3 _ _ _ (by simp [maxLen]) hfew false ⟨fun h => absurd (isFew3.1 h) HFW.out, fun h => by cases h⟩).mono ?_
  rintro e w2 ⟨rfl, rfl⟩
  clear hfew
  go_wp2_with fail
  refine (HA.out _ (HT.out.below hbA)).mono ?_
  rintro e w3 ⟨rfl, hb3⟩
  have hbZ := hbA.trans (hb3.mono hbA.size)
  clear hb3 hbA
  go_wp2
  go_ret
  exact ⟨rfl, hbZ⟩
set_option maxHeartbeats 4000000 in
set_option maxRecDepth 100000 in
theorem order_no (HA : Hid Awake) (pa : Bool) (Aa : Option Addr) (na ca : Nat) (Ba : Option Addr) (ma da : Nat) (pb : Bool) (Ab : Option Addr) (nb cb : Nat) (Bb : Option Addr) (mb db : Nat) (pc : Bool) (Ac : Option Addr) (nc cc : Nat) (Bc : Option Addr) (mc dc : Nat) (w : World) (hT : Tab w) (hf : ¬((na ≤ 6 ∧ ma ≤ 6) ∧ (nb ≤ 6 ∧ mb ≤ 6) ∧ nc ≤ 6 ∧ mc ≤ 6)) :
    Calls Tryd.prog 8 #[.agg #[.bool pa, .slice Aa na ca, .slice Ba ma da], .agg #[.bool pb, .slice Ab nb cb, .slice Bb mb db], .agg #[.bool pc, .slice Ac nc cc, .slice Bc mc dc]] w fun e w' => e = .returned (.bool true) ∧ Below w.heap.size w w' := by
  have HFW := hide hf
  have HT := hide hT
  clear hf
  go_enter Tryd.func8, Tryd.ntmps8
  go_wp2_with fail
  generalize hW : ((w.alloc _).alloc _).alloc _ = W
  obtain ⟨hbW, ba, bb, bc, -⟩ := boxesA3 hW
  clear hW
  refine (HA.out _ (hT.below hbW)).mono ?_
  rintro e w1 ⟨rfl, hb1⟩
  have hbA := hbW.trans (hb1.mono hbW.size)
  have ba := ba.below' hb1
  have bb := bb.below' hb1
  have bc := bc.below' hb1
  clear hb1 hbW
  have k0 : w1.cell? ⟨w.heap.size, 0, none⟩ = some (.bool pa) := ba.at_ 0
  have k1 : w1.cell? ⟨w.heap.size, 1, none⟩ = some (.slice Aa na ca) := ba.at_ 1
  have k2 : w1.cell? ⟨w.heap.size, 2, none⟩ = some (.slice Ba ma da) := ba.at_ 2
  have lt0 := ba.lt
  have k3 : w1.cell? ⟨w.heap.size + 1, 0, none⟩ = some (.bool pb) := bb.at_ 0
  have k4 : w1.cell? ⟨w.heap.size + 1, 1, none⟩ = some (.slice Ab nb cb) := bb.at_ 1
  have k5 : w1.cell? ⟨w.heap.size + 1, 2, none⟩ = some (.slice Bb mb db) := bb.at_ 2
  have lt1 := bb.lt
  have k6 : w1.cell? ⟨w.heap.size + 1 + 1, 0, none⟩ = some (.bool pc) := bc.at_ 0
  have k7 : w1.cell? ⟨w.heap.size + 1 + 1, 1, none⟩ = some (.slice Ac nc cc) := bc.at_ 1
  have k8 : w1.cell? ⟨w.heap.size + 1 + 1, 2, none⟩ = some (.slice Bc mc dc) := bc.at_ 2
  have lt2 := bc.lt
  go_wp2_with fail
  clear k0 k1 k2 k3 k4 k5 k6 k7 k8 lt0 lt1 lt2
  generalize hW : w1.alloc _ = W1
  obtain ⟨hb, hfew⟩ := few3 hW
  clear hW
  have hbA := hbA.trans (hb.mono hbA.size)
  clear hb ba bb bc
  refine (few_any _ 3 3 _ _ _ (by simp [maxLen]) hfew false ⟨fun h => absurd (isFew3.1 h) HFW.out, fun h => by cases h⟩).mono ?_
  rintro e w2 ⟨rfl, rfl⟩
  clear hfew
  go_wp2_with fail
  refine (HA.out _ (HT.out.below hbA)).mono ?_
  rintro e w3 ⟨rfl, hb3⟩
  have hbZ := hbA.trans (hb3.mono hbA.size)
  clear hb3 hbA
  go_wp2
  go_ret
  exact ⟨rfl, hbZ⟩
end Go.Proofs.YtanhofmgapbjfaaDoor
