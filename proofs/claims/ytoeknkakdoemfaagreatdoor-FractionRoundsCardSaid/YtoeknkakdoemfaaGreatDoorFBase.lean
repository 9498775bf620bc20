/- The contract of coinagebase.Fraction. -/
import Derived.Test.YtoeknkakdoemfaaGreatDoorBaseE
import Derived.Test.YtoeknkakdoemfaaGreatDoorSimple
import Derived.Deep.RegionHeld3
namespace Go.Proofs.YtoeknkakdoemfaaGreatDoor
open Go Go.RowKit

set_option maxHeartbeats 1000000 in
theorem fbase_same (p : Bool) (A : Option Addr) (n c u : Nat) (B : Option Addr) (m d v : Nat) (A' : Option Addr) (n' c' : Nat) (B' : Option Addr) (m' d' : Nat) (w : World) (hA : Cn w A n c u) (hB : Cn w B m d v) (hA' : Cn w A' n' c' u) (hB' : Cn w B' m' d' v) (hn : n ≤ 100000) (hm : m ≤ 100000) :
    Calls Tryz.prog 13 #[.agg #[.bool p, .slice A n c, .slice B m d], .agg #[.bool p, .slice A' n' c', .slice B' m' d']] w fun e w' => e = .returned (.bool true) ∧ Below w.heap.size w w' := by
  obtain rfl : n = n' := hA.1.len.symm.trans hA'.1.len
  obtain rfl : m = m' := hB.1.len.symm.trans hB'.1.len
  go_enter Tryz.func13, Tryz.ntmps13
  go_wp2_with fail
  generalize hW : (w.alloc _).alloc _ = W
  obtain ⟨hbW, b0, b1, -⟩ := boxesA2 hW
  clear hW
  have hA := hA.below hbW
  have hB := hB.below hbW
  have hA' := hA'.below hbW
  have hB' := hB'.below hbW
  refine (base_same A n c _ A' c' _ hA.1 (by unfold maxLen; omega) hA'.1).mono ?_
  rintro e w1 ⟨rfl, hb1⟩
  have hbA := hbW.trans (hb1.mono hbW.size)
  have b0 := b0.below' hb1
  have b1 := b1.below' hb1
  have hB := hB.below hb1
  have hB' := hB'.below hb1
  have k2 : w1.cell? ⟨w.heap.size, 2, none⟩ = some (.slice B m d) := b0.at_ 2
  have k5 : w1.cell? ⟨w.heap.size + 1, 2, none⟩ = some (.slice B' m d') := b1.at_ 2
  clear hb1 hbW hA hA'
  go_wp2_with fail
  refine (base_same B m d _ B' d' _ hB.1 (by unfold maxLen; omega) hB'.1).mono ?_
  rintro e w2 ⟨rfl, hb2⟩
  have hbA := hbA.trans (hb2.mono hbA.size)
  clear hb2 hB hB' b0 b1 k2 k5
  go_wp2
  go_ret
  exact ⟨rfl, hbA⟩
end Go.Proofs.YtoeknkakdoemfaaGreatDoor
