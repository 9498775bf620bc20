/- CountingChoices: the walks -/
import Derived.Test.YtjmiaodjapclbaaDoorCLaw
import Derived.Test.YtjmiaodjapclbaaDoorHRow
namespace Go.Proofs.YtjmiaodjapclbaaDoor
open Go Go.RowKit

set_option maxHeartbeats 16000000 in
set_option maxRecDepth 100000 in
theorem cchoices_err (w : World) (i j : Int) (HA : Hid (∀ w, Tab w → Calls Tryd.prog 12 #[] w fun e w' => e = .returned (.bool true) ∧ Below w.heap.size w w')) (hT : Tab w) (h : ¬(0 ≤ i ∧ i ≤ 300)) : Calls Tryd.prog 4 #[.int .i64 i, .int .i64 j] w fun e w' => e = .returned (.bool true) ∧ Below w.heap.size w w' := by
  have HT := hide hT
  clear hT
  have H1 := hide h
  clear h
  go_enter Tryd.func4, Tryd.ntmps4
  go_wp2_with fail
  have hbA : Below w.heap.size w w := Below.refl _ _
  with_reducible refine (HA.out _ HT.out).mono ?_
  rintro e w1 ⟨rfl, hb⟩
  have hbA := hbA.trans (hb.mono hbA.size)
  clear hb
  go_wp2_with fail
  with_reducible refine (cbin_err i j _ H1.out).mono ?_
  intro e w2 h
  obtain ⟨A2, n2, c2, rfl, x2, hb2⟩ := GivesNE.cn h
  clear h
  have hbA := hbA.trans (hb2.mono hbA.size)
  clear hb2
  go_wp2_with fail
  generalize hW : w2.alloc _ = w3
  obtain ⟨hb, b2, -⟩ := boxesA1 hW
  clear hW
  have hbA := hbA.trans (hb.mono hbA.size)
  have x2 := x2.below hb
  clear hb
  generalize w2.heap.size = g2 at *
  with_reducible refine (hbin_err i j _ H1.out).mono ?_
  intro e w4 h
  obtain ⟨A4, n4, c4, rfl, x4, hb4⟩ := GivesNE.cn h
  clear h
  have hbA := hbA.trans (hb4.mono hbA.size)
  have x2 := x2.below hb4
  have b2 := b2.below' hb4
  clear hb4
  have k2 := b2.cell
  have l2 := b2.lt
  go_wp2_with fail
  clear k2 l2
  generalize hW : w4.alloc _ = w5
  obtain ⟨hb, b4, -⟩ := boxesA1 hW
  clear hW
  have hbA := hbA.trans (hb.mono hbA.size)
  have x2 := x2.below hb
  have x4 := x4.below hb
  have b2 := b2.below' hb
  clear hb
  generalize w4.heap.size = g4 at *
  with_reducible refine (csame x2 x4 _).mono ?_
  rintro e w6 ⟨rfl, hb⟩
  have hbA := hbA.trans (hb.mono hbA.size)
  have x2 := x2.below hb
  have x4 := x4.below hb
  have b2 := b2.below' hb
  have b4 := b4.below' hb
  clear hb
  go_wp2_with fail
  go_ret
  exact ⟨rfl, hbA⟩
set_option maxHeartbeats 16000000 in
set_option maxRecDepth 100000 in
theorem cchoices_ok (w : World) (n : Nat) (hn : n ≤ 300) (j : Int) (HA : Hid (∀ w, Tab w → Calls Tryd.prog 12 #[] w fun e w' => e = .returned (.bool true) ∧ Below w.heap.size w w')) (hT : Tab w) : Calls Tryd.prog 4 #[.int .i64 (n : Int), .int .i64 j] w fun e w' => e = .returned (.bool true) ∧ Below w.heap.size w w' := by
  have HT := hide hT
  clear hT
  go_enter Tryd.func4, Tryd.ntmps4
  go_wp2_with fail
  have hbA : Below w.heap.size w w := Below.refl _ _
  with_reducible refine (HA.out _ HT.out).mono ?_
  rintro e w1 ⟨rfl, hb⟩
  have hbA := hbA.trans (hb.mono hbA.size)
  clear hb
  go_wp2_with fail
  with_reducible refine (cbin_ok n j hn _ _ rfl).mono ?_
  intro e w2 h
  obtain ⟨A2, n2, c2, rfl, x2, hb2⟩ := GivesNE.cn h
  clear h
  have hbA := hbA.trans (hb2.mono hbA.size)
  clear hb2
  go_wp2_with fail
  generalize hW : w2.alloc _ = w3
  obtain ⟨hb, b2, -⟩ := boxesA1 hW
  clear hW
  have hbA := hbA.trans (hb.mono hbA.size)
  have x2 := x2.below hb
  clear hb
  generalize w2.heap.size = g2 at *
  with_reducible refine (hbin_any n j hn _ _ rfl).mono ?_
  intro e w4 h
  obtain ⟨A4, n4, c4, rfl, x4, hb4⟩ := GivesNE.cn h
  clear h
  have hbA := hbA.trans (hb4.mono hbA.size)
  have x2 := x2.below hb4
  have b2 := b2.below' hb4
  clear hb4
  have k2 := b2.cell
  have l2 := b2.lt
  go_wp2_with fail
  clear k2 l2
  generalize hW : w4.alloc _ = w5
  obtain ⟨hb, b4, -⟩ := boxesA1 hW
  clear hW
  have hbA := hbA.trans (hb.mono hbA.size)
  have x2 := x2.below hb
  have x4 := x4.below hb
  have b2 := b2.below' hb
  clear hb
  generalize w4.heap.size = g4 at *
  with_reducible refine (csame x2 x4 _).mono ?_
  rintro e w6 ⟨rfl, hb⟩
  have hbA := hbA.trans (hb.mono hbA.size)
  have x2 := x2.below hb
  have x4 := x4.below hb
  have b2 := b2.below' hb
  have b4 := b4.below' hb
  clear hb
  go_wp2_with fail
  go_ret
  exact ⟨rfl, hbA⟩
theorem cchoices_all (HA : Hid (∀ w, Tab w → Calls Tryd.prog 12 #[] w fun e w' => e = .returned (.bool true) ∧ Below w.heap.size w w')) (i j : Int) (w : World) (hT : Tab w) (_hi : -9223372036854775808 ≤ i ∧ i ≤ 9223372036854775807) (_hj : -9223372036854775808 ≤ j ∧ j ≤ 9223372036854775807) : Calls Tryd.prog 4 #[.int .i64 i, .int .i64 j] w fun e w' => e = .returned (.bool true) ∧ Below w.heap.size w w' := by
  by_cases hi : 0 ≤ i ∧ i ≤ 300
  · obtain ⟨n, rfl⟩ : ∃ n : Nat, i = (n : Int) := ⟨i.toNat, by omega⟩
    exact cchoices_ok w n (by omega) j HA hT
  · exact cchoices_err w i j HA hT hi
end Go.Proofs.YtjmiaodjapclbaaDoor
