/- CountingParts: the walks -/
import Derived.Test.YtjmiaodjapclbaaDoorCLaw
import Derived.Test.YtjmiaodjapclbaaDoorHParts
import Derived.Test.YtjmiaodjapclbaaDoorCBell
namespace Go.Proofs.YtjmiaodjapclbaaDoor
open Go Go.RowKit

set_option maxHeartbeats 16000000 in
set_option maxRecDepth 100000 in
theorem cparts_err (w : World) (i j : Int) (HA : Hid (∀ w, Tab w → Calls Tryd.prog 12 #[] w fun e w' => e = .returned (.bool true) ∧ Below w.heap.size w w')) (hT : Tab w) (h : ¬(0 ≤ i ∧ i ≤ 64)) : Calls Tryd.prog 5 #[.int .i64 i, .int .i64 j] w fun e w' => e = .returned (.bool true) ∧ Below w.heap.size w w' := by
  have HT := hide hT
  clear hT
  have H1 := hide h
  have H2 := hide (show ¬((0 ≤ i ∧ i ≤ 64) ∧ 0 ≤ j ∧ j ≤ 64) from fun q => h q.1)
  clear h
  go_enter Tryd.func5, Tryd.ntmps5
  go_wp2_with fail
  have hbA : Below w.heap.size w w := Below.refl _ _
  with_reducible refine (HA.out _ HT.out).mono ?_
  rintro e w1 ⟨rfl, hb⟩
  have hbA := hbA.trans (hb.mono hbA.size)
  clear hb
  go_wp2_with fail
  with_reducible refine (cstir_err i j _ H1.out).mono ?_
  intro e w2 h
  obtain ⟨A2, n2, c2, rfl, x2, hb2⟩ := GivesNE.cn h
  clear h
  have hbA := hbA.trans (hb2.mono hbA.size)
  clear hb2
  go_wp2_with fail
  generalize hW : w2.alloc _ = w3
  obtain ⟨hb, b2, -⟩ := boxesA1 hW
  clear hW
  have hbA := hbA.trans (hb.mono hbA.size)
  have x2 := x2.below hb
  clear hb
  generalize w2.heap.size = g2 at *
  with_reducible refine (hstir_err i j _ H1.out).mono ?_
  intro e w4 h
  obtain ⟨A4, n4, c4, rfl, x4, hb4⟩ := GivesNE.cn h
  clear h
  have hbA := hbA.trans (hb4.mono hbA.size)
  have x2 := x2.below hb4
  have b2 := b2.below' hb4
  clear hb4
  go_wp2_with fail
  generalize hW : w4.alloc _ = w5
  obtain ⟨hb, b4, -⟩ := boxesA1 hW
  clear hW
  have hbA := hbA.trans (hb.mono hbA.size)
  have x2 := x2.below hb
  have x4 := x4.below hb
  have b2 := b2.below' hb
  clear hb
  generalize w4.heap.size = g4 at *
  with_reducible refine (csur_err i j _ H2.out).mono ?_
  intro e w6 h
  obtain ⟨A6, n6, c6, rfl, x6, hb6⟩ := GivesNE.cn h
  clear h
  have hbA := hbA.trans (hb6.mono hbA.size)
  have x2 := x2.below hb6
  have x4 := x4.below hb6
  have b2 := b2.below' hb6
  have b4 := b4.below' hb6
  clear hb6
  go_wp2_with fail
  generalize hW : w6.alloc _ = w7
  obtain ⟨hb, b6, -⟩ := boxesA1 hW
  clear hW
  have hbA := hbA.trans (hb.mono hbA.size)
  have x2 := x2.below hb
  have x4 := x4.below hb
  have x6 := x6.below hb
  have b2 := b2.below' hb
  have b4 := b4.below' hb
  clear hb
  generalize w6.heap.size = g6 at *
  with_reducible refine (hsur_err i j _ H2.out).mono ?_
  intro e w8 h
  obtain ⟨A8, n8, c8, rfl, x8, hb8⟩ := GivesNE.cn h
  clear h
  have hbA := hbA.trans (hb8.mono hbA.size)
  have x2 := x2.below hb8
  have x4 := x4.below hb8
  have x6 := x6.below hb8
  have b2 := b2.below' hb8
  have b4 := b4.below' hb8
  have b6 := b6.below' hb8
  clear hb8
  go_wp2_with fail
  generalize hW : w8.alloc _ = w9
  obtain ⟨hb, b8, -⟩ := boxesA1 hW
  clear hW
  have hbA := hbA.trans (hb.mono hbA.size)
  have x2 := x2.below hb
  have x4 := x4.below hb
  have x6 := x6.below hb
  have x8 := x8.below hb
  have b2 := b2.below' hb
  have b4 := b4.below' hb
  have b6 := b6.below' hb
  clear hb
  generalize w8.heap.size = g8 at *
  with_reducible refine (cbell_err i _ H1.out).mono ?_
  intro e w10 h
  obtain ⟨A10, n10, c10, rfl, x10, hb10⟩ := GivesNE.cn h
  clear h
  have hbA := hbA.trans (hb10.mono hbA.size)
  have x2 := x2.below hb10
  have x4 := x4.below hb10
  have x6 := x6.below hb10
  have x8 := x8.below hb10
  have b2 := b2.below' hb10
  have b4 := b4.below' hb10
  have b6 := b6.below' hb10
  have b8 := b8.below' hb10
  clear hb10
  go_wp2_with fail
  generalize hW : w10.alloc _ = w11
  obtain ⟨hb, b10, -⟩ := boxesA1 hW
  clear hW
  have hbA := hbA.trans (hb.mono hbA.size)
  have x2 := x2.below hb
  have x4 := x4.below hb
  have x6 := x6.below hb
  have x8 := x8.below hb
  have x10 := x10.below hb
  have b2 := b2.below' hb
  have b4 := b4.below' hb
  have b6 := b6.below' hb
  have b8 := b8.below' hb
  clear hb
  generalize w10.heap.size = g10 at *
  with_reducible refine (hbell_err i _ H1.out).mono ?_
  intro e w12 h
  obtain ⟨A12, n12, c12, rfl, x12, hb12⟩ := GivesNE.cn h
  clear h
  have hbA := hbA.trans (hb12.mono hbA.size)
  have x2 := x2.below hb12
  have x4 := x4.below hb12
  have x6 := x6.below hb12
  have x8 := x8.below hb12
  have x10 := x10.below hb12
  have b2 := b2.below' hb12
  have b4 := b4.below' hb12
  have b6 := b6.below' hb12
  have b8 := b8.below' hb12
  have b10 := b10.below' hb12
  clear hb12
  have k2 := b2.cell
  have l2 := b2.lt
  have k4 := b4.cell
  have l4 := b4.lt
  go_wp2_with fail
  clear k2 l2 k4 l4
  generalize hW : w12.alloc _ = w13
  obtain ⟨hb, b12, -⟩ := boxesA1 hW
  clear hW
  have hbA := hbA.trans (hb.mono hbA.size)
  have x2 := x2.below hb
  have x4 := x4.below hb
  have x6 := x6.below hb
  have x8 := x8.below hb
  have x10 := x10.below hb
  have x12 := x12.below hb
  have b2 := b2.below' hb
  have b4 := b4.below' hb
  have b6 := b6.below' hb
  have b8 := b8.below' hb
  have b10 := b10.below' hb
  clear hb
  generalize w12.heap.size = g12 at *
  with_reducible refine (csame x2 x4 _).mono ?_
  rintro e w14 ⟨rfl, hb⟩
  have hbA := hbA.trans (hb.mono hbA.size)
  have x2 := x2.below hb
  have x4 := x4.below hb
  have x6 := x6.below hb
  have x8 := x8.below hb
  have x10 := x10.below hb
  have x12 := x12.below hb
  have b2 := b2.below' hb
  have b4 := b4.below' hb
  have b6 := b6.below' hb
  have b8 := b8.below' hb
  have b10 := b10.below' hb
  have b12 := b12.below' hb
  clear hb
  have k6 := b6.cell
  have l6 := b6.lt
  have k8 := b8.cell
  have l8 := b8.lt
  go_wp2_with fail
  clear k6 l6 k8 l8
  with_reducible refine (csame x6 x8 _).mono ?_
  rintro e w15 ⟨rfl, hb⟩
  have hbA := hbA.trans (hb.mono hbA.size)
  have x2 := x2.below hb
  have x4 := x4.below hb
  have x6 := x6.below hb
  have x8 := x8.below hb
  have x10 := x10.below hb
  have x12 := x12.below hb
  have b2 := b2.below' hb
  have b4 := b4.below' hb
  have b6 := b6.below' hb
  have b8 := b8.below' hb
  have b10 := b10.below' hb
  have b12 := b12.below' hb
  clear hb
  have k10 := b10.cell
  have l10 := b10.lt
  have k12 := b12.cell
  have l12 := b12.lt
  go_wp2_with fail
  clear k10 l10 k12 l12
  with_reducible refine (csame x10 x12 _).mono ?_
  rintro e w16 ⟨rfl, hb⟩
  have hbA := hbA.trans (hb.mono hbA.size)
  have x2 := x2.below hb
  have x4 := x4.below hb
  have x6 := x6.below hb
  have x8 := x8.below hb
  have x10 := x10.below hb
  have x12 := x12.below hb
  have b2 := b2.below' hb
  have b4 := b4.below' hb
  have b6 := b6.below' hb
  have b8 := b8.below' hb
  have b10 := b10.below' hb
  have b12 := b12.below' hb
  clear hb
  go_wp2_with fail
  go_ret
  exact ⟨rfl, hbA⟩
set_option maxHeartbeats 16000000 in
set_option maxRecDepth 100000 in
theorem cparts_mid (w : World) (n : Nat) (hn : n ≤ 64) (j : Int) (HA : Hid (∀ w, Tab w → Calls Tryd.prog 12 #[] w fun e w' => e = .returned (.bool true) ∧ Below w.heap.size w w')) (hT : Tab w) (h : ¬(0 ≤ j ∧ j ≤ 64)) : Calls Tryd.prog 5 #[.int .i64 (n : Int), .int .i64 j] w fun e w' => e = .returned (.bool true) ∧ Below w.heap.size w w' := by
  have HT := hide hT
  clear hT
  have H2 := hide (show ¬((0 ≤ (n : Int) ∧ (n : Int) ≤ 64) ∧ 0 ≤ j ∧ j ≤ 64) from fun q => h q.2)
  have BL := hide (bell_sum (n := n) (by omega))
  clear h
  go_enter Tryd.func5, Tryd.ntmps5
  go_wp2_with fail
  have hbA : Below w.heap.size w w := Below.refl _ _
  with_reducible refine (HA.out _ HT.out).mono ?_
  rintro e w1 ⟨rfl, hb⟩
  have hbA := hbA.trans (hb.mono hbA.size)
  clear hb
  go_wp2_with fail
  with_reducible refine (cstir_ok n j hn _ _ rfl).mono ?_
  intro e w2 h
  obtain ⟨A2, n2, c2, rfl, x2, hb2⟩ := GivesNE.cn h
  clear h
  have hbA := hbA.trans (hb2.mono hbA.size)
  clear hb2
  go_wp2_with fail
  generalize hW : w2.alloc _ = w3
  obtain ⟨hb, b2, -⟩ := boxesA1 hW
  clear hW
  have hbA := hbA.trans (hb.mono hbA.size)
  have x2 := x2.below hb
  clear hb
  generalize w2.heap.size = g2 at *
  with_reducible refine (hstir_any n j hn _ _ rfl).mono ?_
  intro e w4 h
  obtain ⟨A4, n4, c4, rfl, x4, hb4⟩ := GivesNE.cn h
  clear h
  have hbA := hbA.trans (hb4.mono hbA.size)
  have x2 := x2.below hb4
  have b2 := b2.below' hb4
  clear hb4
  go_wp2_with fail
  generalize hW : w4.alloc _ = w5
  obtain ⟨hb, b4, -⟩ := boxesA1 hW
  clear hW
  have hbA := hbA.trans (hb.mono hbA.size)
  have x2 := x2.below hb
  have x4 := x4.below hb
  have b2 := b2.below' hb
  clear hb
  generalize w4.heap.size = g4 at *
  with_reducible refine (csur_err n j _ H2.out).mono ?_
  intro e w6 h
  obtain ⟨A6, n6, c6, rfl, x6, hb6⟩ := GivesNE.cn h
  clear h
  have hbA := hbA.trans (hb6.mono hbA.size)
  have x2 := x2.below hb6
  have x4 := x4.below hb6
  have b2 := b2.below' hb6
  have b4 := b4.below' hb6
  clear hb6
  go_wp2_with fail
  generalize hW : w6.alloc _ = w7
  obtain ⟨hb, b6, -⟩ := boxesA1 hW
  clear hW
  have hbA := hbA.trans (hb.mono hbA.size)
  have x2 := x2.below hb
  have x4 := x4.below hb
  have x6 := x6.below hb
  have b2 := b2.below' hb
  have b4 := b4.below' hb
  clear hb
  generalize w6.heap.size = g6 at *
  with_reducible refine (hsur_err n j _ H2.out).mono ?_
  intro e w8 h
  obtain ⟨A8, n8, c8, rfl, x8, hb8⟩ := GivesNE.cn h
  clear h
  have hbA := hbA.trans (hb8.mono hbA.size)
  have x2 := x2.below hb8
  have x4 := x4.below hb8
  have x6 := x6.below hb8
  have b2 := b2.below' hb8
  have b4 := b4.below' hb8
  have b6 := b6.below' hb8
  clear hb8
  go_wp2_with fail
  generalize hW : w8.alloc _ = w9
  obtain ⟨hb, b8, -⟩ := boxesA1 hW
  clear hW
  have hbA := hbA.trans (hb.mono hbA.size)
  have x2 := x2.below hb
  have x4 := x4.below hb
  have x6 := x6.below hb
  have x8 := x8.below hb
  have b2 := b2.below' hb
  have b4 := b4.below' hb
  have b6 := b6.below' hb
  clear hb
  generalize w8.heap.size = g8 at *
  with_reducible refine (cbell_ok n hn _ _ BL.out).mono ?_
  intro e w10 h
  obtain ⟨A10, n10, c10, rfl, x10, hb10⟩ := GivesNE.cn h
  clear h
  have hbA := hbA.trans (hb10.mono hbA.size)
  have x2 := x2.below hb10
  have x4 := x4.below hb10
  have x6 := x6.below hb10
  have x8 := x8.below hb10
  have b2 := b2.below' hb10
  have b4 := b4.below' hb10
  have b6 := b6.below' hb10
  have b8 := b8.below' hb10
  clear hb10
  go_wp2_with fail
  generalize hW : w10.alloc _ = w11
  obtain ⟨hb, b10, -⟩ := boxesA1 hW
  clear hW
  have hbA := hbA.trans (hb.mono hbA.size)
  have x2 := x2.below hb
  have x4 := x4.below hb
  have x6 := x6.below hb
  have x8 := x8.below hb
  have x10 := x10.below hb
  have b2 := b2.below' hb
  have b4 := b4.below' hb
  have b6 := b6.below' hb
  have b8 := b8.below' hb
  clear hb
  generalize w10.heap.size = g10 at *
  with_reducible refine (hbell_ok n hn _ _ rfl).mono ?_
  intro e w12 h
  obtain ⟨A12, n12, c12, rfl, x12, hb12⟩ := GivesNE.cn h
  clear h
  have hbA := hbA.trans (hb12.mono hbA.size)
  have x2 := x2.below hb12
  have x4 := x4.below hb12
  have x6 := x6.below hb12
  have x8 := x8.below hb12
  have x10 := x10.below hb12
  have b2 := b2.below' hb12
  have b4 := b4.below' hb12
  have b6 := b6.below' hb12
  have b8 := b8.below' hb12
  have b10 := b10.below' hb12
  clear hb12
  have k2 := b2.cell
  have l2 := b2.lt
  have k4 := b4.cell
  have l4 := b4.lt
  go_wp2_with fail
  clear k2 l2 k4 l4
  generalize hW : w12.alloc _ = w13
  obtain ⟨hb, b12, -⟩ := boxesA1 hW
  clear hW
  have hbA := hbA.trans (hb.mono hbA.size)
  have x2 := x2.below hb
  have x4 := x4.below hb
  have x6 := x6.below hb
  have x8 := x8.below hb
  have x10 := x10.below hb
  have x12 := x12.below hb
  have b2 := b2.below' hb
  have b4 := b4.below' hb
  have b6 := b6.below' hb
  have b8 := b8.below' hb
  have b10 := b10.below' hb
  clear hb
  generalize w12.heap.size = g12 at *
  with_reducible refine (csame x2 x4 _).mono ?_
  rintro e w14 ⟨rfl, hb⟩
  have hbA := hbA.trans (hb.mono hbA.size)
  have x2 := x2.below hb
  have x4 := x4.below hb
  have x6 := x6.below hb
  have x8 := x8.below hb
  have x10 := x10.below hb
  have x12 := x12.below hb
  have b2 := b2.below' hb
  have b4 := b4.below' hb
  have b6 := b6.below' hb
  have b8 := b8.below' hb
  have b10 := b10.below' hb
  have b12 := b12.below' hb
  clear hb
  have k6 := b6.cell
  have l6 := b6.lt
  have k8 := b8.cell
  have l8 := b8.lt
  go_wp2_with fail
  clear k6 l6 k8 l8
  with_reducible refine (csame x6 x8 _).mono ?_
  rintro e w15 ⟨rfl, hb⟩
  have hbA := hbA.trans (hb.mono hbA.size)
  have x2 := x2.below hb
  have x4 := x4.below hb
  have x6 := x6.below hb
  have x8 := x8.below hb
  have x10 := x10.below hb
  have x12 := x12.below hb
  have b2 := b2.below' hb
  have b4 := b4.below' hb
  have b6 := b6.below' hb
  have b8 := b8.below' hb
  have b10 := b10.below' hb
  have b12 := b12.below' hb
  clear hb
  have k10 := b10.cell
  have l10 := b10.lt
  have k12 := b12.cell
  have l12 := b12.lt
  go_wp2_with fail
  clear k10 l10 k12 l12
  with_reducible refine (csame x10 x12 _).mono ?_
  rintro e w16 ⟨rfl, hb⟩
  have hbA := hbA.trans (hb.mono hbA.size)
  have x2 := x2.below hb
  have x4 := x4.below hb
  have x6 := x6.below hb
  have x8 := x8.below hb
  have x10 := x10.below hb
  have x12 := x12.below hb
  have b2 := b2.below' hb
  have b4 := b4.below' hb
  have b6 := b6.below' hb
  have b8 := b8.below' hb
  have b10 := b10.below' hb
  have b12 := b12.below' hb
  clear hb
  go_wp2_with fail
  go_ret
  exact ⟨rfl, hbA⟩
set_option maxHeartbeats 16000000 in
set_option maxRecDepth 100000 in
theorem cparts_ok (w : World) (n k : Nat) (hn : n ≤ 64) (hk : k ≤ 64) (HA : Hid (∀ w, Tab w → Calls Tryd.prog 12 #[] w fun e w' => e = .returned (.bool true) ∧ Below w.heap.size w w')) (hT : Tab w) : Calls Tryd.prog 5 #[.int .i64 (n : Int), .int .i64 (k : Int)] w fun e w' => e = .returned (.bool true) ∧ Below w.heap.size w w' := by
  have HT := hide hT
  clear hT
  have BL := hide (bell_sum (n := n) (by omega))
  go_enter Tryd.func5, Tryd.ntmps5
  go_wp2_with fail
  have hbA : Below w.heap.size w w := Below.refl _ _
  with_reducible refine (HA.out _ HT.out).mono ?_
  rintro e w1 ⟨rfl, hb⟩
  have hbA := hbA.trans (hb.mono hbA.size)
  clear hb
  go_wp2_with fail
  with_reducible refine (cstir_ok n k hn _ _ rfl).mono ?_
  intro e w2 h
  obtain ⟨A2, n2, c2, rfl, x2, hb2⟩ := GivesNE.cn h
  clear h
  have hbA := hbA.trans (hb2.mono hbA.size)
  clear hb2
  go_wp2_with fail
  generalize hW : w2.alloc _ = w3
  obtain ⟨hb, b2, -⟩ := boxesA1 hW
  clear hW
  have hbA := hbA.trans (hb.mono hbA.size)
  have x2 := x2.below hb
  clear hb
  generalize w2.heap.size = g2 at *
  with_reducible refine (hstir_any n k hn _ _ rfl).mono ?_
  intro e w4 h
  obtain ⟨A4, n4, c4, rfl, x4, hb4⟩ := GivesNE.cn h
  clear h
  have hbA := hbA.trans (hb4.mono hbA.size)
  have x2 := x2.below hb4
  have b2 := b2.below' hb4
  clear hb4
  go_wp2_with fail
  generalize hW : w4.alloc _ = w5
  obtain ⟨hb, b4, -⟩ := boxesA1 hW
  clear hW
  have hbA := hbA.trans (hb.mono hbA.size)
  have x2 := x2.below hb
  have x4 := x4.below hb
  have b2 := b2.below' hb
  clear hb
  generalize w4.heap.size = g4 at *
  with_reducible refine (csur_ok n k hn hk _ _ rfl).mono ?_
  intro e w6 h
  obtain ⟨A6, n6, c6, rfl, x6, hb6⟩ := GivesNE.cn h
  clear h
  have hbA := hbA.trans (hb6.mono hbA.size)
  have x2 := x2.below hb6
  have x4 := x4.below hb6
  have b2 := b2.below' hb6
  have b4 := b4.below' hb6
  clear hb6
  go_wp2_with fail
  generalize hW : w6.alloc _ = w7
  obtain ⟨hb, b6, -⟩ := boxesA1 hW
  clear hW
  have hbA := hbA.trans (hb.mono hbA.size)
  have x2 := x2.below hb
  have x4 := x4.below hb
  have x6 := x6.below hb
  have b2 := b2.below' hb
  have b4 := b4.below' hb
  clear hb
  generalize w6.heap.size = g6 at *
  with_reducible refine (hsur_ok n k hn hk _ _ rfl).mono ?_
  intro e w8 h
  obtain ⟨A8, n8, c8, rfl, x8, hb8⟩ := GivesNE.cn h
  clear h
  have hbA := hbA.trans (hb8.mono hbA.size)
  have x2 := x2.below hb8
  have x4 := x4.below hb8
  have x6 := x6.below hb8
  have b2 := b2.below' hb8
  have b4 := b4.below' hb8
  have b6 := b6.below' hb8
  clear hb8
  go_wp2_with fail
  generalize hW : w8.alloc _ = w9
  obtain ⟨hb, b8, -⟩ := boxesA1 hW
  clear hW
  have hbA := hbA.trans (hb.mono hbA.size)
  have x2 := x2.below hb
  have x4 := x4.below hb
  have x6 := x6.below hb
  have x8 := x8.below hb
  have b2 := b2.below' hb
  have b4 := b4.below' hb
  have b6 := b6.below' hb
  clear hb
  generalize w8.heap.size = g8 at *
  with_reducible refine (cbell_ok n hn _ _ BL.out).mono ?_
  intro e w10 h
  obtain ⟨A10, n10, c10, rfl, x10, hb10⟩ := GivesNE.cn h
  clear h
  have hbA := hbA.trans (hb10.mono hbA.size)
  have x2 := x2.below hb10
  have x4 := x4.below hb10
  have x6 := x6.below hb10
  have x8 := x8.below hb10
  have b2 := b2.below' hb10
  have b4 := b4.below' hb10
  have b6 := b6.below' hb10
  have b8 := b8.below' hb10
  clear hb10
  go_wp2_with fail
  generalize hW : w10.alloc _ = w11
  obtain ⟨hb, b10, -⟩ := boxesA1 hW
  clear hW
  have hbA := hbA.trans (hb.mono hbA.size)
  have x2 := x2.below hb
  have x4 := x4.below hb
  have x6 := x6.below hb
  have x8 := x8.below hb
  have x10 := x10.below hb
  have b2 := b2.below' hb
  have b4 := b4.below' hb
  have b6 := b6.below' hb
  have b8 := b8.below' hb
  clear hb
  generalize w10.heap.size = g10 at *
  with_reducible refine (hbell_ok n hn _ _ rfl).mono ?_
  intro e w12 h
  obtain ⟨A12, n12, c12, rfl, x12, hb12⟩ := GivesNE.cn h
  clear h
  have hbA := hbA.trans (hb12.mono hbA.size)
  have x2 := x2.below hb12
  have x4 := x4.below hb12
  have x6 := x6.below hb12
  have x8 := x8.below hb12
  have x10 := x10.below hb12
  have b2 := b2.below' hb12
  have b4 := b4.below' hb12
  have b6 := b6.below' hb12
  have b8 := b8.below' hb12
  have b10 := b10.below' hb12
  clear hb12
  have k2 := b2.cell
  have l2 := b2.lt
  have k4 := b4.cell
  have l4 := b4.lt
  go_wp2_with fail
  clear k2 l2 k4 l4
  generalize hW : w12.alloc _ = w13
  obtain ⟨hb, b12, -⟩ := boxesA1 hW
  clear hW
  have hbA := hbA.trans (hb.mono hbA.size)
  have x2 := x2.below hb
  have x4 := x4.below hb
  have x6 := x6.below hb
  have x8 := x8.below hb
  have x10 := x10.below hb
  have x12 := x12.below hb
  have b2 := b2.below' hb
  have b4 := b4.below' hb
  have b6 := b6.below' hb
  have b8 := b8.below' hb
  have b10 := b10.below' hb
  clear hb
  generalize w12.heap.size = g12 at *
  with_reducible refine (csame x2 x4 _).mono ?_
  rintro e w14 ⟨rfl, hb⟩
  have hbA := hbA.trans (hb.mono hbA.size)
  have x2 := x2.below hb
  have x4 := x4.below hb
  have x6 := x6.below hb
  have x8 := x8.below hb
  have x10 := x10.below hb
  have x12 := x12.below hb
  have b2 := b2.below' hb
  have b4 := b4.below' hb
  have b6 := b6.below' hb
  have b8 := b8.below' hb
  have b10 := b10.below' hb
  have b12 := b12.below' hb
  clear hb
  have k6 := b6.cell
  have l6 := b6.lt
  have k8 := b8.cell
  have l8 := b8.lt
  go_wp2_with fail
  clear k6 l6 k8 l8
  with_reducible refine (csame x6 x8 _).mono ?_
  rintro e w15 ⟨rfl, hb⟩
  have hbA := hbA.trans (hb.mono hbA.size)
  have x2 := x2.below hb
  have x4 := x4.below hb
  have x6 := x6.below hb
  have x8 := x8.below hb
  have x10 := x10.below hb
  have x12 := x12.below hb
  have b2 := b2.below' hb
  have b4 := b4.below' hb
  have b6 := b6.below' hb
  have b8 := b8.below' hb
  have b10 := b10.below' hb
  have b12 := b12.below' hb
  clear hb
  have k10 := b10.cell
  have l10 := b10.lt
  have k12 := b12.cell
  have l12 := b12.lt
  go_wp2_with fail
  clear k10 l10 k12 l12
  with_reducible refine (csame x10 x12 _).mono ?_
  rintro e w16 ⟨rfl, hb⟩
  have hbA := hbA.trans (hb.mono hbA.size)
  have x2 := x2.below hb
  have x4 := x4.below hb
  have x6 := x6.below hb
  have x8 := x8.below hb
  have x10 := x10.below hb
  have x12 := x12.below hb
  have b2 := b2.below' hb
  have b4 := b4.below' hb
  have b6 := b6.below' hb
  have b8 := b8.below' hb
  have b10 := b10.below' hb
  have b12 := b12.below' hb
  clear hb
  go_wp2_with fail
  go_ret
  exact ⟨rfl, hbA⟩
theorem cparts_all (HA : Hid (∀ w, Tab w → Calls Tryd.prog 12 #[] w fun e w' => e = .returned (.bool true) ∧ Below w.heap.size w w')) (i j : Int) (w : World) (hT : Tab w) (_hi : -9223372036854775808 ≤ i ∧ i ≤ 9223372036854775807) (_hj : -9223372036854775808 ≤ j ∧ j ≤ 9223372036854775807) : Calls Tryd.prog 5 #[.int .i64 i, .int .i64 j] w fun e w' => e = .returned (.bool true) ∧ Below w.heap.size w w' := by
  by_cases hi : 0 ≤ i ∧ i ≤ 64
  · obtain ⟨n, rfl⟩ : ∃ n : Nat, i = (n : Int) := ⟨i.toNat, by omega⟩
    by_cases hj : 0 ≤ j ∧ j ≤ 64
    · obtain ⟨k, rfl⟩ : ∃ k : Nat, j = (k : Int) := ⟨j.toNat, by omega⟩
      exact cparts_ok w n k (by omega) (by omega) HA hT
    · exact cparts_mid w n (by omega) j HA hT hj
  · exact cparts_err w i j HA hT hi
end Go.Proofs.YtjmiaodjapclbaaDoor
