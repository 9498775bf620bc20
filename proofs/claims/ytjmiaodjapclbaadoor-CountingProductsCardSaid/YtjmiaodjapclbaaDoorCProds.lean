/- CountingProducts: the walks -/
import Derived.Test.YtjmiaodjapclbaaDoorCLaw
import Derived.Test.YtjmiaodjapclbaaDoorCFact
import Derived.Test.YtjmiaodjapclbaaDoorHErr
namespace Go.Proofs.YtjmiaodjapclbaaDoor
open Go Go.RowKit

theorem hfall_any (n k : Nat) (hn : n ≤ 200) (hk : k ≤ 200) (w : World) (T : Nat) (hT : falr n k = T) : Calls Tryd.prog 16 #[.int .i64 (n : Int), .int .i64 (k : Int)] w (GivesNE T 0 w) := by
  by_cases h : n < k
  · obtain rfl : T = 0 := hT.symm.trans (falr_zero h)
    exact hfall_gt n k w hn hk h
  · exact hfall_ok n k hn hk (by omega) w T hT
set_option maxHeartbeats 16000000 in
set_option maxRecDepth 100000 in
theorem cprods_err (w : World) (i j : Int) (HA : Hid (∀ w, Tab w → Calls Tryd.prog 12 #[] w fun e w' => e = .returned (.bool true) ∧ Below w.heap.size w w')) (hT : Tab w) (h : ¬(0 ≤ i ∧ i ≤ 200)) : Calls Tryd.prog 3 #[.int .i64 i, .int .i64 j] w fun e w' => e = .returned (.bool true) ∧ Below w.heap.size w w' := by
  have HT := hide hT
  clear hT
  have H1 := hide h
  have H2 := hide (show ¬((0 ≤ i ∧ i ≤ 200) ∧ 0 ≤ j ∧ j ≤ 200) from fun q => h q.1)
  clear h
  go_enter Tryd.func3, Tryd.ntmps3
  go_wp2_with fail
  have hbA : Below w.heap.size w w := Below.refl _ _
  with_reducible refine (HA.out _ HT.out).mono ?_
  rintro e w1 ⟨rfl, hb⟩
  have hbA := hbA.trans (hb.mono hbA.size)
  clear hb
  go_wp2_with fail
  with_reducible refine (cfact_err _ i H1.out).mono ?_
  intro e w2 h
  obtain ⟨A2, n2, c2, rfl, x2, hb2⟩ := GivesNE.cn h
  clear h
  have hbA := hbA.trans (hb2.mono hbA.size)
  clear hb2
  go_wp2_with fail
  generalize hW : w2.alloc _ = w3
  obtain ⟨hb, b2, -⟩ := boxesA1 hW
  clear hW
  have hbA := hbA.trans (hb.mono hbA.size)
  have x2 := x2.below hb
  clear hb
  generalize w2.heap.size = g2 at *
  with_reducible refine (hfact_err i _ H1.out).mono ?_
  intro e w4 h
  obtain ⟨A4, n4, c4, rfl, x4, hb4⟩ := GivesNE.cn h
  clear h
  have hbA := hbA.trans (hb4.mono hbA.size)
  have x2 := x2.below hb4
  have b2 := b2.below' hb4
  clear hb4
  go_wp2_with fail
  generalize hW : w4.alloc _ = w5
  obtain ⟨hb, b4, -⟩ := boxesA1 hW
  clear hW
  have hbA := hbA.trans (hb.mono hbA.size)
  have x2 := x2.below hb
  have x4 := x4.below hb
  have b2 := b2.below' hb
  clear hb
  generalize w4.heap.size = g4 at *
  with_reducible refine (cfall_err _ i j H2.out).mono ?_
  intro e w6 h
  obtain ⟨A6, n6, c6, rfl, x6, hb6⟩ := GivesNE.cn h
  clear h
  have hbA := hbA.trans (hb6.mono hbA.size)
  have x2 := x2.below hb6
  have x4 := x4.below hb6
  have b2 := b2.below' hb6
  have b4 := b4.below' hb6
  clear hb6
  go_wp2_with fail
  generalize hW : w6.alloc _ = w7
  obtain ⟨hb, b6, -⟩ := boxesA1 hW
  clear hW
  have hbA := hbA.trans (hb.mono hbA.size)
  have x2 := x2.below hb
  have x4 := x4.below hb
  have x6 := x6.below hb
  have b2 := b2.below' hb
  have b4 := b4.below' hb
  clear hb
  generalize w6.heap.size = g6 at *
  with_reducible refine (hfall_err i j _ H2.out).mono ?_
  intro e w8 h
  obtain ⟨A8, n8, c8, rfl, x8, hb8⟩ := GivesNE.cn h
  clear h
  have hbA := hbA.trans (hb8.mono hbA.size)
  have x2 := x2.below hb8
  have x4 := x4.below hb8
  have x6 := x6.below hb8
  have b2 := b2.below' hb8
  have b4 := b4.below' hb8
  have b6 := b6.below' hb8
  clear hb8
  have k2 := b2.cell
  have l2 := b2.lt
  have k4 := b4.cell
  have l4 := b4.lt
  go_wp2_with fail
  clear k2 l2 k4 l4
  generalize hW : w8.alloc _ = w9
  obtain ⟨hb, b8, -⟩ := boxesA1 hW
  clear hW
  have hbA := hbA.trans (hb.mono hbA.size)
  have x2 := x2.below hb
  have x4 := x4.below hb
  have x6 := x6.below hb
  have x8 := x8.below hb
  have b2 := b2.below' hb
  have b4 := b4.below' hb
  have b6 := b6.below' hb
  clear hb
  generalize w8.heap.size = g8 at *
  with_reducible refine (csame x2 x4 _).mono ?_
  rintro e w10 ⟨rfl, hb⟩
  have hbA := hbA.trans (hb.mono hbA.size)
  have x2 := x2.below hb
  have x4 := x4.below hb
  have x6 := x6.below hb
  have x8 := x8.below hb
  have b2 := b2.below' hb
  have b4 := b4.below' hb
  have b6 := b6.below' hb
  have b8 := b8.below' hb
  clear hb
  have k6 := b6.cell
  have l6 := b6.lt
  have k8 := b8.cell
  have l8 := b8.lt
  go_wp2_with fail
  clear k6 l6 k8 l8
  with_reducible refine (csame x6 x8 _).mono ?_
  rintro e w11 ⟨rfl, hb⟩
  have hbA := hbA.trans (hb.mono hbA.size)
  have x2 := x2.below hb
  have x4 := x4.below hb
  have x6 := x6.below hb
  have x8 := x8.below hb
  have b2 := b2.below' hb
  have b4 := b4.below' hb
  have b6 := b6.below' hb
  have b8 := b8.below' hb
  clear hb
  go_wp2_with fail
  go_ret
  exact ⟨rfl, hbA⟩
set_option maxHeartbeats 16000000 in
set_option maxRecDepth 100000 in
theorem cprods_mid (w : World) (n : Nat) (hn : n ≤ 200) (j : Int) (HA : Hid (∀ w, Tab w → Calls Tryd.prog 12 #[] w fun e w' => e = .returned (.bool true) ∧ Below w.heap.size w w')) (hT : Tab w) (h : ¬(0 ≤ j ∧ j ≤ 200)) : Calls Tryd.prog 3 #[.int .i64 (n : Int), .int .i64 j] w fun e w' => e = .returned (.bool true) ∧ Below w.heap.size w w' := by
  have HT := hide hT
  clear hT
  have H2 := hide (show ¬((0 ≤ (n : Int) ∧ (n : Int) ≤ 200) ∧ 0 ≤ j ∧ j ≤ 200) from fun q => h q.2)
  clear h
  go_enter Tryd.func3, Tryd.ntmps3
  go_wp2_with fail
  have hbA : Below w.heap.size w w := Below.refl _ _
  with_reducible refine (HA.out _ HT.out).mono ?_
  rintro e w1 ⟨rfl, hb⟩
  have hbA := hbA.trans (hb.mono hbA.size)
  clear hb
  go_wp2_with fail
  with_reducible refine (cfact_ok _ n hn _ rfl).mono ?_
  intro e w2 h
  obtain ⟨A2, n2, c2, rfl, x2, hb2⟩ := GivesNE.cn h
  clear h
  have hbA := hbA.trans (hb2.mono hbA.size)
  clear hb2
  go_wp2_with fail
  generalize hW : w2.alloc _ = w3
  obtain ⟨hb, b2, -⟩ := boxesA1 hW
  clear hW
  have hbA := hbA.trans (hb.mono hbA.size)
  have x2 := x2.below hb
  clear hb
  generalize w2.heap.size = g2 at *
  with_reducible refine (hfact_ok n hn _ _ rfl).mono ?_
  intro e w4 h
  obtain ⟨A4, n4, c4, rfl, x4, hb4⟩ := GivesNE.cn h
  clear h
  have hbA := hbA.trans (hb4.mono hbA.size)
  have x2 := x2.below hb4
  have b2 := b2.below' hb4
  clear hb4
  go_wp2_with fail
  generalize hW : w4.alloc _ = w5
  obtain ⟨hb, b4, -⟩ := boxesA1 hW
  clear hW
  have hbA := hbA.trans (hb.mono hbA.size)
  have x2 := x2.below hb
  have x4 := x4.below hb
  have b2 := b2.below' hb
  clear hb
  generalize w4.heap.size = g4 at *
  with_reducible refine (cfall_err _ n j H2.out).mono ?_
  intro e w6 h
  obtain ⟨A6, n6, c6, rfl, x6, hb6⟩ := GivesNE.cn h
  clear h
  have hbA := hbA.trans (hb6.mono hbA.size)
  have x2 := x2.below hb6
  have x4 := x4.below hb6
  have b2 := b2.below' hb6
  have b4 := b4.below' hb6
  clear hb6
  go_wp2_with fail
  generalize hW : w6.alloc _ = w7
  obtain ⟨hb, b6, -⟩ := boxesA1 hW
  clear hW
  have hbA := hbA.trans (hb.mono hbA.size)
  have x2 := x2.below hb
  have x4 := x4.below hb
  have x6 := x6.below hb
  have b2 := b2.below' hb
  have b4 := b4.below' hb
  clear hb
  generalize w6.heap.size = g6 at *
  with_reducible refine (hfall_err n j _ H2.out).mono ?_
  intro e w8 h
  obtain ⟨A8, n8, c8, rfl, x8, hb8⟩ := GivesNE.cn h
  clear h
  have hbA := hbA.trans (hb8.mono hbA.size)
  have x2 := x2.below hb8
  have x4 := x4.below hb8
  have x6 := x6.below hb8
  have b2 := b2.below' hb8
  have b4 := b4.below' hb8
  have b6 := b6.below' hb8
  clear hb8
  have k2 := b2.cell
  have l2 := b2.lt
  have k4 := b4.cell
  have l4 := b4.lt
  go_wp2_with fail
  clear k2 l2 k4 l4
  generalize hW : w8.alloc _ = w9
  obtain ⟨hb, b8, -⟩ := boxesA1 hW
  clear hW
  have hbA := hbA.trans (hb.mono hbA.size)
  have x2 := x2.below hb
  have x4 := x4.below hb
  have x6 := x6.below hb
  have x8 := x8.below hb
  have b2 := b2.below' hb
  have b4 := b4.below' hb
  have b6 := b6.below' hb
  clear hb
  generalize w8.heap.size = g8 at *
  with_reducible refine (csame x2 x4 _).mono ?_
  rintro e w10 ⟨rfl, hb⟩
  have hbA := hbA.trans (hb.mono hbA.size)
  have x2 := x2.below hb
  have x4 := x4.below hb
  have x6 := x6.below hb
  have x8 := x8.below hb
  have b2 := b2.below' hb
  have b4 := b4.below' hb
  have b6 := b6.below' hb
  have b8 := b8.below' hb
  clear hb
  have k6 := b6.cell
  have l6 := b6.lt
  have k8 := b8.cell
  have l8 := b8.lt
  go_wp2_with fail
  clear k6 l6 k8 l8
  with_reducible refine (csame x6 x8 _).mono ?_
  rintro e w11 ⟨rfl, hb⟩
  have hbA := hbA.trans (hb.mono hbA.size)
  have x2 := x2.below hb
  have x4 := x4.below hb
  have x6 := x6.below hb
  have x8 := x8.below hb
  have b2 := b2.below' hb
  have b4 := b4.below' hb
  have b6 := b6.below' hb
  have b8 := b8.below' hb
  clear hb
  go_wp2_with fail
  go_ret
  exact ⟨rfl, hbA⟩
set_option maxHeartbeats 16000000 in
set_option maxRecDepth 100000 in
theorem cprods_ok (w : World) (n k : Nat) (hn : n ≤ 200) (hk : k ≤ 200) (HA : Hid (∀ w, Tab w → Calls Tryd.prog 12 #[] w fun e w' => e = .returned (.bool true) ∧ Below w.heap.size w w')) (hT : Tab w) : Calls Tryd.prog 3 #[.int .i64 (n : Int), .int .i64 (k : Int)] w fun e w' => e = .returned (.bool true) ∧ Below w.heap.size w w' := by
  have HT := hide hT
  clear hT
  go_enter Tryd.func3, Tryd.ntmps3
  go_wp2_with fail
  have hbA : Below w.heap.size w w := Below.refl _ _
  with_reducible refine (HA.out _ HT.out).mono ?_
  rintro e w1 ⟨rfl, hb⟩
  have hbA := hbA.trans (hb.mono hbA.size)
  clear hb
  go_wp2_with fail
  with_reducible refine (cfact_ok _ n hn _ rfl).mono ?_
  intro e w2 h
  obtain ⟨A2, n2, c2, rfl, x2, hb2⟩ := GivesNE.cn h
  clear h
  have hbA := hbA.trans (hb2.mono hbA.size)
  clear hb2
  go_wp2_with fail
  generalize hW : w2.alloc _ = w3
  obtain ⟨hb, b2, -⟩ := boxesA1 hW
  clear hW
  have hbA := hbA.trans (hb.mono hbA.size)
  have x2 := x2.below hb
  clear hb
  generalize w2.heap.size = g2 at *
  with_reducible refine (hfact_ok n hn _ _ rfl).mono ?_
  intro e w4 h
  obtain ⟨A4, n4, c4, rfl, x4, hb4⟩ := GivesNE.cn h
  clear h
  have hbA := hbA.trans (hb4.mono hbA.size)
  have x2 := x2.below hb4
  have b2 := b2.below' hb4
  clear hb4
  go_wp2_with fail
  generalize hW : w4.alloc _ = w5
  obtain ⟨hb, b4, -⟩ := boxesA1 hW
  clear hW
  have hbA := hbA.trans (hb.mono hbA.size)
  have x2 := x2.below hb
  have x4 := x4.below hb
  have b2 := b2.below' hb
  clear hb
  generalize w4.heap.size = g4 at *
  with_reducible refine (cfall_ok _ n k hn hk _ rfl).mono ?_
  intro e w6 h
  obtain ⟨A6, n6, c6, rfl, x6, hb6⟩ := GivesNE.cn h
  clear h
  have hbA := hbA.trans (hb6.mono hbA.size)
  have x2 := x2.below hb6
  have x4 := x4.below hb6
  have b2 := b2.below' hb6
  have b4 := b4.below' hb6
  clear hb6
  go_wp2_with fail
  generalize hW : w6.alloc _ = w7
  obtain ⟨hb, b6, -⟩ := boxesA1 hW
  clear hW
  have hbA := hbA.trans (hb.mono hbA.size)
  have x2 := x2.below hb
  have x4 := x4.below hb
  have x6 := x6.below hb
  have b2 := b2.below' hb
  have b4 := b4.below' hb
  clear hb
  generalize w6.heap.size = g6 at *
  with_reducible refine (hfall_any n k hn hk _ _ rfl).mono ?_
  intro e w8 h
  obtain ⟨A8, n8, c8, rfl, x8, hb8⟩ := GivesNE.cn h
  clear h
  have hbA := hbA.trans (hb8.mono hbA.size)
  have x2 := x2.below hb8
  have x4 := x4.below hb8
  have x6 := x6.below hb8
  have b2 := b2.below' hb8
  have b4 := b4.below' hb8
  have b6 := b6.below' hb8
  clear hb8
  have k2 := b2.cell
  have l2 := b2.lt
  have k4 := b4.cell
  have l4 := b4.lt
  go_wp2_with fail
  clear k2 l2 k4 l4
  generalize hW : w8.alloc _ = w9
  obtain ⟨hb, b8, -⟩ := boxesA1 hW
  clear hW
  have hbA := hbA.trans (hb.mono hbA.size)
  have x2 := x2.below hb
  have x4 := x4.below hb
  have x6 := x6.below hb
  have x8 := x8.below hb
  have b2 := b2.below' hb
  have b4 := b4.below' hb
  have b6 := b6.below' hb
  clear hb
  generalize w8.heap.size = g8 at *
  with_reducible refine (csame x2 x4 _).mono ?_
  rintro e w10 ⟨rfl, hb⟩
  have hbA := hbA.trans (hb.mono hbA.size)
  have x2 := x2.below hb
  have x4 := x4.below hb
  have x6 := x6.below hb
  have x8 := x8.below hb
  have b2 := b2.below' hb
  have b4 := b4.below' hb
  have b6 := b6.below' hb
  have b8 := b8.below' hb
  clear hb
  have k6 := b6.cell
  have l6 := b6.lt
  have k8 := b8.cell
  have l8 := b8.lt
  go_wp2_with fail
  clear k6 l6 k8 l8
  with_reducible refine (csame x6 x8 _).mono ?_
  rintro e w11 ⟨rfl, hb⟩
  have hbA := hbA.trans (hb.mono hbA.size)
  have x2 := x2.below hb
  have x4 := x4.below hb
  have x6 := x6.below hb
  have x8 := x8.below hb
  have b2 := b2.below' hb
  have b4 := b4.below' hb
  have b6 := b6.below' hb
  have b8 := b8.below' hb
  clear hb
  go_wp2_with fail
  go_ret
  exact ⟨rfl, hbA⟩
theorem cprods_all (HA : Hid (∀ w, Tab w → Calls Tryd.prog 12 #[] w fun e w' => e = .returned (.bool true) ∧ Below w.heap.size w w')) (i j : Int) (w : World) (hT : Tab w) (_hi : -9223372036854775808 ≤ i ∧ i ≤ 9223372036854775807) (_hj : -9223372036854775808 ≤ j ∧ j ≤ 9223372036854775807) : Calls Tryd.prog 3 #[.int .i64 i, .int .i64 j] w fun e w' => e = .returned (.bool true) ∧ Below w.heap.size w w' := by
  by_cases hi : 0 ≤ i ∧ i ≤ 200
  · obtain ⟨n, rfl⟩ : ∃ n : Nat, i = (n : Int) := ⟨i.toNat, by omega⟩
    by_cases hj : 0 ≤ j ∧ j ≤ 200
    · obtain ⟨k, rfl⟩ : ∃ k : Nat, j = (k : Int) := ⟨j.toNat, by omega⟩
      exact cprods_ok w n k (by omega) (by omega) HA hT
    · exact cprods_mid w n (by omega) j HA hT hj
  · exact cprods_err w i j HA hT hi
end Go.Proofs.YtjmiaodjapclbaaDoor
