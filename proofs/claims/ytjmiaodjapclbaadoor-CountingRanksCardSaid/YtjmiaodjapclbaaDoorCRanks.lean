/- CountingRanks: the walks -/
import Derived.Test.YtjmiaodjapclbaaDoorCLaw
import Derived.Test.YtjmiaodjapclbaaDoorHRank
namespace Go.Proofs.YtjmiaodjapclbaaDoor
open Go Go.RowKit

set_option maxHeartbeats 16000000 in
set_option maxRecDepth 100000 in
theorem cranks_err2 (w : World) (i : Int) (A : Option Addr) (m c : Nat) (HA : Hid (∀ w, Tab w → Calls Tryd.prog 12 #[] w fun e w' => e = .returned (.bool true) ∧ Below w.heap.size w w')) (hT : Tab w) (hm : m ≤ 80) (h : ¬(0 ≤ i ∧ i ≤ 64)) : Calls Tryd.prog 6 #[.int .i64 i, .slice A m c] w fun e w' => e = .returned (.bool true) ∧ Below w.heap.size w w' := by
  have HT := hide hT
  clear hT
  have d80 : decide ((80 : Int) < (m : Int)) = false := by simp; omega
  have H1 := hide h
  clear h
  go_enter Tryd.func6, Tryd.ntmps6
  go_wp2_with fail
  have hbA : Below w.heap.size w w := Below.refl _ _
  with_reducible refine (HA.out _ HT.out).mono ?_
  rintro e w1 ⟨rfl, hb⟩
  have hbA := hbA.trans (hb.mono hbA.size)
  clear hb
  go_wp2_with fail
  with_reducible refine (crank_err2 i A m c _ H1.out).mono ?_
  intro e w2 h
  obtain ⟨A2, n2, c2, rfl, x2, hb2⟩ := GivesNE.cn h
  clear h
  have hbA := hbA.trans (hb2.mono hbA.size)
  clear hb2
  go_wp2_with fail
  generalize hW : w2.alloc _ = w3
  obtain ⟨hb, b2, -⟩ := boxesA1 hW
  clear hW
  have hbA := hbA.trans (hb.mono hbA.size)
  have x2 := x2.below hb
  clear hb
  generalize w2.heap.size = g2 at *
  with_reducible refine (hrank_err2 i A m c _ H1.out).mono ?_
  intro e w4 h
  obtain ⟨A4, n4, c4, rfl, x4, hb4⟩ := GivesNE.cn h
  clear h
  have hbA := hbA.trans (hb4.mono hbA.size)
  have x2 := x2.below hb4
  have b2 := b2.below' hb4
  clear hb4
  have k2 := b2.cell
  have l2 := b2.lt
  go_wp2_with fail
  clear k2 l2
  generalize hW : w4.alloc _ = w5
  obtain ⟨hb, b4, -⟩ := boxesA1 hW
  clear hW
  have hbA := hbA.trans (hb.mono hbA.size)
  have x2 := x2.below hb
  have x4 := x4.below hb
  have b2 := b2.below' hb
  clear hb
  generalize w4.heap.size = g4 at *
  with_reducible refine (csame x2 x4 _).mono ?_
  rintro e w6 ⟨rfl, hb⟩
  have hbA := hbA.trans (hb.mono hbA.size)
  have x2 := x2.below hb
  have x4 := x4.below hb
  have b2 := b2.below' hb
  have b4 := b4.below' hb
  clear hb
  go_wp2_with fail
  go_ret
  exact ⟨rfl, hbA⟩
set_option maxHeartbeats 16000000 in
set_option maxRecDepth 100000 in
theorem cranks_err1 (w : World) (n : Nat) (A : Option Addr) (m c : Nat) (xs : List Int) (HA : Hid (∀ w, Tab w → Calls Tryd.prog 12 #[] w fun e w' => e = .returned (.bool true) ∧ Below w.heap.size w w')) (hT : Tab w) (hx : IL w A m xs) (hm : m ≤ 80) (hn : n ≤ 64) (h : setB n 0 xs = false) : Calls Tryd.prog 6 #[.int .i64 (n : Int), .slice A m c] w fun e w' => e = .returned (.bool true) ∧ Below w.heap.size w w' := by
  have HT := hide hT
  clear hT
  have d80 : decide ((80 : Int) < (m : Int)) = false := by simp; omega
  have H1 := hide h
  have HX := hide hx
  have HM := hide (show m ≤ maxLen from by unfold maxLen; omega)
  clear h hx
  go_enter Tryd.func6, Tryd.ntmps6
  go_wp2_with fail
  have hbA : Below w.heap.size w w := Below.refl _ _
  with_reducible refine (HA.out _ HT.out).mono ?_
  rintro e w1 ⟨rfl, hb⟩
  have hbA := hbA.trans (hb.mono hbA.size)
  clear hb
  go_wp2_with fail
  with_reducible refine (crank_err1 n A m c xs _ (HX.out.below hbA) hn HM.out H1.out).mono ?_
  intro e w2 h
  obtain ⟨A2, n2, c2, rfl, x2, hb2⟩ := GivesNE.cn h
  clear h
  have hbA := hbA.trans (hb2.mono hbA.size)
  clear hb2
  go_wp2_with fail
  generalize hW : w2.alloc _ = w3
  obtain ⟨hb, b2, -⟩ := boxesA1 hW
  clear hW
  have hbA := hbA.trans (hb.mono hbA.size)
  have x2 := x2.below hb
  clear hb
  generalize w2.heap.size = g2 at *
  with_reducible refine (hrank_err1 n A m c xs _ (HX.out.below hbA) hn HM.out H1.out).mono ?_
  intro e w4 h
  obtain ⟨A4, n4, c4, rfl, x4, hb4⟩ := GivesNE.cn h
  clear h
  have hbA := hbA.trans (hb4.mono hbA.size)
  have x2 := x2.below hb4
  have b2 := b2.below' hb4
  clear hb4
  have k2 := b2.cell
  have l2 := b2.lt
  go_wp2_with fail
  clear k2 l2
  generalize hW : w4.alloc _ = w5
  obtain ⟨hb, b4, -⟩ := boxesA1 hW
  clear hW
  have hbA := hbA.trans (hb.mono hbA.size)
  have x2 := x2.below hb
  have x4 := x4.below hb
  have b2 := b2.below' hb
  clear hb
  generalize w4.heap.size = g4 at *
  with_reducible refine (csame x2 x4 _).mono ?_
  rintro e w6 ⟨rfl, hb⟩
  have hbA := hbA.trans (hb.mono hbA.size)
  have x2 := x2.below hb
  have x4 := x4.below hb
  have b2 := b2.below' hb
  have b4 := b4.below' hb
  clear hb
  go_wp2_with fail
  go_ret
  exact ⟨rfl, hbA⟩
set_option maxHeartbeats 16000000 in
set_option maxRecDepth 100000 in
theorem cranks_ok (w : World) (n : Nat) (A : Option Addr) (m c : Nat) (l : List Nat) (HA : Hid (∀ w, Tab w → Calls Tryd.prog 12 #[] w fun e w' => e = .returned (.bool true) ∧ Below w.heap.size w w')) (hT : Tab w) (hx : RL w .i64 A m l) (hm : m ≤ 80) (hn : n ≤ 64) (ha : asc_ 0 n l) : Calls Tryd.prog 6 #[.int .i64 (n : Int), .slice A m c] w fun e w' => e = .returned (.bool true) ∧ Below w.heap.size w w' := by
  have HT := hide hT
  clear hT
  have d80 : decide ((80 : Int) < (m : Int)) = false := by simp; omega
  have H1 := hide ha
  have HX := hide hx
  clear ha hx
  go_enter Tryd.func6, Tryd.ntmps6
  go_wp2_with fail
  have hbA : Below w.heap.size w w := Below.refl _ _
  with_reducible refine (HA.out _ HT.out).mono ?_
  rintro e w1 ⟨rfl, hb⟩
  have hbA := hbA.trans (hb.mono hbA.size)
  clear hb
  go_wp2_with fail
  with_reducible refine (crank_ok n A m c l _ (HX.out.below hbA) hn H1.out _ rfl).mono ?_
  intro e w2 h
  obtain ⟨A2, n2, c2, rfl, x2, hb2⟩ := GivesNE.cn h
  clear h
  have hbA := hbA.trans (hb2.mono hbA.size)
  clear hb2
  go_wp2_with fail
  generalize hW : w2.alloc _ = w3
  obtain ⟨hb, b2, -⟩ := boxesA1 hW
  clear hW
  have hbA := hbA.trans (hb.mono hbA.size)
  have x2 := x2.below hb
  clear hb
  generalize w2.heap.size = g2 at *
  with_reducible refine (hrank_ok n A m c l _ (HX.out.below hbA) hn H1.out _ rfl).mono ?_
  intro e w4 h
  obtain ⟨A4, n4, c4, rfl, x4, hb4⟩ := GivesNE.cn h
  clear h
  have hbA := hbA.trans (hb4.mono hbA.size)
  have x2 := x2.below hb4
  have b2 := b2.below' hb4
  clear hb4
  have k2 := b2.cell
  have l2 := b2.lt
  go_wp2_with fail
  clear k2 l2
  generalize hW : w4.alloc _ = w5
  obtain ⟨hb, b4, -⟩ := boxesA1 hW
  clear hW
  have hbA := hbA.trans (hb.mono hbA.size)
  have x2 := x2.below hb
  have x4 := x4.below hb
  have b2 := b2.below' hb
  clear hb
  generalize w4.heap.size = g4 at *
  with_reducible refine (csame x2 x4 _).mono ?_
  rintro e w6 ⟨rfl, hb⟩
  have hbA := hbA.trans (hb.mono hbA.size)
  have x2 := x2.below hb
  have x4 := x4.below hb
  have b2 := b2.below' hb
  have b4 := b4.below' hb
  clear hb
  go_wp2_with fail
  go_ret
  exact ⟨rfl, hbA⟩
set_option maxHeartbeats 16000000 in
set_option maxRecDepth 100000 in
theorem cranks_big (w : World) (i : Int) (A : Option Addr) (m c : Nat) (HA : Hid (∀ w, Tab w → Calls Tryd.prog 12 #[] w fun e w' => e = .returned (.bool true) ∧ Below w.heap.size w w')) (hT : Tab w) (h : 80 < m) : Calls Tryd.prog 6 #[.int .i64 i, .slice A m c] w fun e w' => e = .returned (.bool true) ∧ Below w.heap.size w w' := by
  have HT := hide hT
  clear hT
  have d80 : decide ((80 : Int) < (m : Int)) = true := by simp; omega
  go_enter Tryd.func6, Tryd.ntmps6
  go_wp2_with fail
  have hbA : Below w.heap.size w w := Below.refl _ _
  with_reducible refine (HA.out _ HT.out).mono ?_
  rintro e w1 ⟨rfl, hb⟩
  have hbA := hbA.trans (hb.mono hbA.size)
  clear hb
  go_wp2_with fail
  with_reducible refine (HA.out _ (HT.out.below hbA)).mono ?_
  rintro e w2 ⟨rfl, hb⟩
  have hbA := hbA.trans (hb.mono hbA.size)
  clear hb
  go_wp2_with fail
  go_ret
  exact ⟨rfl, hbA⟩
theorem cranks_all (HA : Hid (∀ w, Tab w → Calls Tryd.prog 12 #[] w fun e w' => e = .returned (.bool true) ∧ Below w.heap.size w w')) (i : Int) (A : Option Addr) (m c : Nat) (xs : List Int) (w : World) (hT : Tab w) (hx : IL w A m xs) (_hmc : m ≤ maxLen) : Calls Tryd.prog 6 #[.int .i64 i, .slice A m c] w fun e w' => e = .returned (.bool true) ∧ Below w.heap.size w w' := by
  by_cases hm : m ≤ 80
  · by_cases hi : 0 ≤ i ∧ i ≤ 64
    · obtain ⟨n, rfl⟩ : ∃ n : Nat, i = (n : Int) := ⟨i.toNat, by omega⟩
      cases h : setB n 0 xs with
      | false => exact cranks_err1 w n A m c xs HA hT hx hm (by omega) h
      | true =>
        obtain ⟨l, rfl, hl⟩ := setB_asc n xs 0 h
        exact cranks_ok w n A m c l HA hT hx.rl hm (by omega) hl
    · exact cranks_err2 w i A m c HA hT hm hi
  · exact cranks_big w i A m c HA hT (by omega)
end Go.Proofs.YtjmiaodjapclbaaDoor
