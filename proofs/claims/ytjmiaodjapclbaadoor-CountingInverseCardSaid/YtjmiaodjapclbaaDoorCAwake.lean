/- awake (layer 3) -/
import Derived.Test.YtjmiaodjapclbaaDoorCLaw
namespace Go.Proofs.YtjmiaodjapclbaaDoor
open Go Go.RowKit

set_option maxHeartbeats 8000000 in
set_option maxRecDepth 100000 in
theorem cawake (w : World) (hT : Tab w) : Calls Tryd.prog 12 #[] w fun e w' => e = .returned (.bool true) ∧ Below w.heap.size w w' := by
  have HT := hide hT
  have HL7 := hide (show (7 : Nat) < B9 ^ 100 from Nat.lt_of_lt_of_le (show 7 < B9 ^ 1 by decide) (Nat.pow_le_pow_right (by decide) (by omega)))
  have HL2 := hide (show (2 : Nat) < B9 ^ 100 from Nat.lt_of_lt_of_le (show 2 < B9 ^ 1 by decide) (Nat.pow_le_pow_right (by decide) (by omega)))
  have HL20 := hide (show (20 : Nat) < B9 ^ 100 from Nat.lt_of_lt_of_le (show 20 < B9 ^ 1 by decide) (Nat.pow_le_pow_right (by decide) (by omega)))
  have hbA : Below w.heap.size w w := Below.refl _ _
  have C1 := hide (show ∀ W, Calls Tryd.prog 20 #[.int .i64 4, .int .i64 2] W (GivesNE 7 0 W) from fun W => cstir_ok 4 2 (by omega) W 7 (by decide))
  have C2 := hide (show ∀ W A, RL W .i64 A 2 [0, 3] → Calls Tryd.prog 26 #[.int .i64 4, .slice A 2 2] W (GivesNE 2 0 W) from fun W A hs => crank_ok 4 A 2 2 [0, 3] W hs (by omega) (by exact ⟨by decide, by decide, by decide, by decide, trivial⟩) 2 (by decide))
  have C3 := hide (show ∀ W, Calls Tryd.prog 18 #[.int .i64 6, .int .i64 3] W (GivesNE 20 0 W) from fun W => cbin_ok 6 3 (by omega) W 20 (by decide))
  clear hT
  go_enter Tryd.func12, Tryd.ntmps12
  go_wp2_with fail
  with_reducible refine (C1.out _).mono ?_
  intro e w1 h
  obtain ⟨A1, n1, c1, rfl, x1, hb1⟩ := GivesNE.cn h
  clear h
  have hbA := hbA.trans (hb1.mono hbA.size)
  clear hb1
  go_wp2_with fail
  generalize hW : (w1.alloc _).alloc _ = w2
  obtain ⟨hb, b1, bs, -⟩ := boxesA2 hW
  clear hW
  have hbA := hbA.trans (hb.mono hbA.size)
  have hs : RL w2 .i64 (some ⟨w1.heap.size + 1, 0, none⟩) 2 [0, 3] := Own.rl (xs := [0, 3]) bs rfl
  have x1 := x1.below hb
  clear hb bs
  generalize w1.heap.size = g1 at *
  with_reducible refine (C2.out _ _ hs).mono ?_
  intro e w3 h
  obtain ⟨A3, n3, c3, rfl, x3, hb3⟩ := GivesNE.cn h
  clear h
  have hbA := hbA.trans (hb3.mono hbA.size)
  have x1 := x1.below hb3
  have b1 := b1.below' hb3
  clear hb3
  go_wp2_with fail
  clear hs
  generalize hW : w3.alloc _ = w4
  obtain ⟨hb, b3, -⟩ := boxesA1 hW
  clear hW
  have hbA := hbA.trans (hb.mono hbA.size)
  have x1 := x1.below hb
  have x3 := x3.below hb
  have b1 := b1.below' hb
  clear hb
  generalize w3.heap.size = g3 at *
  with_reducible refine (C3.out _).mono ?_
  intro e w5 h
  obtain ⟨A5, n5, c5, rfl, x5, hb5⟩ := GivesNE.cn h
  clear h
  have hbA := hbA.trans (hb5.mono hbA.size)
  have x1 := x1.below hb5
  have x3 := x3.below hb5
  have b1 := b1.below' hb5
  have b3 := b3.below' hb5
  clear hb5
  have k1 := b1.cell
  have l1 := b1.lt
  have k3 := b3.cell
  have l3 := b3.lt
  go_wp2_with fail
  clear k1 l1 k3 l3
  generalize hW : w5.alloc _ = w6
  obtain ⟨hb, b5, -⟩ := boxesA1 hW
  clear hW
  have hbA := hbA.trans (hb.mono hbA.size)
  have x1 := x1.below hb
  have x3 := x3.below hb
  have x5 := x5.below hb
  have b1 := b1.below' hb
  have b3 := b3.below' hb
  clear hb
  generalize w5.heap.size = g5 at *
  with_reducible refine (ctext x1 HL7.out (HT.out.below hbA) _ asc7).mono ?_
  rintro e w7 ⟨rfl, hb⟩
  have hbA := hbA.trans (hb.mono hbA.size)
  have x1 := x1.below hb
  have x3 := x3.below hb
  have x5 := x5.below hb
  have b1 := b1.below' hb
  have b3 := b3.below' hb
  have b5 := b5.below' hb
  clear hb
  have k3 := b3.cell
  have l3 := b3.lt
  go_wp2_with fail
  clear k3 l3
  with_reducible refine (ctext x3 HL2.out (HT.out.below hbA) _ asc2).mono ?_
  rintro e w8 ⟨rfl, hb⟩
  have hbA := hbA.trans (hb.mono hbA.size)
  have x1 := x1.below hb
  have x3 := x3.below hb
  have x5 := x5.below hb
  have b1 := b1.below' hb
  have b3 := b3.below' hb
  have b5 := b5.below' hb
  clear hb
  have k5 := b5.cell
  have l5 := b5.lt
  go_wp2_with fail
  clear k5 l5
  with_reducible refine (ctext x5 HL20.out (HT.out.below hbA) _ asc20).mono ?_
  rintro e w9 ⟨rfl, hb⟩
  have hbA := hbA.trans (hb.mono hbA.size)
  have x1 := x1.below hb
  have x3 := x3.below hb
  have x5 := x5.below hb
  have b1 := b1.below' hb
  have b3 := b3.below' hb
  have b5 := b5.below' hb
  clear hb
  go_wp2_with fail
  go_ret
  exact ⟨rfl, hbA⟩
end Go.Proofs.YtjmiaodjapclbaaDoor
