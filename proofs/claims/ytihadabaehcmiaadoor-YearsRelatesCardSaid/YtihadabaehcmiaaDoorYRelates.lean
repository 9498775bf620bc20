/- The body of YearsRelates. -/
import Derived.Test.YtihadabaehcmiaaDoorYLaw
namespace Go.Proofs.YtihadabaehcmiaaDoor
open Go Go.RowKit

set_option maxHeartbeats 4000000 in
set_option maxRecDepth 100000 in
theorem relates_1 (a b c d : Int) (w : World) (hT : Lw w) (h1 : yB a b = false) (h2 : yB c d = false) :
    Calls Tryd.prog 6 #[.agg #[.int .i64 a, .int .i64 b], .agg #[.int .i64 c, .int .i64 d]] w fun e w' => e = .returned (.bool true) ∧ Below w.heap.size w w' := by
  have HT := hide hT
  have H1 := hide h1
  have H2 := hide h2
  clear hT h1 h2
  go_enter Tryd.func6, Tryd.ntmps6
  go_wp2_with fail
  generalize hW : (w.alloc _).alloc _ = W
  obtain ⟨B, b0, b1⟩ := boxesA2 hW
  clear hW
  refine (awake_yes _ (HT.out.below B)).mono ?_
  rintro e w1 ⟨rfl, hb⟩
  replace b0 := b0.below' hb
  replace b1 := b1.below' hb
  replace B := B.trans (hb.mono B.size)
  have fb00 : w1.cell? ⟨w.heap.size, 0, none⟩ = some (.int .i64 a) := b0.at_ 0
  have fb01 : w1.cell? ⟨w.heap.size, 1, none⟩ = some (.int .i64 b) := b0.at_ 1
  have zb0 : w.heap.size < w1.heap.size := b0.lt
  have fb10 : w1.cell? ⟨w.heap.size + 1, 0, none⟩ = some (.int .i64 c) := b1.at_ 0
  have fb11 : w1.cell? ⟨w.heap.size + 1, 1, none⟩ = some (.int .i64 d) := b1.at_ 1
  have zb1 : w.heap.size + 1 < w1.heap.size := b1.lt
  clear hb
  go_wp2_with fail
  refine (rel_one _ _ _ _ _ H1.out).mono ?_
  rintro e w2 ⟨rfl, hb⟩
  replace b0 := b0.below' hb
  replace b1 := b1.below' hb
  replace B := B.trans (hb.mono B.size)
  clear fb00 fb01 zb0 fb10 fb11 zb1
  have fb00 : w2.cell? ⟨w.heap.size, 0, none⟩ = some (.int .i64 a) := b0.at_ 0
  have fb01 : w2.cell? ⟨w.heap.size, 1, none⟩ = some (.int .i64 b) := b0.at_ 1
  have zb0 : w.heap.size < w2.heap.size := b0.lt
  have fb10 : w2.cell? ⟨w.heap.size + 1, 0, none⟩ = some (.int .i64 c) := b1.at_ 0
  have fb11 : w2.cell? ⟨w.heap.size + 1, 1, none⟩ = some (.int .i64 d) := b1.at_ 1
  have zb1 : w.heap.size + 1 < w2.heap.size := b1.lt
  clear hb
  go_wp2_with fail
  refine (rrel_one _ _ _ _ _ H1.out).mono ?_
  rintro e w3 ⟨rfl, hb⟩
  replace b0 := b0.below' hb
  replace b1 := b1.below' hb
  replace B := B.trans (hb.mono B.size)
  clear fb00 fb01 zb0 fb10 fb11 zb1
  have fb00 : w3.cell? ⟨w.heap.size, 0, none⟩ = some (.int .i64 a) := b0.at_ 0
  have fb01 : w3.cell? ⟨w.heap.size, 1, none⟩ = some (.int .i64 b) := b0.at_ 1
  have zb0 : w.heap.size < w3.heap.size := b0.lt
  have fb10 : w3.cell? ⟨w.heap.size + 1, 0, none⟩ = some (.int .i64 c) := b1.at_ 0
  have fb11 : w3.cell? ⟨w.heap.size + 1, 1, none⟩ = some (.int .i64 d) := b1.at_ 1
  have zb1 : w.heap.size + 1 < w3.heap.size := b1.lt
  clear hb
  go_wp2_with fail
  refine (rvalid_any a b _ false H1.out).mono ?_
  rintro e w4 ⟨rfl, hb⟩
  replace b0 := b0.below' hb
  replace b1 := b1.below' hb
  replace B := B.trans (hb.mono B.size)
  clear fb00 fb01 zb0 fb10 fb11 zb1
  have fb00 : w4.cell? ⟨w.heap.size, 0, none⟩ = some (.int .i64 a) := b0.at_ 0
  have fb01 : w4.cell? ⟨w.heap.size, 1, none⟩ = some (.int .i64 b) := b0.at_ 1
  have zb0 : w.heap.size < w4.heap.size := b0.lt
  have fb10 : w4.cell? ⟨w.heap.size + 1, 0, none⟩ = some (.int .i64 c) := b1.at_ 0
  have fb11 : w4.cell? ⟨w.heap.size + 1, 1, none⟩ = some (.int .i64 d) := b1.at_ 1
  have zb1 : w.heap.size + 1 < w4.heap.size := b1.lt
  clear hb
  go_wp2_with fail
  refine (rel_one _ _ _ _ _ H2.out).mono ?_
  rintro e w5 ⟨rfl, hb⟩
  replace b0 := b0.below' hb
  replace b1 := b1.below' hb
  replace B := B.trans (hb.mono B.size)
  clear fb00 fb01 zb0 fb10 fb11 zb1
  have fb00 : w5.cell? ⟨w.heap.size, 0, none⟩ = some (.int .i64 a) := b0.at_ 0
  have fb01 : w5.cell? ⟨w.heap.size, 1, none⟩ = some (.int .i64 b) := b0.at_ 1
  have zb0 : w.heap.size < w5.heap.size := b0.lt
  have fb10 : w5.cell? ⟨w.heap.size + 1, 0, none⟩ = some (.int .i64 c) := b1.at_ 0
  have fb11 : w5.cell? ⟨w.heap.size + 1, 1, none⟩ = some (.int .i64 d) := b1.at_ 1
  have zb1 : w.heap.size + 1 < w5.heap.size := b1.lt
  clear hb
  go_wp2_with fail
  go_ret
  exact ⟨rfl, B⟩
set_option maxHeartbeats 4000000 in
set_option maxRecDepth 100000 in
theorem relates_2 (a b c d : Int) (w : World) (hT : Lw w) (h1 : yB a b = false) (h2 : yB c d = true) :
    Calls Tryd.prog 6 #[.agg #[.int .i64 a, .int .i64 b], .agg #[.int .i64 c, .int .i64 d]] w fun e w' => e = .returned (.bool true) ∧ Below w.heap.size w w' := by
  have HT := hide hT
  have H1 := hide h1
  have H2 := hide h2
  clear hT h1 h2
  go_enter Tryd.func6, Tryd.ntmps6
  go_wp2_with fail
  generalize hW : (w.alloc _).alloc _ = W
  obtain ⟨B, b0, b1⟩ := boxesA2 hW
  clear hW
  refine (awake_yes _ (HT.out.below B)).mono ?_
  rintro e w1 ⟨rfl, hb⟩
  replace b0 := b0.below' hb
  replace b1 := b1.below' hb
  replace B := B.trans (hb.mono B.size)
  have fb00 : w1.cell? ⟨w.heap.size, 0, none⟩ = some (.int .i64 a) := b0.at_ 0
  have fb01 : w1.cell? ⟨w.heap.size, 1, none⟩ = some (.int .i64 b) := b0.at_ 1
  have zb0 : w.heap.size < w1.heap.size := b0.lt
  have fb10 : w1.cell? ⟨w.heap.size + 1, 0, none⟩ = some (.int .i64 c) := b1.at_ 0
  have fb11 : w1.cell? ⟨w.heap.size + 1, 1, none⟩ = some (.int .i64 d) := b1.at_ 1
  have zb1 : w.heap.size + 1 < w1.heap.size := b1.lt
  clear hb
  go_wp2_with fail
  refine (rel_one _ _ _ _ _ H1.out).mono ?_
  rintro e w2 ⟨rfl, hb⟩
  replace b0 := b0.below' hb
  replace b1 := b1.below' hb
  replace B := B.trans (hb.mono B.size)
  clear fb00 fb01 zb0 fb10 fb11 zb1
  have fb00 : w2.cell? ⟨w.heap.size, 0, none⟩ = some (.int .i64 a) := b0.at_ 0
  have fb01 : w2.cell? ⟨w.heap.size, 1, none⟩ = some (.int .i64 b) := b0.at_ 1
  have zb0 : w.heap.size < w2.heap.size := b0.lt
  have fb10 : w2.cell? ⟨w.heap.size + 1, 0, none⟩ = some (.int .i64 c) := b1.at_ 0
  have fb11 : w2.cell? ⟨w.heap.size + 1, 1, none⟩ = some (.int .i64 d) := b1.at_ 1
  have zb1 : w.heap.size + 1 < w2.heap.size := b1.lt
  clear hb
  go_wp2_with fail
  refine (rrel_one _ _ _ _ _ H1.out).mono ?_
  rintro e w3 ⟨rfl, hb⟩
  replace b0 := b0.below' hb
  replace b1 := b1.below' hb
  replace B := B.trans (hb.mono B.size)
  clear fb00 fb01 zb0 fb10 fb11 zb1
  have fb00 : w3.cell? ⟨w.heap.size, 0, none⟩ = some (.int .i64 a) := b0.at_ 0
  have fb01 : w3.cell? ⟨w.heap.size, 1, none⟩ = some (.int .i64 b) := b0.at_ 1
  have zb0 : w.heap.size < w3.heap.size := b0.lt
  have fb10 : w3.cell? ⟨w.heap.size + 1, 0, none⟩ = some (.int .i64 c) := b1.at_ 0
  have fb11 : w3.cell? ⟨w.heap.size + 1, 1, none⟩ = some (.int .i64 d) := b1.at_ 1
  have zb1 : w.heap.size + 1 < w3.heap.size := b1.lt
  clear hb
  go_wp2_with fail
  refine (rvalid_any a b _ false H1.out).mono ?_
  rintro e w4 ⟨rfl, hb⟩
  replace b0 := b0.below' hb
  replace b1 := b1.below' hb
  replace B := B.trans (hb.mono B.size)
  clear fb00 fb01 zb0 fb10 fb11 zb1
  have fb00 : w4.cell? ⟨w.heap.size, 0, none⟩ = some (.int .i64 a) := b0.at_ 0
  have fb01 : w4.cell? ⟨w.heap.size, 1, none⟩ = some (.int .i64 b) := b0.at_ 1
  have zb0 : w.heap.size < w4.heap.size := b0.lt
  have fb10 : w4.cell? ⟨w.heap.size + 1, 0, none⟩ = some (.int .i64 c) := b1.at_ 0
  have fb11 : w4.cell? ⟨w.heap.size + 1, 1, none⟩ = some (.int .i64 d) := b1.at_ 1
  have zb1 : w.heap.size + 1 < w4.heap.size := b1.lt
  clear hb
  go_wp2_with fail
  refine (rel_two _ _ _ _ _ H2.out H1.out).mono ?_
  rintro e w5 ⟨rfl, hb⟩
  replace b0 := b0.below' hb
  replace b1 := b1.below' hb
  replace B := B.trans (hb.mono B.size)
  clear fb00 fb01 zb0 fb10 fb11 zb1
  have fb00 : w5.cell? ⟨w.heap.size, 0, none⟩ = some (.int .i64 a) := b0.at_ 0
  have fb01 : w5.cell? ⟨w.heap.size, 1, none⟩ = some (.int .i64 b) := b0.at_ 1
  have zb0 : w.heap.size < w5.heap.size := b0.lt
  have fb10 : w5.cell? ⟨w.heap.size + 1, 0, none⟩ = some (.int .i64 c) := b1.at_ 0
  have fb11 : w5.cell? ⟨w.heap.size + 1, 1, none⟩ = some (.int .i64 d) := b1.at_ 1
  have zb1 : w.heap.size + 1 < w5.heap.size := b1.lt
  clear hb
  go_wp2_with fail
  go_ret
  exact ⟨rfl, B⟩
set_option maxHeartbeats 4000000 in
set_option maxRecDepth 100000 in
theorem relates_3 (a b c d : Int) (w : World) (hT : Lw w) (h1 : yB a b = true) (h2 : yB c d = false) :
    Calls Tryd.prog 6 #[.agg #[.int .i64 a, .int .i64 b], .agg #[.int .i64 c, .int .i64 d]] w fun e w' => e = .returned (.bool true) ∧ Below w.heap.size w w' := by
  have HT := hide hT
  have H1 := hide h1
  have H2 := hide h2
  clear hT h1 h2
  go_enter Tryd.func6, Tryd.ntmps6
  go_wp2_with fail
  generalize hW : (w.alloc _).alloc _ = W
  obtain ⟨B, b0, b1⟩ := boxesA2 hW
  clear hW
  refine (awake_yes _ (HT.out.below B)).mono ?_
  rintro e w1 ⟨rfl, hb⟩
  replace b0 := b0.below' hb
  replace b1 := b1.below' hb
  replace B := B.trans (hb.mono B.size)
  have fb00 : w1.cell? ⟨w.heap.size, 0, none⟩ = some (.int .i64 a) := b0.at_ 0
  have fb01 : w1.cell? ⟨w.heap.size, 1, none⟩ = some (.int .i64 b) := b0.at_ 1
  have zb0 : w.heap.size < w1.heap.size := b0.lt
  have fb10 : w1.cell? ⟨w.heap.size + 1, 0, none⟩ = some (.int .i64 c) := b1.at_ 0
  have fb11 : w1.cell? ⟨w.heap.size + 1, 1, none⟩ = some (.int .i64 d) := b1.at_ 1
  have zb1 : w.heap.size + 1 < w1.heap.size := b1.lt
  clear hb
  go_wp2_with fail
  refine (rel_two _ _ _ _ _ H1.out H2.out).mono ?_
  rintro e w2 ⟨rfl, hb⟩
  replace b0 := b0.below' hb
  replace b1 := b1.below' hb
  replace B := B.trans (hb.mono B.size)
  clear fb00 fb01 zb0 fb10 fb11 zb1
  have fb00 : w2.cell? ⟨w.heap.size, 0, none⟩ = some (.int .i64 a) := b0.at_ 0
  have fb01 : w2.cell? ⟨w.heap.size, 1, none⟩ = some (.int .i64 b) := b0.at_ 1
  have zb0 : w.heap.size < w2.heap.size := b0.lt
  have fb10 : w2.cell? ⟨w.heap.size + 1, 0, none⟩ = some (.int .i64 c) := b1.at_ 0
  have fb11 : w2.cell? ⟨w.heap.size + 1, 1, none⟩ = some (.int .i64 d) := b1.at_ 1
  have zb1 : w.heap.size + 1 < w2.heap.size := b1.lt
  clear hb
  go_wp2_with fail
  refine (rrel_two _ _ _ _ _ H1.out H2.out).mono ?_
  rintro e w3 ⟨rfl, hb⟩
  replace b0 := b0.below' hb
  replace b1 := b1.below' hb
  replace B := B.trans (hb.mono B.size)
  clear fb00 fb01 zb0 fb10 fb11 zb1
  have fb00 : w3.cell? ⟨w.heap.size, 0, none⟩ = some (.int .i64 a) := b0.at_ 0
  have fb01 : w3.cell? ⟨w.heap.size, 1, none⟩ = some (.int .i64 b) := b0.at_ 1
  have zb0 : w.heap.size < w3.heap.size := b0.lt
  have fb10 : w3.cell? ⟨w.heap.size + 1, 0, none⟩ = some (.int .i64 c) := b1.at_ 0
  have fb11 : w3.cell? ⟨w.heap.size + 1, 1, none⟩ = some (.int .i64 d) := b1.at_ 1
  have zb1 : w.heap.size + 1 < w3.heap.size := b1.lt
  clear hb
  go_wp2_with fail
  refine (rvalid_any a b _ true H1.out).mono ?_
  rintro e w4 ⟨rfl, hb⟩
  replace b0 := b0.below' hb
  replace b1 := b1.below' hb
  replace B := B.trans (hb.mono B.size)
  clear fb00 fb01 zb0 fb10 fb11 zb1
  have fb00 : w4.cell? ⟨w.heap.size, 0, none⟩ = some (.int .i64 a) := b0.at_ 0
  have fb01 : w4.cell? ⟨w.heap.size, 1, none⟩ = some (.int .i64 b) := b0.at_ 1
  have zb0 : w.heap.size < w4.heap.size := b0.lt
  have fb10 : w4.cell? ⟨w.heap.size + 1, 0, none⟩ = some (.int .i64 c) := b1.at_ 0
  have fb11 : w4.cell? ⟨w.heap.size + 1, 1, none⟩ = some (.int .i64 d) := b1.at_ 1
  have zb1 : w.heap.size + 1 < w4.heap.size := b1.lt
  clear hb
  go_wp2_with fail
  refine (rvalid_any c d _ false H2.out).mono ?_
  rintro e w5 ⟨rfl, hb⟩
  replace b0 := b0.below' hb
  replace b1 := b1.below' hb
  replace B := B.trans (hb.mono B.size)
  clear fb00 fb01 zb0 fb10 fb11 zb1
  have fb00 : w5.cell? ⟨w.heap.size, 0, none⟩ = some (.int .i64 a) := b0.at_ 0
  have fb01 : w5.cell? ⟨w.heap.size, 1, none⟩ = some (.int .i64 b) := b0.at_ 1
  have zb0 : w.heap.size < w5.heap.size := b0.lt
  have fb10 : w5.cell? ⟨w.heap.size + 1, 0, none⟩ = some (.int .i64 c) := b1.at_ 0
  have fb11 : w5.cell? ⟨w.heap.size + 1, 1, none⟩ = some (.int .i64 d) := b1.at_ 1
  have zb1 : w.heap.size + 1 < w5.heap.size := b1.lt
  clear hb
  go_wp2_with fail
  refine (rel_one _ _ _ _ _ H2.out).mono ?_
  rintro e w6 ⟨rfl, hb⟩
  replace b0 := b0.below' hb
  replace b1 := b1.below' hb
  replace B := B.trans (hb.mono B.size)
  clear fb00 fb01 zb0 fb10 fb11 zb1
  have fb00 : w6.cell? ⟨w.heap.size, 0, none⟩ = some (.int .i64 a) := b0.at_ 0
  have fb01 : w6.cell? ⟨w.heap.size, 1, none⟩ = some (.int .i64 b) := b0.at_ 1
  have zb0 : w.heap.size < w6.heap.size := b0.lt
  have fb10 : w6.cell? ⟨w.heap.size + 1, 0, none⟩ = some (.int .i64 c) := b1.at_ 0
  have fb11 : w6.cell? ⟨w.heap.size + 1, 1, none⟩ = some (.int .i64 d) := b1.at_ 1
  have zb1 : w.heap.size + 1 < w6.heap.size := b1.lt
  clear hb
  go_wp2_with fail
  go_ret
  exact ⟨rfl, B⟩
set_option maxHeartbeats 4000000 in
set_option maxRecDepth 100000 in
theorem relates_4 (a b c d : Int) (w : World) (hT : Lw w) (h1 : yB a b = true) (h2 : yB c d = true) (r : Int) (h3 : rel13 a b c d = r) (h4 : rel13 c d a b = 14 - r) (r1 : 1 ≤ r) (r13 : r ≤ 13) (r7 : (r == 7) = false) (e1 : (a == c) = false) :
    Calls Tryd.prog 6 #[.agg #[.int .i64 a, .int .i64 b], .agg #[.int .i64 c, .int .i64 d]] w fun e w' => e = .returned (.bool true) ∧ Below w.heap.size w w' := by
  have HT := hide hT
  have d1 : decide (1 ≤ r) = true := decide_eq_true r1
  have d2 : decide (r ≤ 13) = true := decide_eq_true r13
  have H1 := hide h1
  have H2 := hide h2
  have H3 := hide h3
  have H4 := hide h4
  clear hT h1 h2 h3 h4
  go_enter Tryd.func6, Tryd.ntmps6
  go_wp2_with fail
  generalize hW : (w.alloc _).alloc _ = W
  obtain ⟨B, b0, b1⟩ := boxesA2 hW
  clear hW
  refine (awake_yes _ (HT.out.below B)).mono ?_
  rintro e w1 ⟨rfl, hb⟩
  replace b0 := b0.below' hb
  replace b1 := b1.below' hb
  replace B := B.trans (hb.mono B.size)
  have fb00 : w1.cell? ⟨w.heap.size, 0, none⟩ = some (.int .i64 a) := b0.at_ 0
  have fb01 : w1.cell? ⟨w.heap.size, 1, none⟩ = some (.int .i64 b) := b0.at_ 1
  have zb0 : w.heap.size < w1.heap.size := b0.lt
  have fb10 : w1.cell? ⟨w.heap.size + 1, 0, none⟩ = some (.int .i64 c) := b1.at_ 0
  have fb11 : w1.cell? ⟨w.heap.size + 1, 1, none⟩ = some (.int .i64 d) := b1.at_ 1
  have zb1 : w.heap.size + 1 < w1.heap.size := b1.lt
  clear hb
  go_wp2_with fail
  refine (rel_v _ _ _ _ _ H1.out H2.out _ H3.out).mono ?_
  rintro e w2 ⟨rfl, hb⟩
  replace b0 := b0.below' hb
  replace b1 := b1.below' hb
  replace B := B.trans (hb.mono B.size)
  clear fb00 fb01 zb0 fb10 fb11 zb1
  have fb00 : w2.cell? ⟨w.heap.size, 0, none⟩ = some (.int .i64 a) := b0.at_ 0
  have fb01 : w2.cell? ⟨w.heap.size, 1, none⟩ = some (.int .i64 b) := b0.at_ 1
  have zb0 : w.heap.size < w2.heap.size := b0.lt
  have fb10 : w2.cell? ⟨w.heap.size + 1, 0, none⟩ = some (.int .i64 c) := b1.at_ 0
  have fb11 : w2.cell? ⟨w.heap.size + 1, 1, none⟩ = some (.int .i64 d) := b1.at_ 1
  have zb1 : w.heap.size + 1 < w2.heap.size := b1.lt
  clear hb
  go_wp2_with fail
  refine (rrel_v _ _ _ _ _ H1.out H2.out _ H3.out).mono ?_
  rintro e w3 ⟨rfl, hb⟩
  replace b0 := b0.below' hb
  replace b1 := b1.below' hb
  replace B := B.trans (hb.mono B.size)
  clear fb00 fb01 zb0 fb10 fb11 zb1
  have fb00 : w3.cell? ⟨w.heap.size, 0, none⟩ = some (.int .i64 a) := b0.at_ 0
  have fb01 : w3.cell? ⟨w.heap.size, 1, none⟩ = some (.int .i64 b) := b0.at_ 1
  have zb0 : w.heap.size < w3.heap.size := b0.lt
  have fb10 : w3.cell? ⟨w.heap.size + 1, 0, none⟩ = some (.int .i64 c) := b1.at_ 0
  have fb11 : w3.cell? ⟨w.heap.size + 1, 1, none⟩ = some (.int .i64 d) := b1.at_ 1
  have zb1 : w.heap.size + 1 < w3.heap.size := b1.lt
  clear hb
  go_wp2_with fail
  refine (rvalid_any a b _ true H1.out).mono ?_
  rintro e w4 ⟨rfl, hb⟩
  replace b0 := b0.below' hb
  replace b1 := b1.below' hb
  replace B := B.trans (hb.mono B.size)
  clear fb00 fb01 zb0 fb10 fb11 zb1
  have fb00 : w4.cell? ⟨w.heap.size, 0, none⟩ = some (.int .i64 a) := b0.at_ 0
  have fb01 : w4.cell? ⟨w.heap.size, 1, none⟩ = some (.int .i64 b) := b0.at_ 1
  have zb0 : w.heap.size < w4.heap.size := b0.lt
  have fb10 : w4.cell? ⟨w.heap.size + 1, 0, none⟩ = some (.int .i64 c) := b1.at_ 0
  have fb11 : w4.cell? ⟨w.heap.size + 1, 1, none⟩ = some (.int .i64 d) := b1.at_ 1
  have zb1 : w.heap.size + 1 < w4.heap.size := b1.lt
  clear hb
  go_wp2_with fail
  refine (rvalid_any c d _ true H2.out).mono ?_
  rintro e w5 ⟨rfl, hb⟩
  replace b0 := b0.below' hb
  replace b1 := b1.below' hb
  replace B := B.trans (hb.mono B.size)
  clear fb00 fb01 zb0 fb10 fb11 zb1
  have fb00 : w5.cell? ⟨w.heap.size, 0, none⟩ = some (.int .i64 a) := b0.at_ 0
  have fb01 : w5.cell? ⟨w.heap.size, 1, none⟩ = some (.int .i64 b) := b0.at_ 1
  have zb0 : w.heap.size < w5.heap.size := b0.lt
  have fb10 : w5.cell? ⟨w.heap.size + 1, 0, none⟩ = some (.int .i64 c) := b1.at_ 0
  have fb11 : w5.cell? ⟨w.heap.size + 1, 1, none⟩ = some (.int .i64 d) := b1.at_ 1
  have zb1 : w.heap.size + 1 < w5.heap.size := b1.lt
  clear hb
  go_wp2_with fail
  refine (rel_v _ _ _ _ _ H2.out H1.out _ H4.out).mono ?_
  rintro e w6 ⟨rfl, hb⟩
  replace b0 := b0.below' hb
  replace b1 := b1.below' hb
  replace B := B.trans (hb.mono B.size)
  clear fb00 fb01 zb0 fb10 fb11 zb1
  have fb00 : w6.cell? ⟨w.heap.size, 0, none⟩ = some (.int .i64 a) := b0.at_ 0
  have fb01 : w6.cell? ⟨w.heap.size, 1, none⟩ = some (.int .i64 b) := b0.at_ 1
  have zb0 : w.heap.size < w6.heap.size := b0.lt
  have fb10 : w6.cell? ⟨w.heap.size + 1, 0, none⟩ = some (.int .i64 c) := b1.at_ 0
  have fb11 : w6.cell? ⟨w.heap.size + 1, 1, none⟩ = some (.int .i64 d) := b1.at_ 1
  have zb1 : w.heap.size + 1 < w6.heap.size := b1.lt
  clear hb
  go_wp2_with fail
  go_ret
  exact ⟨rfl, B⟩
set_option maxHeartbeats 4000000 in
set_option maxRecDepth 100000 in
theorem relates_5 (a b c d : Int) (w : World) (hT : Lw w) (h1 : yB a b = true) (h2 : yB c d = true) (r : Int) (h3 : rel13 a b c d = r) (h4 : rel13 c d a b = 14 - r) (r1 : 1 ≤ r) (r13 : r ≤ 13) (r7 : (r == 7) = false) (e1 : (a == c) = true) (e2 : (b == d) = false) :
    Calls Tryd.prog 6 #[.agg #[.int .i64 a, .int .i64 b], .agg #[.int .i64 c, .int .i64 d]] w fun e w' => e = .returned (.bool true) ∧ Below w.heap.size w w' := by
  have HT := hide hT
  have d1 : decide (1 ≤ r) = true := decide_eq_true r1
  have d2 : decide (r ≤ 13) = true := decide_eq_true r13
  have H1 := hide h1
  have H2 := hide h2
  have H3 := hide h3
  have H4 := hide h4
  clear hT h1 h2 h3 h4
  go_enter Tryd.func6, Tryd.ntmps6
  go_wp2_with fail
  generalize hW : (w.alloc _).alloc _ = W
  obtain ⟨B, b0, b1⟩ := boxesA2 hW
  clear hW
  refine (awake_yes _ (HT.out.below B)).mono ?_
  rintro e w1 ⟨rfl, hb⟩
  replace b0 := b0.below' hb
  replace b1 := b1.below' hb
  replace B := B.trans (hb.mono B.size)
  have fb00 : w1.cell? ⟨w.heap.size, 0, none⟩ = some (.int .i64 a) := b0.at_ 0
  have fb01 : w1.cell? ⟨w.heap.size, 1, none⟩ = some (.int .i64 b) := b0.at_ 1
  have zb0 : w.heap.size < w1.heap.size := b0.lt
  have fb10 : w1.cell? ⟨w.heap.size + 1, 0, none⟩ = some (.int .i64 c) := b1.at_ 0
  have fb11 : w1.cell? ⟨w.heap.size + 1, 1, none⟩ = some (.int .i64 d) := b1.at_ 1
  have zb1 : w.heap.size + 1 < w1.heap.size := b1.lt
  clear hb
  go_wp2_with fail
  refine (rel_v _ _ _ _ _ H1.out H2.out _ H3.out).mono ?_
  rintro e w2 ⟨rfl, hb⟩
  replace b0 := b0.below' hb
  replace b1 := b1.below' hb
  replace B := B.trans (hb.mono B.size)
  clear fb00 fb01 zb0 fb10 fb11 zb1
  have fb00 : w2.cell? ⟨w.heap.size, 0, none⟩ = some (.int .i64 a) := b0.at_ 0
  have fb01 : w2.cell? ⟨w.heap.size, 1, none⟩ = some (.int .i64 b) := b0.at_ 1
  have zb0 : w.heap.size < w2.heap.size := b0.lt
  have fb10 : w2.cell? ⟨w.heap.size + 1, 0, none⟩ = some (.int .i64 c) := b1.at_ 0
  have fb11 : w2.cell? ⟨w.heap.size + 1, 1, none⟩ = some (.int .i64 d) := b1.at_ 1
  have zb1 : w.heap.size + 1 < w2.heap.size := b1.lt
  clear hb
  go_wp2_with fail
  refine (rrel_v _ _ _ _ _ H1.out H2.out _ H3.out).mono ?_
  rintro e w3 ⟨rfl, hb⟩
  replace b0 := b0.below' hb
  replace b1 := b1.below' hb
  replace B := B.trans (hb.mono B.size)
  clear fb00 fb01 zb0 fb10 fb11 zb1
  have fb00 : w3.cell? ⟨w.heap.size, 0, none⟩ = some (.int .i64 a) := b0.at_ 0
  have fb01 : w3.cell? ⟨w.heap.size, 1, none⟩ = some (.int .i64 b) := b0.at_ 1
  have zb0 : w.heap.size < w3.heap.size := b0.lt
  have fb10 : w3.cell? ⟨w.heap.size + 1, 0, none⟩ = some (.int .i64 c) := b1.at_ 0
  have fb11 : w3.cell? ⟨w.heap.size + 1, 1, none⟩ = some (.int .i64 d) := b1.at_ 1
  have zb1 : w.heap.size + 1 < w3.heap.size := b1.lt
  clear hb
  go_wp2_with fail
  refine (rvalid_any a b _ true H1.out).mono ?_
  rintro e w4 ⟨rfl, hb⟩
  replace b0 := b0.below' hb
  replace b1 := b1.below' hb
  replace B := B.trans (hb.mono B.size)
  clear fb00 fb01 zb0 fb10 fb11 zb1
  have fb00 : w4.cell? ⟨w.heap.size, 0, none⟩ = some (.int .i64 a) := b0.at_ 0
  have fb01 : w4.cell? ⟨w.heap.size, 1, none⟩ = some (.int .i64 b) := b0.at_ 1
  have zb0 : w.heap.size < w4.heap.size := b0.lt
  have fb10 : w4.cell? ⟨w.heap.size + 1, 0, none⟩ = some (.int .i64 c) := b1.at_ 0
  have fb11 : w4.cell? ⟨w.heap.size + 1, 1, none⟩ = some (.int .i64 d) := b1.at_ 1
  have zb1 : w.heap.size + 1 < w4.heap.size := b1.lt
  clear hb
  go_wp2_with fail
  refine (rvalid_any c d _ true H2.out).mono ?_
  rintro e w5 ⟨rfl, hb⟩
  replace b0 := b0.below' hb
  replace b1 := b1.below' hb
  replace B := B.trans (hb.mono B.size)
  clear fb00 fb01 zb0 fb10 fb11 zb1
  have fb00 : w5.cell? ⟨w.heap.size, 0, none⟩ = some (.int .i64 a) := b0.at_ 0
  have fb01 : w5.cell? ⟨w.heap.size, 1, none⟩ = some (.int .i64 b) := b0.at_ 1
  have zb0 : w.heap.size < w5.heap.size := b0.lt
  have fb10 : w5.cell? ⟨w.heap.size + 1, 0, none⟩ = some (.int .i64 c) := b1.at_ 0
  have fb11 : w5.cell? ⟨w.heap.size + 1, 1, none⟩ = some (.int .i64 d) := b1.at_ 1
  have zb1 : w.heap.size + 1 < w5.heap.size := b1.lt
  clear hb
  go_wp2_with fail
  refine (rel_v _ _ _ _ _ H2.out H1.out _ H4.out).mono ?_
  rintro e w6 ⟨rfl, hb⟩
  replace b0 := b0.below' hb
  replace b1 := b1.below' hb
  replace B := B.trans (hb.mono B.size)
  clear fb00 fb01 zb0 fb10 fb11 zb1
  have fb00 : w6.cell? ⟨w.heap.size, 0, none⟩ = some (.int .i64 a) := b0.at_ 0
  have fb01 : w6.cell? ⟨w.heap.size, 1, none⟩ = some (.int .i64 b) := b0.at_ 1
  have zb0 : w.heap.size < w6.heap.size := b0.lt
  have fb10 : w6.cell? ⟨w.heap.size + 1, 0, none⟩ = some (.int .i64 c) := b1.at_ 0
  have fb11 : w6.cell? ⟨w.heap.size + 1, 1, none⟩ = some (.int .i64 d) := b1.at_ 1
  have zb1 : w.heap.size + 1 < w6.heap.size := b1.lt
  clear hb
  go_wp2_with fail
  go_ret
  exact ⟨rfl, B⟩
set_option maxHeartbeats 4000000 in
set_option maxRecDepth 100000 in
theorem relates_6 (a b c d : Int) (w : World) (hT : Lw w) (h1 : yB a b = true) (h2 : yB c d = true) (h3 : rel13 a b c d = 7) (h4 : rel13 c d a b = 7) (e1 : (a == c) = true) (e2 : (b == d) = true) :
    Calls Tryd.prog 6 #[.agg #[.int .i64 a, .int .i64 b], .agg #[.int .i64 c, .int .i64 d]] w fun e w' => e = .returned (.bool true) ∧ Below w.heap.size w w' := by
  have HT := hide hT
  have H1 := hide h1
  have H2 := hide h2
  have H3 := hide h3
  have H4 := hide h4
  clear hT h1 h2 h3 h4
  go_enter Tryd.func6, Tryd.ntmps6
  go_wp2_with fail
  generalize hW : (w.alloc _).alloc _ = W
  obtain ⟨B, b0, b1⟩ := boxesA2 hW
  clear hW
  refine (awake_yes _ (HT.out.below B)).mono ?_
  rintro e w1 ⟨rfl, hb⟩
  replace b0 := b0.below' hb
  replace b1 := b1.below' hb
  replace B := B.trans (hb.mono B.size)
  have fb00 : w1.cell? ⟨w.heap.size, 0, none⟩ = some (.int .i64 a) := b0.at_ 0
  have fb01 : w1.cell? ⟨w.heap.size, 1, none⟩ = some (.int .i64 b) := b0.at_ 1
  have zb0 : w.heap.size < w1.heap.size := b0.lt
  have fb10 : w1.cell? ⟨w.heap.size + 1, 0, none⟩ = some (.int .i64 c) := b1.at_ 0
  have fb11 : w1.cell? ⟨w.heap.size + 1, 1, none⟩ = some (.int .i64 d) := b1.at_ 1
  have zb1 : w.heap.size + 1 < w1.heap.size := b1.lt
  clear hb
  go_wp2_with fail
  refine (rel_v _ _ _ _ _ H1.out H2.out _ H3.out).mono ?_
  rintro e w2 ⟨rfl, hb⟩
  replace b0 := b0.below' hb
  replace b1 := b1.below' hb
  replace B := B.trans (hb.mono B.size)
  clear fb00 fb01 zb0 fb10 fb11 zb1
  have fb00 : w2.cell? ⟨w.heap.size, 0, none⟩ = some (.int .i64 a) := b0.at_ 0
  have fb01 : w2.cell? ⟨w.heap.size, 1, none⟩ = some (.int .i64 b) := b0.at_ 1
  have zb0 : w.heap.size < w2.heap.size := b0.lt
  have fb10 : w2.cell? ⟨w.heap.size + 1, 0, none⟩ = some (.int .i64 c) := b1.at_ 0
  have fb11 : w2.cell? ⟨w.heap.size + 1, 1, none⟩ = some (.int .i64 d) := b1.at_ 1
  have zb1 : w.heap.size + 1 < w2.heap.size := b1.lt
  clear hb
  go_wp2_with fail
  refine (rrel_v _ _ _ _ _ H1.out H2.out _ H3.out).mono ?_
  rintro e w3 ⟨rfl, hb⟩
  replace b0 := b0.below' hb
  replace b1 := b1.below' hb
  replace B := B.trans (hb.mono B.size)
  clear fb00 fb01 zb0 fb10 fb11 zb1
  have fb00 : w3.cell? ⟨w.heap.size, 0, none⟩ = some (.int .i64 a) := b0.at_ 0
  have fb01 : w3.cell? ⟨w.heap.size, 1, none⟩ = some (.int .i64 b) := b0.at_ 1
  have zb0 : w.heap.size < w3.heap.size := b0.lt
  have fb10 : w3.cell? ⟨w.heap.size + 1, 0, none⟩ = some (.int .i64 c) := b1.at_ 0
  have fb11 : w3.cell? ⟨w.heap.size + 1, 1, none⟩ = some (.int .i64 d) := b1.at_ 1
  have zb1 : w.heap.size + 1 < w3.heap.size := b1.lt
  clear hb
  go_wp2_with fail
  refine (rvalid_any a b _ true H1.out).mono ?_
  rintro e w4 ⟨rfl, hb⟩
  replace b0 := b0.below' hb
  replace b1 := b1.below' hb
  replace B := B.trans (hb.mono B.size)
  clear fb00 fb01 zb0 fb10 fb11 zb1
  have fb00 : w4.cell? ⟨w.heap.size, 0, none⟩ = some (.int .i64 a) := b0.at_ 0
  have fb01 : w4.cell? ⟨w.heap.size, 1, none⟩ = some (.int .i64 b) := b0.at_ 1
  have zb0 : w.heap.size < w4.heap.size := b0.lt
  have fb10 : w4.cell? ⟨w.heap.size + 1, 0, none⟩ = some (.int .i64 c) := b1.at_ 0
  have fb11 : w4.cell? ⟨w.heap.size + 1, 1, none⟩ = some (.int .i64 d) := b1.at_ 1
  have zb1 : w.heap.size + 1 < w4.heap.size := b1.lt
  clear hb
  go_wp2_with fail
  refine (rvalid_any c d _ true H2.out).mono ?_
  rintro e w5 ⟨rfl, hb⟩
  replace b0 := b0.below' hb
  replace b1 := b1.below' hb
  replace B := B.trans (hb.mono B.size)
  clear fb00 fb01 zb0 fb10 fb11 zb1
  have fb00 : w5.cell? ⟨w.heap.size, 0, none⟩ = some (.int .i64 a) := b0.at_ 0
  have fb01 : w5.cell? ⟨w.heap.size, 1, none⟩ = some (.int .i64 b) := b0.at_ 1
  have zb0 : w.heap.size < w5.heap.size := b0.lt
  have fb10 : w5.cell? ⟨w.heap.size + 1, 0, none⟩ = some (.int .i64 c) := b1.at_ 0
  have fb11 : w5.cell? ⟨w.heap.size + 1, 1, none⟩ = some (.int .i64 d) := b1.at_ 1
  have zb1 : w.heap.size + 1 < w5.heap.size := b1.lt
  clear hb
  go_wp2_with fail
  refine (rel_v _ _ _ _ _ H2.out H1.out _ H4.out).mono ?_
  rintro e w6 ⟨rfl, hb⟩
  replace b0 := b0.below' hb
  replace b1 := b1.below' hb
  replace B := B.trans (hb.mono B.size)
  clear fb00 fb01 zb0 fb10 fb11 zb1
  have fb00 : w6.cell? ⟨w.heap.size, 0, none⟩ = some (.int .i64 a) := b0.at_ 0
  have fb01 : w6.cell? ⟨w.heap.size, 1, none⟩ = some (.int .i64 b) := b0.at_ 1
  have zb0 : w.heap.size < w6.heap.size := b0.lt
  have fb10 : w6.cell? ⟨w.heap.size + 1, 0, none⟩ = some (.int .i64 c) := b1.at_ 0
  have fb11 : w6.cell? ⟨w.heap.size + 1, 1, none⟩ = some (.int .i64 d) := b1.at_ 1
  have zb1 : w.heap.size + 1 < w6.heap.size := b1.lt
  clear hb
  go_wp2_with fail
  go_ret
  exact ⟨rfl, B⟩
theorem relates_all (a b c d : Int) (w : World) (hT : Lw w) :
    Calls Tryd.prog 6 #[.agg #[.int .i64 a, .int .i64 b], .agg #[.int .i64 c, .int .i64 d]] w fun e w' => e = .returned (.bool true) ∧ Below w.heap.size w w' := by
  rcases Bool.eq_false_or_eq_true (yB a b) with h1 | h1
  · rcases Bool.eq_false_or_eq_true (yB c d) with h2 | h2
    · have hr := rel_range h1 h2
      have h7 := rel_7 h1 h2
      have hx := rel_exch h1 h2
      by_cases e1 : a = c
      · by_cases e2 : b = d
        · have h3 := h7.2 ⟨e1, e2⟩
          exact relates_6 a b c d w hT h1 h2 h3 (by rw [hx, h3]; rfl) (beq_iff_eq.2 e1) (beq_iff_eq.2 e2)
        · exact relates_5 a b c d w hT h1 h2 _ rfl hx hr.1 hr.2 (beq_eq_false_iff_ne.2 fun h => e2 (h7.1 h).2) (beq_iff_eq.2 e1) (beq_eq_false_iff_ne.2 e2)
      · exact relates_4 a b c d w hT h1 h2 _ rfl hx hr.1 hr.2 (beq_eq_false_iff_ne.2 fun h => e1 (h7.1 h).1) (beq_eq_false_iff_ne.2 e1)
    · exact relates_3 a b c d w hT h1 h2
  · rcases Bool.eq_false_or_eq_true (yB c d) with h2 | h2
    · exact relates_2 a b c d w hT h1 h2
    · exact relates_1 a b c d w hT h1 h2
end Go.Proofs.YtihadabaehcmiaaDoor
