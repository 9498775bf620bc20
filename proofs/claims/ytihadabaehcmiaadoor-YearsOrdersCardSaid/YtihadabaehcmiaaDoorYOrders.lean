/- The body of YearsOrders. -/
import Derived.Test.YtihadabaehcmiaaDoorYLaw
namespace Go.Proofs.YtihadabaehcmiaaDoor
open Go Go.RowKit

set_option maxHeartbeats 4000000 in
set_option maxRecDepth 100000 in
theorem orders_g1 (a b c d p q : Int) (w : World) (hT : Lw w) (h1 : yB a b = false) :
    Calls Tryd.prog 7 #[.agg #[.int .i64 a, .int .i64 b], .agg #[.int .i64 c, .int .i64 d], .agg #[.int .i64 p, .int .i64 q]] w fun e w' => e = .returned (.bool true) ∧ Below w.heap.size w w' := by
  have HT := hide hT
  have H1 := hide h1
  clear hT h1
  go_enter Tryd.func7, Tryd.ntmps7
  go_wp2_with fail
  generalize hW : ((w.alloc _).alloc _).alloc _ = W
  obtain ⟨B, b0, b1, b2⟩ := boxesA3 hW
  clear hW
  refine (awake_yes _ (HT.out.below B)).mono ?_
  rintro e w1 ⟨rfl, hb⟩
  replace b0 := b0.below' hb
  replace b1 := b1.below' hb
  replace b2 := b2.below' hb
  replace B := B.trans (hb.mono B.size)
  have fb00 : w1.cell? ⟨w.heap.size, 0, none⟩ = some (.int .i64 a) := b0.at_ 0
  have fb01 : w1.cell? ⟨w.heap.size, 1, none⟩ = some (.int .i64 b) := b0.at_ 1
  have zb0 : w.heap.size < w1.heap.size := b0.lt
  have fb10 : w1.cell? ⟨w.heap.size + 1, 0, none⟩ = some (.int .i64 c) := b1.at_ 0
  have fb11 : w1.cell? ⟨w.heap.size + 1, 1, none⟩ = some (.int .i64 d) := b1.at_ 1
  have zb1 : w.heap.size + 1 < w1.heap.size := b1.lt
  have fb20 : w1.cell? ⟨w.heap.size + 1 + 1, 0, none⟩ = some (.int .i64 p) := b2.at_ 0
  have fb21 : w1.cell? ⟨w.heap.size + 1 + 1, 1, none⟩ = some (.int .i64 q) := b2.at_ 1
  have zb2 : w.heap.size + 1 + 1 < w1.heap.size := b2.lt
  clear hb
  go_wp2_with fail
  refine (rvalid_any a b _ false H1.out).mono ?_
  rintro e w2 ⟨rfl, hb⟩
  replace b0 := b0.below' hb
  replace b1 := b1.below' hb
  replace b2 := b2.below' hb
  replace B := B.trans (hb.mono B.size)
  clear fb00 fb01 zb0 fb10 fb11 zb1 fb20 fb21 zb2
  have fb00 : w2.cell? ⟨w.heap.size, 0, none⟩ = some (.int .i64 a) := b0.at_ 0
  have fb01 : w2.cell? ⟨w.heap.size, 1, none⟩ = some (.int .i64 b) := b0.at_ 1
  have zb0 : w.heap.size < w2.heap.size := b0.lt
  have fb10 : w2.cell? ⟨w.heap.size + 1, 0, none⟩ = some (.int .i64 c) := b1.at_ 0
  have fb11 : w2.cell? ⟨w.heap.size + 1, 1, none⟩ = some (.int .i64 d) := b1.at_ 1
  have zb1 : w.heap.size + 1 < w2.heap.size := b1.lt
  have fb20 : w2.cell? ⟨w.heap.size + 1 + 1, 0, none⟩ = some (.int .i64 p) := b2.at_ 0
  have fb21 : w2.cell? ⟨w.heap.size + 1 + 1, 1, none⟩ = some (.int .i64 q) := b2.at_ 1
  have zb2 : w.heap.size + 1 + 1 < w2.heap.size := b2.lt
  clear hb
  go_wp2_with fail
  refine (awake_yes _ (HT.out.below B)).mono ?_
  rintro e w3 ⟨rfl, hb⟩
  replace b0 := b0.below' hb
  replace b1 := b1.below' hb
  replace b2 := b2.below' hb
  replace B := B.trans (hb.mono B.size)
  clear fb00 fb01 zb0 fb10 fb11 zb1 fb20 fb21 zb2
  have fb00 : w3.cell? ⟨w.heap.size, 0, none⟩ = some (.int .i64 a) := b0.at_ 0
  have fb01 : w3.cell? ⟨w.heap.size, 1, none⟩ = some (.int .i64 b) := b0.at_ 1
  have zb0 : w.heap.size < w3.heap.size := b0.lt
  have fb10 : w3.cell? ⟨w.heap.size + 1, 0, none⟩ = some (.int .i64 c) := b1.at_ 0
  have fb11 : w3.cell? ⟨w.heap.size + 1, 1, none⟩ = some (.int .i64 d) := b1.at_ 1
  have zb1 : w.heap.size + 1 < w3.heap.size := b1.lt
  have fb20 : w3.cell? ⟨w.heap.size + 1 + 1, 0, none⟩ = some (.int .i64 p) := b2.at_ 0
  have fb21 : w3.cell? ⟨w.heap.size + 1 + 1, 1, none⟩ = some (.int .i64 q) := b2.at_ 1
  have zb2 : w.heap.size + 1 + 1 < w3.heap.size := b2.lt
  clear hb
  go_wp2_with fail
  go_ret
  exact ⟨rfl, B⟩
set_option maxHeartbeats 4000000 in
set_option maxRecDepth 100000 in
theorem orders_g2 (a b c d p q : Int) (w : World) (hT : Lw w) (h1 : yB a b = true) (h2 : yB c d = false) :
    Calls Tryd.prog 7 #[.agg #[.int .i64 a, .int .i64 b], .agg #[.int .i64 c, .int .i64 d], .agg #[.int .i64 p, .int .i64 q]] w fun e w' => e = .returned (.bool true) ∧ Below w.heap.size w w' := by
  have HT := hide hT
  have H1 := hide h1
  have H2 := hide h2
  clear hT h1 h2
  go_enter Tryd.func7, Tryd.ntmps7
  go_wp2_with fail
  generalize hW : ((w.alloc _).alloc _).alloc _ = W
  obtain ⟨B, b0, b1, b2⟩ := boxesA3 hW
  clear hW
  refine (awake_yes _ (HT.out.below B)).mono ?_
  rintro e w1 ⟨rfl, hb⟩
  replace b0 := b0.below' hb
  replace b1 := b1.below' hb
  replace b2 := b2.below' hb
  replace B := B.trans (hb.mono B.size)
  have fb00 : w1.cell? ⟨w.heap.size, 0, none⟩ = some (.int .i64 a) := b0.at_ 0
  have fb01 : w1.cell? ⟨w.heap.size, 1, none⟩ = some (.int .i64 b) := b0.at_ 1
  have zb0 : w.heap.size < w1.heap.size := b0.lt
  have fb10 : w1.cell? ⟨w.heap.size + 1, 0, none⟩ = some (.int .i64 c) := b1.at_ 0
  have fb11 : w1.cell? ⟨w.heap.size + 1, 1, none⟩ = some (.int .i64 d) := b1.at_ 1
  have zb1 : w.heap.size + 1 < w1.heap.size := b1.lt
  have fb20 : w1.cell? ⟨w.heap.size + 1 + 1, 0, none⟩ = some (.int .i64 p) := b2.at_ 0
  have fb21 : w1.cell? ⟨w.heap.size + 1 + 1, 1, none⟩ = some (.int .i64 q) := b2.at_ 1
  have zb2 : w.heap.size + 1 + 1 < w1.heap.size := b2.lt
  clear hb
  go_wp2_with fail
  refine (rvalid_any a b _ true H1.out).mono ?_
  rintro e w2 ⟨rfl, hb⟩
  replace b0 := b0.below' hb
  replace b1 := b1.below' hb
  replace b2 := b2.below' hb
  replace B := B.trans (hb.mono B.size)
  clear fb00 fb01 zb0 fb10 fb11 zb1 fb20 fb21 zb2
  have fb00 : w2.cell? ⟨w.heap.size, 0, none⟩ = some (.int .i64 a) := b0.at_ 0
  have fb01 : w2.cell? ⟨w.heap.size, 1, none⟩ = some (.int .i64 b) := b0.at_ 1
  have zb0 : w.heap.size < w2.heap.size := b0.lt
  have fb10 : w2.cell? ⟨w.heap.size + 1, 0, none⟩ = some (.int .i64 c) := b1.at_ 0
  have fb11 : w2.cell? ⟨w.heap.size + 1, 1, none⟩ = some (.int .i64 d) := b1.at_ 1
  have zb1 : w.heap.size + 1 < w2.heap.size := b1.lt
  have fb20 : w2.cell? ⟨w.heap.size + 1 + 1, 0, none⟩ = some (.int .i64 p) := b2.at_ 0
  have fb21 : w2.cell? ⟨w.heap.size + 1 + 1, 1, none⟩ = some (.int .i64 q) := b2.at_ 1
  have zb2 : w.heap.size + 1 + 1 < w2.heap.size := b2.lt
  clear hb
  go_wp2_with fail
  refine (rvalid_any c d _ false H2.out).mono ?_
  rintro e w3 ⟨rfl, hb⟩
  replace b0 := b0.below' hb
  replace b1 := b1.below' hb
  replace b2 := b2.below' hb
  replace B := B.trans (hb.mono B.size)
  clear fb00 fb01 zb0 fb10 fb11 zb1 fb20 fb21 zb2
  have fb00 : w3.cell? ⟨w.heap.size, 0, none⟩ = some (.int .i64 a) := b0.at_ 0
  have fb01 : w3.cell? ⟨w.heap.size, 1, none⟩ = some (.int .i64 b) := b0.at_ 1
  have zb0 : w.heap.size < w3.heap.size := b0.lt
  have fb10 : w3.cell? ⟨w.heap.size + 1, 0, none⟩ = some (.int .i64 c) := b1.at_ 0
  have fb11 : w3.cell? ⟨w.heap.size + 1, 1, none⟩ = some (.int .i64 d) := b1.at_ 1
  have zb1 : w.heap.size + 1 < w3.heap.size := b1.lt
  have fb20 : w3.cell? ⟨w.heap.size + 1 + 1, 0, none⟩ = some (.int .i64 p) := b2.at_ 0
  have fb21 : w3.cell? ⟨w.heap.size + 1 + 1, 1, none⟩ = some (.int .i64 q) := b2.at_ 1
  have zb2 : w.heap.size + 1 + 1 < w3.heap.size := b2.lt
  clear hb
  go_wp2_with fail
  refine (awake_yes _ (HT.out.below B)).mono ?_
  rintro e w4 ⟨rfl, hb⟩
  replace b0 := b0.below' hb
  replace b1 := b1.below' hb
  replace b2 := b2.below' hb
  replace B := B.trans (hb.mono B.size)
  clear fb00 fb01 zb0 fb10 fb11 zb1 fb20 fb21 zb2
  have fb00 : w4.cell? ⟨w.heap.size, 0, none⟩ = some (.int .i64 a) := b0.at_ 0
  have fb01 : w4.cell? ⟨w.heap.size, 1, none⟩ = some (.int .i64 b) := b0.at_ 1
  have zb0 : w.heap.size < w4.heap.size := b0.lt
  have fb10 : w4.cell? ⟨w.heap.size + 1, 0, none⟩ = some (.int .i64 c) := b1.at_ 0
  have fb11 : w4.cell? ⟨w.heap.size + 1, 1, none⟩ = some (.int .i64 d) := b1.at_ 1
  have zb1 : w.heap.size + 1 < w4.heap.size := b1.lt
  have fb20 : w4.cell? ⟨w.heap.size + 1 + 1, 0, none⟩ = some (.int .i64 p) := b2.at_ 0
  have fb21 : w4.cell? ⟨w.heap.size + 1 + 1, 1, none⟩ = some (.int .i64 q) := b2.at_ 1
  have zb2 : w.heap.size + 1 + 1 < w4.heap.size := b2.lt
  clear hb
  go_wp2_with fail
  go_ret
  exact ⟨rfl, B⟩
set_option maxHeartbeats 4000000 in
set_option maxRecDepth 100000 in
theorem orders_g3 (a b c d p q : Int) (w : World) (hT : Lw w) (h1 : yB a b = true) (h2 : yB c d = true) (h3 : yB p q = false) :
    Calls Tryd.prog 7 #[.agg #[.int .i64 a, .int .i64 b], .agg #[.int .i64 c, .int .i64 d], .agg #[.int .i64 p, .int .i64 q]] w fun e w' => e = .returned (.bool true) ∧ Below w.heap.size w w' := by
  have HT := hide hT
  have H1 := hide h1
  have H2 := hide h2
  have H3 := hide h3
  clear hT h1 h2 h3
  go_enter Tryd.func7, Tryd.ntmps7
  go_wp2_with fail
  generalize hW : ((w.alloc _).alloc _).alloc _ = W
  obtain ⟨B, b0, b1, b2⟩ := boxesA3 hW
  clear hW
  refine (awake_yes _ (HT.out.below B)).mono ?_
  rintro e w1 ⟨rfl, hb⟩
  replace b0 := b0.below' hb
  replace b1 := b1.below' hb
  replace b2 := b2.below' hb
  replace B := B.trans (hb.mono B.size)
  have fb00 : w1.cell? ⟨w.heap.size, 0, none⟩ = some (.int .i64 a) := b0.at_ 0
  have fb01 : w1.cell? ⟨w.heap.size, 1, none⟩ = some (.int .i64 b) := b0.at_ 1
  have zb0 : w.heap.size < w1.heap.size := b0.lt
  have fb10 : w1.cell? ⟨w.heap.size + 1, 0, none⟩ = some (.int .i64 c) := b1.at_ 0
  have fb11 : w1.cell? ⟨w.heap.size + 1, 1, none⟩ = some (.int .i64 d) := b1.at_ 1
  have zb1 : w.heap.size + 1 < w1.heap.size := b1.lt
  have fb20 : w1.cell? ⟨w.heap.size + 1 + 1, 0, none⟩ = some (.int .i64 p) := b2.at_ 0
  have fb21 : w1.cell? ⟨w.heap.size + 1 + 1, 1, none⟩ = some (.int .i64 q) := b2.at_ 1
  have zb2 : w.heap.size + 1 + 1 < w1.heap.size := b2.lt
  clear hb
  go_wp2_with fail
  refine (rvalid_any a b _ true H1.out).mono ?_
  rintro e w2 ⟨rfl, hb⟩
  replace b0 := b0.below' hb
  replace b1 := b1.below' hb
  replace b2 := b2.below' hb
  replace B := B.trans (hb.mono B.size)
  clear fb00 fb01 zb0 fb10 fb11 zb1 fb20 fb21 zb2
  have fb00 : w2.cell? ⟨w.heap.size, 0, none⟩ = some (.int .i64 a) := b0.at_ 0
  have fb01 : w2.cell? ⟨w.heap.size, 1, none⟩ = some (.int .i64 b) := b0.at_ 1
  have zb0 : w.heap.size < w2.heap.size := b0.lt
  have fb10 : w2.cell? ⟨w.heap.size + 1, 0, none⟩ = some (.int .i64 c) := b1.at_ 0
  have fb11 : w2.cell? ⟨w.heap.size + 1, 1, none⟩ = some (.int .i64 d) := b1.at_ 1
  have zb1 : w.heap.size + 1 < w2.heap.size := b1.lt
  have fb20 : w2.cell? ⟨w.heap.size + 1 + 1, 0, none⟩ = some (.int .i64 p) := b2.at_ 0
  have fb21 : w2.cell? ⟨w.heap.size + 1 + 1, 1, none⟩ = some (.int .i64 q) := b2.at_ 1
  have zb2 : w.heap.size + 1 + 1 < w2.heap.size := b2.lt
  clear hb
  go_wp2_with fail
  refine (rvalid_any c d _ true H2.out).mono ?_
  rintro e w3 ⟨rfl, hb⟩
  replace b0 := b0.below' hb
  replace b1 := b1.below' hb
  replace b2 := b2.below' hb
  replace B := B.trans (hb.mono B.size)
  clear fb00 fb01 zb0 fb10 fb11 zb1 fb20 fb21 zb2
  have fb00 : w3.cell? ⟨w.heap.size, 0, none⟩ = some (.int .i64 a) := b0.at_ 0
  have fb01 : w3.cell? ⟨w.heap.size, 1, none⟩ = some (.int .i64 b) := b0.at_ 1
  have zb0 : w.heap.size < w3.heap.size := b0.lt
  have fb10 : w3.cell? ⟨w.heap.size + 1, 0, none⟩ = some (.int .i64 c) := b1.at_ 0
  have fb11 : w3.cell? ⟨w.heap.size + 1, 1, none⟩ = some (.int .i64 d) := b1.at_ 1
  have zb1 : w.heap.size + 1 < w3.heap.size := b1.lt
  have fb20 : w3.cell? ⟨w.heap.size + 1 + 1, 0, none⟩ = some (.int .i64 p) := b2.at_ 0
  have fb21 : w3.cell? ⟨w.heap.size + 1 + 1, 1, none⟩ = some (.int .i64 q) := b2.at_ 1
  have zb2 : w.heap.size + 1 + 1 < w3.heap.size := b2.lt
  clear hb
  go_wp2_with fail
  refine (rvalid_any p q _ false H3.out).mono ?_
  rintro e w4 ⟨rfl, hb⟩
  replace b0 := b0.below' hb
  replace b1 := b1.below' hb
  replace b2 := b2.below' hb
  replace B := B.trans (hb.mono B.size)
  clear fb00 fb01 zb0 fb10 fb11 zb1 fb20 fb21 zb2
  have fb00 : w4.cell? ⟨w.heap.size, 0, none⟩ = some (.int .i64 a) := b0.at_ 0
  have fb01 : w4.cell? ⟨w.heap.size, 1, none⟩ = some (.int .i64 b) := b0.at_ 1
  have zb0 : w.heap.size < w4.heap.size := b0.lt
  have fb10 : w4.cell? ⟨w.heap.size + 1, 0, none⟩ = some (.int .i64 c) := b1.at_ 0
  have fb11 : w4.cell? ⟨w.heap.size + 1, 1, none⟩ = some (.int .i64 d) := b1.at_ 1
  have zb1 : w.heap.size + 1 < w4.heap.size := b1.lt
  have fb20 : w4.cell? ⟨w.heap.size + 1 + 1, 0, none⟩ = some (.int .i64 p) := b2.at_ 0
  have fb21 : w4.cell? ⟨w.heap.size + 1 + 1, 1, none⟩ = some (.int .i64 q) := b2.at_ 1
  have zb2 : w.heap.size + 1 + 1 < w4.heap.size := b2.lt
  clear hb
  go_wp2_with fail
  refine (awake_yes _ (HT.out.below B)).mono ?_
  rintro e w5 ⟨rfl, hb⟩
  replace b0 := b0.below' hb
  replace b1 := b1.below' hb
  replace b2 := b2.below' hb
  replace B := B.trans (hb.mono B.size)
  clear fb00 fb01 zb0 fb10 fb11 zb1 fb20 fb21 zb2
  have fb00 : w5.cell? ⟨w.heap.size, 0, none⟩ = some (.int .i64 a) := b0.at_ 0
  have fb01 : w5.cell? ⟨w.heap.size, 1, none⟩ = some (.int .i64 b) := b0.at_ 1
  have zb0 : w.heap.size < w5.heap.size := b0.lt
  have fb10 : w5.cell? ⟨w.heap.size + 1, 0, none⟩ = some (.int .i64 c) := b1.at_ 0
  have fb11 : w5.cell? ⟨w.heap.size + 1, 1, none⟩ = some (.int .i64 d) := b1.at_ 1
  have zb1 : w.heap.size + 1 < w5.heap.size := b1.lt
  have fb20 : w5.cell? ⟨w.heap.size + 1 + 1, 0, none⟩ = some (.int .i64 p) := b2.at_ 0
  have fb21 : w5.cell? ⟨w.heap.size + 1 + 1, 1, none⟩ = some (.int .i64 q) := b2.at_ 1
  have zb2 : w.heap.size + 1 + 1 < w5.heap.size := b2.lt
  clear hb
  go_wp2_with fail
  go_ret
  exact ⟨rfl, B⟩
set_option maxHeartbeats 4000000 in
set_option maxRecDepth 100000 in
theorem orders_1 (a b c d p q : Int) (w : World) (hT : Lw w) (h1 : yB a b = true) (h2 : yB c d = true) (h3 : yB p q = true) (r : Int) (h4 : rel13 a b c d = r) (h5 : max a c ≤ min b d) (r3 : decide (3 ≤ r) = true) (r11 : decide (r ≤ 11) = true) (r1 : (r != 1) = true) :
    Calls Tryd.prog 7 #[.agg #[.int .i64 a, .int .i64 b], .agg #[.int .i64 c, .int .i64 d], .agg #[.int .i64 p, .int .i64 q]] w fun e w' => e = .returned (.bool true) ∧ Below w.heap.size w w' := by
  have HT := hide hT
  have MM := hide (fun W => meetY_v a b c d W h1 h2 _ _ rfl rfl h5)
  generalize max a c = x at *
  generalize min b d = y at *
  have H1 := hide h1
  have H2 := hide h2
  have H3 := hide h3
  have H4 := hide h4
  have H5 := hide h5
  clear hT h1 h2 h3 h4 h5
  go_enter Tryd.func7, Tryd.ntmps7
  go_wp2_with fail
  generalize hW : ((w.alloc _).alloc _).alloc _ = W
  obtain ⟨B, b0, b1, b2⟩ := boxesA3 hW
  clear hW
  refine (awake_yes _ (HT.out.below B)).mono ?_
  rintro e w1 ⟨rfl, hb⟩
  replace b0 := b0.below' hb
  replace b1 := b1.below' hb
  replace b2 := b2.below' hb
  replace B := B.trans (hb.mono B.size)
  have fb00 : w1.cell? ⟨w.heap.size, 0, none⟩ = some (.int .i64 a) := b0.at_ 0
  have fb01 : w1.cell? ⟨w.heap.size, 1, none⟩ = some (.int .i64 b) := b0.at_ 1
  have zb0 : w.heap.size < w1.heap.size := b0.lt
  have fb10 : w1.cell? ⟨w.heap.size + 1, 0, none⟩ = some (.int .i64 c) := b1.at_ 0
  have fb11 : w1.cell? ⟨w.heap.size + 1, 1, none⟩ = some (.int .i64 d) := b1.at_ 1
  have zb1 : w.heap.size + 1 < w1.heap.size := b1.lt
  have fb20 : w1.cell? ⟨w.heap.size + 1 + 1, 0, none⟩ = some (.int .i64 p) := b2.at_ 0
  have fb21 : w1.cell? ⟨w.heap.size + 1 + 1, 1, none⟩ = some (.int .i64 q) := b2.at_ 1
  have zb2 : w.heap.size + 1 + 1 < w1.heap.size := b2.lt
  clear hb
  go_wp2_with fail
  refine (rvalid_any a b _ true H1.out).mono ?_
  rintro e w2 ⟨rfl, hb⟩
  replace b0 := b0.below' hb
  replace b1 := b1.below' hb
  replace b2 := b2.below' hb
  replace B := B.trans (hb.mono B.size)
  clear fb00 fb01 zb0 fb10 fb11 zb1 fb20 fb21 zb2
  have fb00 : w2.cell? ⟨w.heap.size, 0, none⟩ = some (.int .i64 a) := b0.at_ 0
  have fb01 : w2.cell? ⟨w.heap.size, 1, none⟩ = some (.int .i64 b) := b0.at_ 1
  have zb0 : w.heap.size < w2.heap.size := b0.lt
  have fb10 : w2.cell? ⟨w.heap.size + 1, 0, none⟩ = some (.int .i64 c) := b1.at_ 0
  have fb11 : w2.cell? ⟨w.heap.size + 1, 1, none⟩ = some (.int .i64 d) := b1.at_ 1
  have zb1 : w.heap.size + 1 < w2.heap.size := b1.lt
  have fb20 : w2.cell? ⟨w.heap.size + 1 + 1, 0, none⟩ = some (.int .i64 p) := b2.at_ 0
  have fb21 : w2.cell? ⟨w.heap.size + 1 + 1, 1, none⟩ = some (.int .i64 q) := b2.at_ 1
  have zb2 : w.heap.size + 1 + 1 < w2.heap.size := b2.lt
  clear hb
  go_wp2_with fail
  refine (rvalid_any c d _ true H2.out).mono ?_
  rintro e w3 ⟨rfl, hb⟩
  replace b0 := b0.below' hb
  replace b1 := b1.below' hb
  replace b2 := b2.below' hb
  replace B := B.trans (hb.mono B.size)
  clear fb00 fb01 zb0 fb10 fb11 zb1 fb20 fb21 zb2
  have fb00 : w3.cell? ⟨w.heap.size, 0, none⟩ = some (.int .i64 a) := b0.at_ 0
  have fb01 : w3.cell? ⟨w.heap.size, 1, none⟩ = some (.int .i64 b) := b0.at_ 1
  have zb0 : w.heap.size < w3.heap.size := b0.lt
  have fb10 : w3.cell? ⟨w.heap.size + 1, 0, none⟩ = some (.int .i64 c) := b1.at_ 0
  have fb11 : w3.cell? ⟨w.heap.size + 1, 1, none⟩ = some (.int .i64 d) := b1.at_ 1
  have zb1 : w.heap.size + 1 < w3.heap.size := b1.lt
  have fb20 : w3.cell? ⟨w.heap.size + 1 + 1, 0, none⟩ = some (.int .i64 p) := b2.at_ 0
  have fb21 : w3.cell? ⟨w.heap.size + 1 + 1, 1, none⟩ = some (.int .i64 q) := b2.at_ 1
  have zb2 : w.heap.size + 1 + 1 < w3.heap.size := b2.lt
  clear hb
  go_wp2_with fail
  refine (rvalid_any p q _ true H3.out).mono ?_
  rintro e w4 ⟨rfl, hb⟩
  replace b0 := b0.below' hb
  replace b1 := b1.below' hb
  replace b2 := b2.below' hb
  replace B := B.trans (hb.mono B.size)
  clear fb00 fb01 zb0 fb10 fb11 zb1 fb20 fb21 zb2
  have fb00 : w4.cell? ⟨w.heap.size, 0, none⟩ = some (.int .i64 a) := b0.at_ 0
  have fb01 : w4.cell? ⟨w.heap.size, 1, none⟩ = some (.int .i64 b) := b0.at_ 1
  have zb0 : w.heap.size < w4.heap.size := b0.lt
  have fb10 : w4.cell? ⟨w.heap.size + 1, 0, none⟩ = some (.int .i64 c) := b1.at_ 0
  have fb11 : w4.cell? ⟨w.heap.size + 1, 1, none⟩ = some (.int .i64 d) := b1.at_ 1
  have zb1 : w.heap.size + 1 < w4.heap.size := b1.lt
  have fb20 : w4.cell? ⟨w.heap.size + 1 + 1, 0, none⟩ = some (.int .i64 p) := b2.at_ 0
  have fb21 : w4.cell? ⟨w.heap.size + 1 + 1, 1, none⟩ = some (.int .i64 q) := b2.at_ 1
  have zb2 : w.heap.size + 1 + 1 < w4.heap.size := b2.lt
  clear hb
  go_wp2_with fail
  refine (rel_v _ _ _ _ _ H1.out H2.out _ H4.out).mono ?_
  rintro e w5 ⟨rfl, hb⟩
  replace b0 := b0.below' hb
  replace b1 := b1.below' hb
  replace b2 := b2.below' hb
  replace B := B.trans (hb.mono B.size)
  clear fb00 fb01 zb0 fb10 fb11 zb1 fb20 fb21 zb2
  have fb00 : w5.cell? ⟨w.heap.size, 0, none⟩ = some (.int .i64 a) := b0.at_ 0
  have fb01 : w5.cell? ⟨w.heap.size, 1, none⟩ = some (.int .i64 b) := b0.at_ 1
  have zb0 : w.heap.size < w5.heap.size := b0.lt
  have fb10 : w5.cell? ⟨w.heap.size + 1, 0, none⟩ = some (.int .i64 c) := b1.at_ 0
  have fb11 : w5.cell? ⟨w.heap.size + 1, 1, none⟩ = some (.int .i64 d) := b1.at_ 1
  have zb1 : w.heap.size + 1 < w5.heap.size := b1.lt
  have fb20 : w5.cell? ⟨w.heap.size + 1 + 1, 0, none⟩ = some (.int .i64 p) := b2.at_ 0
  have fb21 : w5.cell? ⟨w.heap.size + 1 + 1, 1, none⟩ = some (.int .i64 q) := b2.at_ 1
  have zb2 : w.heap.size + 1 + 1 < w5.heap.size := b2.lt
  clear hb
  go_wp2_with fail
  refine (MM.out _).mono ?_
  rintro e w6 ⟨rfl, hb⟩
  replace b0 := b0.below' hb
  replace b1 := b1.below' hb
  replace b2 := b2.below' hb
  replace B := B.trans (hb.mono B.size)
  clear fb00 fb01 zb0 fb10 fb11 zb1 fb20 fb21 zb2
  have fb00 : w6.cell? ⟨w.heap.size, 0, none⟩ = some (.int .i64 a) := b0.at_ 0
  have fb01 : w6.cell? ⟨w.heap.size, 1, none⟩ = some (.int .i64 b) := b0.at_ 1
  have zb0 : w.heap.size < w6.heap.size := b0.lt
  have fb10 : w6.cell? ⟨w.heap.size + 1, 0, none⟩ = some (.int .i64 c) := b1.at_ 0
  have fb11 : w6.cell? ⟨w.heap.size + 1, 1, none⟩ = some (.int .i64 d) := b1.at_ 1
  have zb1 : w.heap.size + 1 < w6.heap.size := b1.lt
  have fb20 : w6.cell? ⟨w.heap.size + 1 + 1, 0, none⟩ = some (.int .i64 p) := b2.at_ 0
  have fb21 : w6.cell? ⟨w.heap.size + 1 + 1, 1, none⟩ = some (.int .i64 q) := b2.at_ 1
  have zb2 : w.heap.size + 1 + 1 < w6.heap.size := b2.lt
  clear hb
  go_wp2_with fail
  generalize hW : w6.alloc _ = V6
  obtain ⟨hb, bm⟩ := boxA hW
  replace b0 := b0.below' hb
  replace b1 := b1.below' hb
  replace b2 := b2.below' hb
  replace B := B.trans (hb.mono B.size)
  clear fb00 fb01 zb0 fb10 fb11 zb1 fb20 fb21 zb2
  generalize w6.heap.size = gbm at *
  have fb00 : V6.cell? ⟨w.heap.size, 0, none⟩ = some (.int .i64 a) := b0.at_ 0
  have fb01 : V6.cell? ⟨w.heap.size, 1, none⟩ = some (.int .i64 b) := b0.at_ 1
  have zb0 : w.heap.size < V6.heap.size := b0.lt
  have fb10 : V6.cell? ⟨w.heap.size + 1, 0, none⟩ = some (.int .i64 c) := b1.at_ 0
  have fb11 : V6.cell? ⟨w.heap.size + 1, 1, none⟩ = some (.int .i64 d) := b1.at_ 1
  have zb1 : w.heap.size + 1 < V6.heap.size := b1.lt
  have fb20 : V6.cell? ⟨w.heap.size + 1 + 1, 0, none⟩ = some (.int .i64 p) := b2.at_ 0
  have fb21 : V6.cell? ⟨w.heap.size + 1 + 1, 1, none⟩ = some (.int .i64 q) := b2.at_ 1
  have zb2 : w.heap.size + 1 + 1 < V6.heap.size := b2.lt
  have fbm0 : V6.cell? ⟨gbm, 0, none⟩ = some (.int .i64 x) := bm.at_ 0
  have fbm1 : V6.cell? ⟨gbm, 1, none⟩ = some (.int .i64 y) := bm.at_ 1
  have zbm : gbm < V6.heap.size := bm.lt
  clear hW hb
  go_ret
  exact ⟨rfl, B⟩
set_option maxHeartbeats 4000000 in
set_option maxRecDepth 100000 in
theorem orders_2 (a b c d p q : Int) (w : World) (hT : Lw w) (h1 : yB a b = true) (h2 : yB c d = true) (h3 : yB p q = true) (r : Int) (h4 : rel13 a b c d = r) (h5 : min b d < max a c) (r3 : decide (3 ≤ r) = false) (r1 : (r != 1) = true) :
    Calls Tryd.prog 7 #[.agg #[.int .i64 a, .int .i64 b], .agg #[.int .i64 c, .int .i64 d], .agg #[.int .i64 p, .int .i64 q]] w fun e w' => e = .returned (.bool true) ∧ Below w.heap.size w w' := by
  have HT := hide hT
  have MM := hide (fun W => meet_none a b c d W h1 h2 h5)
  have H1 := hide h1
  have H2 := hide h2
  have H3 := hide h3
  have H4 := hide h4
  have H5 := hide h5
  clear hT h1 h2 h3 h4 h5
  go_enter Tryd.func7, Tryd.ntmps7
  go_wp2_with fail
  generalize hW : ((w.alloc _).alloc _).alloc _ = W
  obtain ⟨B, b0, b1, b2⟩ := boxesA3 hW
  clear hW
  refine (awake_yes _ (HT.out.below B)).mono ?_
  rintro e w1 ⟨rfl, hb⟩
  replace b0 := b0.below' hb
  replace b1 := b1.below' hb
  replace b2 := b2.below' hb
  replace B := B.trans (hb.mono B.size)
  have fb00 : w1.cell? ⟨w.heap.size, 0, none⟩ = some (.int .i64 a) := b0.at_ 0
  have fb01 : w1.cell? ⟨w.heap.size, 1, none⟩ = some (.int .i64 b) := b0.at_ 1
  have zb0 : w.heap.size < w1.heap.size := b0.lt
  have fb10 : w1.cell? ⟨w.heap.size + 1, 0, none⟩ = some (.int .i64 c) := b1.at_ 0
  have fb11 : w1.cell? ⟨w.heap.size + 1, 1, none⟩ = some (.int .i64 d) := b1.at_ 1
  have zb1 : w.heap.size + 1 < w1.heap.size := b1.lt
  have fb20 : w1.cell? ⟨w.heap.size + 1 + 1, 0, none⟩ = some (.int .i64 p) := b2.at_ 0
  have fb21 : w1.cell? ⟨w.heap.size + 1 + 1, 1, none⟩ = some (.int .i64 q) := b2.at_ 1
  have zb2 : w.heap.size + 1 + 1 < w1.heap.size := b2.lt
  clear hb
  go_wp2_with fail
  refine (rvalid_any a b _ true H1.out).mono ?_
  rintro e w2 ⟨rfl, hb⟩
  replace b0 := b0.below' hb
  replace b1 := b1.below' hb
  replace b2 := b2.below' hb
  replace B := B.trans (hb.mono B.size)
  clear fb00 fb01 zb0 fb10 fb11 zb1 fb20 fb21 zb2
  have fb00 : w2.cell? ⟨w.heap.size, 0, none⟩ = some (.int .i64 a) := b0.at_ 0
  have fb01 : w2.cell? ⟨w.heap.size, 1, none⟩ = some (.int .i64 b) := b0.at_ 1
  have zb0 : w.heap.size < w2.heap.size := b0.lt
  have fb10 : w2.cell? ⟨w.heap.size + 1, 0, none⟩ = some (.int .i64 c) := b1.at_ 0
  have fb11 : w2.cell? ⟨w.heap.size + 1, 1, none⟩ = some (.int .i64 d) := b1.at_ 1
  have zb1 : w.heap.size + 1 < w2.heap.size := b1.lt
  have fb20 : w2.cell? ⟨w.heap.size + 1 + 1, 0, none⟩ = some (.int .i64 p) := b2.at_ 0
  have fb21 : w2.cell? ⟨w.heap.size + 1 + 1, 1, none⟩ = some (.int .i64 q) := b2.at_ 1
  have zb2 : w.heap.size + 1 + 1 < w2.heap.size := b2.lt
  clear hb
  go_wp2_with fail
  refine (rvalid_any c d _ true H2.out).mono ?_
  rintro e w3 ⟨rfl, hb⟩
  replace b0 := b0.below' hb
  replace b1 := b1.below' hb
  replace b2 := b2.below' hb
  replace B := B.trans (hb.mono B.size)
  clear fb00 fb01 zb0 fb10 fb11 zb1 fb20 fb21 zb2
  have fb00 : w3.cell? ⟨w.heap.size, 0, none⟩ = some (.int .i64 a) := b0.at_ 0
  have fb01 : w3.cell? ⟨w.heap.size, 1, none⟩ = some (.int .i64 b) := b0.at_ 1
  have zb0 : w.heap.size < w3.heap.size := b0.lt
  have fb10 : w3.cell? ⟨w.heap.size + 1, 0, none⟩ = some (.int .i64 c) := b1.at_ 0
  have fb11 : w3.cell? ⟨w.heap.size + 1, 1, none⟩ = some (.int .i64 d) := b1.at_ 1
  have zb1 : w.heap.size + 1 < w3.heap.size := b1.lt
  have fb20 : w3.cell? ⟨w.heap.size + 1 + 1, 0, none⟩ = some (.int .i64 p) := b2.at_ 0
  have fb21 : w3.cell? ⟨w.heap.size + 1 + 1, 1, none⟩ = some (.int .i64 q) := b2.at_ 1
  have zb2 : w.heap.size + 1 + 1 < w3.heap.size := b2.lt
  clear hb
  go_wp2_with fail
  refine (rvalid_any p q _ true H3.out).mono ?_
  rintro e w4 ⟨rfl, hb⟩
  replace b0 := b0.below' hb
  replace b1 := b1.below' hb
  replace b2 := b2.below' hb
  replace B := B.trans (hb.mono B.size)
  clear fb00 fb01 zb0 fb10 fb11 zb1 fb20 fb21 zb2
  have fb00 : w4.cell? ⟨w.heap.size, 0, none⟩ = some (.int .i64 a) := b0.at_ 0
  have fb01 : w4.cell? ⟨w.heap.size, 1, none⟩ = some (.int .i64 b) := b0.at_ 1
  have zb0 : w.heap.size < w4.heap.size := b0.lt
  have fb10 : w4.cell? ⟨w.heap.size + 1, 0, none⟩ = some (.int .i64 c) := b1.at_ 0
  have fb11 : w4.cell? ⟨w.heap.size + 1, 1, none⟩ = some (.int .i64 d) := b1.at_ 1
  have zb1 : w.heap.size + 1 < w4.heap.size := b1.lt
  have fb20 : w4.cell? ⟨w.heap.size + 1 + 1, 0, none⟩ = some (.int .i64 p) := b2.at_ 0
  have fb21 : w4.cell? ⟨w.heap.size + 1 + 1, 1, none⟩ = some (.int .i64 q) := b2.at_ 1
  have zb2 : w.heap.size + 1 + 1 < w4.heap.size := b2.lt
  clear hb
  go_wp2_with fail
  refine (rel_v _ _ _ _ _ H1.out H2.out _ H4.out).mono ?_
  rintro e w5 ⟨rfl, hb⟩
  replace b0 := b0.below' hb
  replace b1 := b1.below' hb
  replace b2 := b2.below' hb
  replace B := B.trans (hb.mono B.size)
  clear fb00 fb01 zb0 fb10 fb11 zb1 fb20 fb21 zb2
  have fb00 : w5.cell? ⟨w.heap.size, 0, none⟩ = some (.int .i64 a) := b0.at_ 0
  have fb01 : w5.cell? ⟨w.heap.size, 1, none⟩ = some (.int .i64 b) := b0.at_ 1
  have zb0 : w.heap.size < w5.heap.size := b0.lt
  have fb10 : w5.cell? ⟨w.heap.size + 1, 0, none⟩ = some (.int .i64 c) := b1.at_ 0
  have fb11 : w5.cell? ⟨w.heap.size + 1, 1, none⟩ = some (.int .i64 d) := b1.at_ 1
  have zb1 : w.heap.size + 1 < w5.heap.size := b1.lt
  have fb20 : w5.cell? ⟨w.heap.size + 1 + 1, 0, none⟩ = some (.int .i64 p) := b2.at_ 0
  have fb21 : w5.cell? ⟨w.heap.size + 1 + 1, 1, none⟩ = some (.int .i64 q) := b2.at_ 1
  have zb2 : w.heap.size + 1 + 1 < w5.heap.size := b2.lt
  clear hb
  go_wp2_with fail
  refine (MM.out _).mono ?_
  rintro e w6 ⟨rfl, hb⟩
  replace b0 := b0.below' hb
  replace b1 := b1.below' hb
  replace b2 := b2.below' hb
  replace B := B.trans (hb.mono B.size)
  clear fb00 fb01 zb0 fb10 fb11 zb1 fb20 fb21 zb2
  have fb00 : w6.cell? ⟨w.heap.size, 0, none⟩ = some (.int .i64 a) := b0.at_ 0
  have fb01 : w6.cell? ⟨w.heap.size, 1, none⟩ = some (.int .i64 b) := b0.at_ 1
  have zb0 : w.heap.size < w6.heap.size := b0.lt
  have fb10 : w6.cell? ⟨w.heap.size + 1, 0, none⟩ = some (.int .i64 c) := b1.at_ 0
  have fb11 : w6.cell? ⟨w.heap.size + 1, 1, none⟩ = some (.int .i64 d) := b1.at_ 1
  have zb1 : w.heap.size + 1 < w6.heap.size := b1.lt
  have fb20 : w6.cell? ⟨w.heap.size + 1 + 1, 0, none⟩ = some (.int .i64 p) := b2.at_ 0
  have fb21 : w6.cell? ⟨w.heap.size + 1 + 1, 1, none⟩ = some (.int .i64 q) := b2.at_ 1
  have zb2 : w.heap.size + 1 + 1 < w6.heap.size := b2.lt
  clear hb
  go_wp2_with fail
  generalize hW : w6.alloc _ = V6
  obtain ⟨hb, bm⟩ := boxA hW
  replace b0 := b0.below' hb
  replace b1 := b1.below' hb
  replace b2 := b2.below' hb
  replace B := B.trans (hb.mono B.size)
  clear fb00 fb01 zb0 fb10 fb11 zb1 fb20 fb21 zb2
  generalize w6.heap.size = gbm at *
  have fb00 : V6.cell? ⟨w.heap.size, 0, none⟩ = some (.int .i64 a) := b0.at_ 0
  have fb01 : V6.cell? ⟨w.heap.size, 1, none⟩ = some (.int .i64 b) := b0.at_ 1
  have zb0 : w.heap.size < V6.heap.size := b0.lt
  have fb10 : V6.cell? ⟨w.heap.size + 1, 0, none⟩ = some (.int .i64 c) := b1.at_ 0
  have fb11 : V6.cell? ⟨w.heap.size + 1, 1, none⟩ = some (.int .i64 d) := b1.at_ 1
  have zb1 : w.heap.size + 1 < V6.heap.size := b1.lt
  have fb20 : V6.cell? ⟨w.heap.size + 1 + 1, 0, none⟩ = some (.int .i64 p) := b2.at_ 0
  have fb21 : V6.cell? ⟨w.heap.size + 1 + 1, 1, none⟩ = some (.int .i64 q) := b2.at_ 1
  have zb2 : w.heap.size + 1 + 1 < V6.heap.size := b2.lt
  have fbm0 : V6.cell? ⟨gbm, 0, none⟩ = some (.int .i64 0) := bm.at_ 0
  have fbm1 : V6.cell? ⟨gbm, 1, none⟩ = some (.int .i64 0) := bm.at_ 1
  have zbm : gbm < V6.heap.size := bm.lt
  clear hW hb
  go_ret
  exact ⟨rfl, B⟩
set_option maxHeartbeats 4000000 in
set_option maxRecDepth 100000 in
theorem orders_3 (a b c d p q : Int) (w : World) (hT : Lw w) (h1 : yB a b = true) (h2 : yB c d = true) (h3 : yB p q = true) (r : Int) (h4 : rel13 a b c d = r) (h5 : min b d < max a c) (r3 : decide (3 ≤ r) = true) (r11 : decide (r ≤ 11) = false) (r1 : (r != 1) = true) :
    Calls Tryd.prog 7 #[.agg #[.int .i64 a, .int .i64 b], .agg #[.int .i64 c, .int .i64 d], .agg #[.int .i64 p, .int .i64 q]] w fun e w' => e = .returned (.bool true) ∧ Below w.heap.size w w' := by
  have HT := hide hT
  have MM := hide (fun W => meet_none a b c d W h1 h2 h5)
  have H1 := hide h1
  have H2 := hide h2
  have H3 := hide h3
  have H4 := hide h4
  have H5 := hide h5
  clear hT h1 h2 h3 h4 h5
  go_enter Tryd.func7, Tryd.ntmps7
  go_wp2_with fail
  generalize hW : ((w.alloc _).alloc _).alloc _ = W
  obtain ⟨B, b0, b1, b2⟩ := boxesA3 hW
  clear hW
  refine (awake_yes _ (HT.out.below B)).mono ?_
  rintro e w1 ⟨rfl, hb⟩
  replace b0 := b0.below' hb
  replace b1 := b1.below' hb
  replace b2 := b2.below' hb
  replace B := B.trans (hb.mono B.size)
  have fb00 : w1.cell? ⟨w.heap.size, 0, none⟩ = some (.int .i64 a) := b0.at_ 0
  have fb01 : w1.cell? ⟨w.heap.size, 1, none⟩ = some (.int .i64 b) := b0.at_ 1
  have zb0 : w.heap.size < w1.heap.size := b0.lt
  have fb10 : w1.cell? ⟨w.heap.size + 1, 0, none⟩ = some (.int .i64 c) := b1.at_ 0
  have fb11 : w1.cell? ⟨w.heap.size + 1, 1, none⟩ = some (.int .i64 d) := b1.at_ 1
  have zb1 : w.heap.size + 1 < w1.heap.size := b1.lt
  have fb20 : w1.cell? ⟨w.heap.size + 1 + 1, 0, none⟩ = some (.int .i64 p) := b2.at_ 0
  have fb21 : w1.cell? ⟨w.heap.size + 1 + 1, 1, none⟩ = some (.int .i64 q) := b2.at_ 1
  have zb2 : w.heap.size + 1 + 1 < w1.heap.size := b2.lt
  clear hb
  go_wp2_with fail
  refine (rvalid_any a b _ true H1.out).mono ?_
  rintro e w2 ⟨rfl, hb⟩
  replace b0 := b0.below' hb
  replace b1 := b1.below' hb
  replace b2 := b2.below' hb
  replace B := B.trans (hb.mono B.size)
  clear fb00 fb01 zb0 fb10 fb11 zb1 fb20 fb21 zb2
  have fb00 : w2.cell? ⟨w.heap.size, 0, none⟩ = some (.int .i64 a) := b0.at_ 0
  have fb01 : w2.cell? ⟨w.heap.size, 1, none⟩ = some (.int .i64 b) := b0.at_ 1
  have zb0 : w.heap.size < w2.heap.size := b0.lt
  have fb10 : w2.cell? ⟨w.heap.size + 1, 0, none⟩ = some (.int .i64 c) := b1.at_ 0
  have fb11 : w2.cell? ⟨w.heap.size + 1, 1, none⟩ = some (.int .i64 d) := b1.at_ 1
  have zb1 : w.heap.size + 1 < w2.heap.size := b1.lt
  have fb20 : w2.cell? ⟨w.heap.size + 1 + 1, 0, none⟩ = some (.int .i64 p) := b2.at_ 0
  have fb21 : w2.cell? ⟨w.heap.size + 1 + 1, 1, none⟩ = some (.int .i64 q) := b2.at_ 1
  have zb2 : w.heap.size + 1 + 1 < w2.heap.size := b2.lt
  clear hb
  go_wp2_with fail
  refine (rvalid_any c d _ true H2.out).mono ?_
  rintro e w3 ⟨rfl, hb⟩
  replace b0 := b0.below' hb
  replace b1 := b1.below' hb
  replace b2 := b2.below' hb
  replace B := B.trans (hb.mono B.size)
  clear fb00 fb01 zb0 fb10 fb11 zb1 fb20 fb21 zb2
  have fb00 : w3.cell? ⟨w.heap.size, 0, none⟩ = some (.int .i64 a) := b0.at_ 0
  have fb01 : w3.cell? ⟨w.heap.size, 1, none⟩ = some (.int .i64 b) := b0.at_ 1
  have zb0 : w.heap.size < w3.heap.size := b0.lt
  have fb10 : w3.cell? ⟨w.heap.size + 1, 0, none⟩ = some (.int .i64 c) := b1.at_ 0
  have fb11 : w3.cell? ⟨w.heap.size + 1, 1, none⟩ = some (.int .i64 d) := b1.at_ 1
  have zb1 : w.heap.size + 1 < w3.heap.size := b1.lt
  have fb20 : w3.cell? ⟨w.heap.size + 1 + 1, 0, none⟩ = some (.int .i64 p) := b2.at_ 0
  have fb21 : w3.cell? ⟨w.heap.size + 1 + 1, 1, none⟩ = some (.int .i64 q) := b2.at_ 1
  have zb2 : w.heap.size + 1 + 1 < w3.heap.size := b2.lt
  clear hb
  go_wp2_with fail
  refine (rvalid_any p q _ true H3.out).mono ?_
  rintro e w4 ⟨rfl, hb⟩
  replace b0 := b0.below' hb
  replace b1 := b1.below' hb
  replace b2 := b2.below' hb
  replace B := B.trans (hb.mono B.size)
  clear fb00 fb01 zb0 fb10 fb11 zb1 fb20 fb21 zb2
  have fb00 : w4.cell? ⟨w.heap.size, 0, none⟩ = some (.int .i64 a) := b0.at_ 0
  have fb01 : w4.cell? ⟨w.heap.size, 1, none⟩ = some (.int .i64 b) := b0.at_ 1
  have zb0 : w.heap.size < w4.heap.size := b0.lt
  have fb10 : w4.cell? ⟨w.heap.size + 1, 0, none⟩ = some (.int .i64 c) := b1.at_ 0
  have fb11 : w4.cell? ⟨w.heap.size + 1, 1, none⟩ = some (.int .i64 d) := b1.at_ 1
  have zb1 : w.heap.size + 1 < w4.heap.size := b1.lt
  have fb20 : w4.cell? ⟨w.heap.size + 1 + 1, 0, none⟩ = some (.int .i64 p) := b2.at_ 0
  have fb21 : w4.cell? ⟨w.heap.size + 1 + 1, 1, none⟩ = some (.int .i64 q) := b2.at_ 1
  have zb2 : w.heap.size + 1 + 1 < w4.heap.size := b2.lt
  clear hb
  go_wp2_with fail
  refine (rel_v _ _ _ _ _ H1.out H2.out _ H4.out).mono ?_
  rintro e w5 ⟨rfl, hb⟩
  replace b0 := b0.below' hb
  replace b1 := b1.below' hb
  replace b2 := b2.below' hb
  replace B := B.trans (hb.mono B.size)
  clear fb00 fb01 zb0 fb10 fb11 zb1 fb20 fb21 zb2
  have fb00 : w5.cell? ⟨w.heap.size, 0, none⟩ = some (.int .i64 a) := b0.at_ 0
  have fb01 : w5.cell? ⟨w.heap.size, 1, none⟩ = some (.int .i64 b) := b0.at_ 1
  have zb0 : w.heap.size < w5.heap.size := b0.lt
  have fb10 : w5.cell? ⟨w.heap.size + 1, 0, none⟩ = some (.int .i64 c) := b1.at_ 0
  have fb11 : w5.cell? ⟨w.heap.size + 1, 1, none⟩ = some (.int .i64 d) := b1.at_ 1
  have zb1 : w.heap.size + 1 < w5.heap.size := b1.lt
  have fb20 : w5.cell? ⟨w.heap.size + 1 + 1, 0, none⟩ = some (.int .i64 p) := b2.at_ 0
  have fb21 : w5.cell? ⟨w.heap.size + 1 + 1, 1, none⟩ = some (.int .i64 q) := b2.at_ 1
  have zb2 : w.heap.size + 1 + 1 < w5.heap.size := b2.lt
  clear hb
  go_wp2_with fail
  refine (MM.out _).mono ?_
  rintro e w6 ⟨rfl, hb⟩
  replace b0 := b0.below' hb
  replace b1 := b1.below' hb
  replace b2 := b2.below' hb
  replace B := B.trans (hb.mono B.size)
  clear fb00 fb01 zb0 fb10 fb11 zb1 fb20 fb21 zb2
  have fb00 : w6.cell? ⟨w.heap.size, 0, none⟩ = some (.int .i64 a) := b0.at_ 0
  have fb01 : w6.cell? ⟨w.heap.size, 1, none⟩ = some (.int .i64 b) := b0.at_ 1
  have zb0 : w.heap.size < w6.heap.size := b0.lt
  have fb10 : w6.cell? ⟨w.heap.size + 1, 0, none⟩ = some (.int .i64 c) := b1.at_ 0
  have fb11 : w6.cell? ⟨w.heap.size + 1, 1, none⟩ = some (.int .i64 d) := b1.at_ 1
  have zb1 : w.heap.size + 1 < w6.heap.size := b1.lt
  have fb20 : w6.cell? ⟨w.heap.size + 1 + 1, 0, none⟩ = some (.int .i64 p) := b2.at_ 0
  have fb21 : w6.cell? ⟨w.heap.size + 1 + 1, 1, none⟩ = some (.int .i64 q) := b2.at_ 1
  have zb2 : w.heap.size + 1 + 1 < w6.heap.size := b2.lt
  clear hb
  go_wp2_with fail
  generalize hW : w6.alloc _ = V6
  obtain ⟨hb, bm⟩ := boxA hW
  replace b0 := b0.below' hb
  replace b1 := b1.below' hb
  replace b2 := b2.below' hb
  replace B := B.trans (hb.mono B.size)
  clear fb00 fb01 zb0 fb10 fb11 zb1 fb20 fb21 zb2
  generalize w6.heap.size = gbm at *
  have fb00 : V6.cell? ⟨w.heap.size, 0, none⟩ = some (.int .i64 a) := b0.at_ 0
  have fb01 : V6.cell? ⟨w.heap.size, 1, none⟩ = some (.int .i64 b) := b0.at_ 1
  have zb0 : w.heap.size < V6.heap.size := b0.lt
  have fb10 : V6.cell? ⟨w.heap.size + 1, 0, none⟩ = some (.int .i64 c) := b1.at_ 0
  have fb11 : V6.cell? ⟨w.heap.size + 1, 1, none⟩ = some (.int .i64 d) := b1.at_ 1
  have zb1 : w.heap.size + 1 < V6.heap.size := b1.lt
  have fb20 : V6.cell? ⟨w.heap.size + 1 + 1, 0, none⟩ = some (.int .i64 p) := b2.at_ 0
  have fb21 : V6.cell? ⟨w.heap.size + 1 + 1, 1, none⟩ = some (.int .i64 q) := b2.at_ 1
  have zb2 : w.heap.size + 1 + 1 < V6.heap.size := b2.lt
  have fbm0 : V6.cell? ⟨gbm, 0, none⟩ = some (.int .i64 0) := bm.at_ 0
  have fbm1 : V6.cell? ⟨gbm, 1, none⟩ = some (.int .i64 0) := bm.at_ 1
  have zbm : gbm < V6.heap.size := bm.lt
  clear hW hb
  go_ret
  exact ⟨rfl, B⟩
set_option maxHeartbeats 4000000 in
set_option maxRecDepth 100000 in
theorem orders_4 (a b c d p q : Int) (w : World) (hT : Lw w) (h1 : yB a b = true) (h2 : yB c d = true) (h3 : yB p q = true) (h4 : rel13 a b c d = 1) (h5 : min b d < max a c) (r : Int) (h6 : rel13 c d p q = r) (r1 : (r != 1) = true) :
    Calls Tryd.prog 7 #[.agg #[.int .i64 a, .int .i64 b], .agg #[.int .i64 c, .int .i64 d], .agg #[.int .i64 p, .int .i64 q]] w fun e w' => e = .returned (.bool true) ∧ Below w.heap.size w w' := by
  have HT := hide hT
  have MM := hide (fun W => meet_none a b c d W h1 h2 h5)
  have H1 := hide h1
  have H2 := hide h2
  have H3 := hide h3
  have H4 := hide h4
  have H5 := hide h5
  have H6 := hide h6
  clear hT h1 h2 h3 h4 h5 h6
  go_enter Tryd.func7, Tryd.ntmps7
  go_wp2_with fail
  generalize hW : ((w.alloc _).alloc _).alloc _ = W
  obtain ⟨B, b0, b1, b2⟩ := boxesA3 hW
  clear hW
  refine (awake_yes _ (HT.out.below B)).mono ?_
  rintro e w1 ⟨rfl, hb⟩
  replace b0 := b0.below' hb
  replace b1 := b1.below' hb
  replace b2 := b2.below' hb
  replace B := B.trans (hb.mono B.size)
  have fb00 : w1.cell? ⟨w.heap.size, 0, none⟩ = some (.int .i64 a) := b0.at_ 0
  have fb01 : w1.cell? ⟨w.heap.size, 1, none⟩ = some (.int .i64 b) := b0.at_ 1
  have zb0 : w.heap.size < w1.heap.size := b0.lt
  have fb10 : w1.cell? ⟨w.heap.size + 1, 0, none⟩ = some (.int .i64 c) := b1.at_ 0
  have fb11 : w1.cell? ⟨w.heap.size + 1, 1, none⟩ = some (.int .i64 d) := b1.at_ 1
  have zb1 : w.heap.size + 1 < w1.heap.size := b1.lt
  have fb20 : w1.cell? ⟨w.heap.size + 1 + 1, 0, none⟩ = some (.int .i64 p) := b2.at_ 0
  have fb21 : w1.cell? ⟨w.heap.size + 1 + 1, 1, none⟩ = some (.int .i64 q) := b2.at_ 1
  have zb2 : w.heap.size + 1 + 1 < w1.heap.size := b2.lt
  clear hb
  go_wp2_with fail
  refine (rvalid_any a b _ true H1.out).mono ?_
  rintro e w2 ⟨rfl, hb⟩
  replace b0 := b0.below' hb
  replace b1 := b1.below' hb
  replace b2 := b2.below' hb
  replace B := B.trans (hb.mono B.size)
  clear fb00 fb01 zb0 fb10 fb11 zb1 fb20 fb21 zb2
  have fb00 : w2.cell? ⟨w.heap.size, 0, none⟩ = some (.int .i64 a) := b0.at_ 0
  have fb01 : w2.cell? ⟨w.heap.size, 1, none⟩ = some (.int .i64 b) := b0.at_ 1
  have zb0 : w.heap.size < w2.heap.size := b0.lt
  have fb10 : w2.cell? ⟨w.heap.size + 1, 0, none⟩ = some (.int .i64 c) := b1.at_ 0
  have fb11 : w2.cell? ⟨w.heap.size + 1, 1, none⟩ = some (.int .i64 d) := b1.at_ 1
  have zb1 : w.heap.size + 1 < w2.heap.size := b1.lt
  have fb20 : w2.cell? ⟨w.heap.size + 1 + 1, 0, none⟩ = some (.int .i64 p) := b2.at_ 0
  have fb21 : w2.cell? ⟨w.heap.size + 1 + 1, 1, none⟩ = some (.int .i64 q) := b2.at_ 1
  have zb2 : w.heap.size + 1 + 1 < w2.heap.size := b2.lt
  clear hb
  go_wp2_with fail
  refine (rvalid_any c d _ true H2.out).mono ?_
  rintro e w3 ⟨rfl, hb⟩
  replace b0 := b0.below' hb
  replace b1 := b1.below' hb
  replace b2 := b2.below' hb
  replace B := B.trans (hb.mono B.size)
  clear fb00 fb01 zb0 fb10 fb11 zb1 fb20 fb21 zb2
  have fb00 : w3.cell? ⟨w.heap.size, 0, none⟩ = some (.int .i64 a) := b0.at_ 0
  have fb01 : w3.cell? ⟨w.heap.size, 1, none⟩ = some (.int .i64 b) := b0.at_ 1
  have zb0 : w.heap.size < w3.heap.size := b0.lt
  have fb10 : w3.cell? ⟨w.heap.size + 1, 0, none⟩ = some (.int .i64 c) := b1.at_ 0
  have fb11 : w3.cell? ⟨w.heap.size + 1, 1, none⟩ = some (.int .i64 d) := b1.at_ 1
  have zb1 : w.heap.size + 1 < w3.heap.size := b1.lt
  have fb20 : w3.cell? ⟨w.heap.size + 1 + 1, 0, none⟩ = some (.int .i64 p) := b2.at_ 0
  have fb21 : w3.cell? ⟨w.heap.size + 1 + 1, 1, none⟩ = some (.int .i64 q) := b2.at_ 1
  have zb2 : w.heap.size + 1 + 1 < w3.heap.size := b2.lt
  clear hb
  go_wp2_with fail
  refine (rvalid_any p q _ true H3.out).mono ?_
  rintro e w4 ⟨rfl, hb⟩
  replace b0 := b0.below' hb
  replace b1 := b1.below' hb
  replace b2 := b2.below' hb
  replace B := B.trans (hb.mono B.size)
  clear fb00 fb01 zb0 fb10 fb11 zb1 fb20 fb21 zb2
  have fb00 : w4.cell? ⟨w.heap.size, 0, none⟩ = some (.int .i64 a) := b0.at_ 0
  have fb01 : w4.cell? ⟨w.heap.size, 1, none⟩ = some (.int .i64 b) := b0.at_ 1
  have zb0 : w.heap.size < w4.heap.size := b0.lt
  have fb10 : w4.cell? ⟨w.heap.size + 1, 0, none⟩ = some (.int .i64 c) := b1.at_ 0
  have fb11 : w4.cell? ⟨w.heap.size + 1, 1, none⟩ = some (.int .i64 d) := b1.at_ 1
  have zb1 : w.heap.size + 1 < w4.heap.size := b1.lt
  have fb20 : w4.cell? ⟨w.heap.size + 1 + 1, 0, none⟩ = some (.int .i64 p) := b2.at_ 0
  have fb21 : w4.cell? ⟨w.heap.size + 1 + 1, 1, none⟩ = some (.int .i64 q) := b2.at_ 1
  have zb2 : w.heap.size + 1 + 1 < w4.heap.size := b2.lt
  clear hb
  go_wp2_with fail
  refine (rel_v _ _ _ _ _ H1.out H2.out _ H4.out).mono ?_
  rintro e w5 ⟨rfl, hb⟩
  replace b0 := b0.below' hb
  replace b1 := b1.below' hb
  replace b2 := b2.below' hb
  replace B := B.trans (hb.mono B.size)
  clear fb00 fb01 zb0 fb10 fb11 zb1 fb20 fb21 zb2
  have fb00 : w5.cell? ⟨w.heap.size, 0, none⟩ = some (.int .i64 a) := b0.at_ 0
  have fb01 : w5.cell? ⟨w.heap.size, 1, none⟩ = some (.int .i64 b) := b0.at_ 1
  have zb0 : w.heap.size < w5.heap.size := b0.lt
  have fb10 : w5.cell? ⟨w.heap.size + 1, 0, none⟩ = some (.int .i64 c) := b1.at_ 0
  have fb11 : w5.cell? ⟨w.heap.size + 1, 1, none⟩ = some (.int .i64 d) := b1.at_ 1
  have zb1 : w.heap.size + 1 < w5.heap.size := b1.lt
  have fb20 : w5.cell? ⟨w.heap.size + 1 + 1, 0, none⟩ = some (.int .i64 p) := b2.at_ 0
  have fb21 : w5.cell? ⟨w.heap.size + 1 + 1, 1, none⟩ = some (.int .i64 q) := b2.at_ 1
  have zb2 : w.heap.size + 1 + 1 < w5.heap.size := b2.lt
  clear hb
  go_wp2_with fail
  refine (MM.out _).mono ?_
  rintro e w6 ⟨rfl, hb⟩
  replace b0 := b0.below' hb
  replace b1 := b1.below' hb
  replace b2 := b2.below' hb
  replace B := B.trans (hb.mono B.size)
  clear fb00 fb01 zb0 fb10 fb11 zb1 fb20 fb21 zb2
  have fb00 : w6.cell? ⟨w.heap.size, 0, none⟩ = some (.int .i64 a) := b0.at_ 0
  have fb01 : w6.cell? ⟨w.heap.size, 1, none⟩ = some (.int .i64 b) := b0.at_ 1
  have zb0 : w.heap.size < w6.heap.size := b0.lt
  have fb10 : w6.cell? ⟨w.heap.size + 1, 0, none⟩ = some (.int .i64 c) := b1.at_ 0
  have fb11 : w6.cell? ⟨w.heap.size + 1, 1, none⟩ = some (.int .i64 d) := b1.at_ 1
  have zb1 : w.heap.size + 1 < w6.heap.size := b1.lt
  have fb20 : w6.cell? ⟨w.heap.size + 1 + 1, 0, none⟩ = some (.int .i64 p) := b2.at_ 0
  have fb21 : w6.cell? ⟨w.heap.size + 1 + 1, 1, none⟩ = some (.int .i64 q) := b2.at_ 1
  have zb2 : w.heap.size + 1 + 1 < w6.heap.size := b2.lt
  clear hb
  go_wp2_with fail
  generalize hW : w6.alloc _ = V6
  obtain ⟨hb, bm⟩ := boxA hW
  replace b0 := b0.below' hb
  replace b1 := b1.below' hb
  replace b2 := b2.below' hb
  replace B := B.trans (hb.mono B.size)
  clear fb00 fb01 zb0 fb10 fb11 zb1 fb20 fb21 zb2
  generalize w6.heap.size = gbm at *
  have fb00 : V6.cell? ⟨w.heap.size, 0, none⟩ = some (.int .i64 a) := b0.at_ 0
  have fb01 : V6.cell? ⟨w.heap.size, 1, none⟩ = some (.int .i64 b) := b0.at_ 1
  have zb0 : w.heap.size < V6.heap.size := b0.lt
  have fb10 : V6.cell? ⟨w.heap.size + 1, 0, none⟩ = some (.int .i64 c) := b1.at_ 0
  have fb11 : V6.cell? ⟨w.heap.size + 1, 1, none⟩ = some (.int .i64 d) := b1.at_ 1
  have zb1 : w.heap.size + 1 < V6.heap.size := b1.lt
  have fb20 : V6.cell? ⟨w.heap.size + 1 + 1, 0, none⟩ = some (.int .i64 p) := b2.at_ 0
  have fb21 : V6.cell? ⟨w.heap.size + 1 + 1, 1, none⟩ = some (.int .i64 q) := b2.at_ 1
  have zb2 : w.heap.size + 1 + 1 < V6.heap.size := b2.lt
  have fbm0 : V6.cell? ⟨gbm, 0, none⟩ = some (.int .i64 0) := bm.at_ 0
  have fbm1 : V6.cell? ⟨gbm, 1, none⟩ = some (.int .i64 0) := bm.at_ 1
  have zbm : gbm < V6.heap.size := bm.lt
  clear hW hb
  refine (rel_v _ _ _ _ _ H2.out H3.out _ H6.out).mono ?_
  rintro e w7 ⟨rfl, hb⟩
  replace b0 := b0.below' hb
  replace b1 := b1.below' hb
  replace b2 := b2.below' hb
  replace bm := bm.below' hb
  replace B := B.trans (hb.mono B.size)
  clear fb00 fb01 zb0 fb10 fb11 zb1 fb20 fb21 zb2 fbm0 fbm1 zbm
  have fb00 : w7.cell? ⟨w.heap.size, 0, none⟩ = some (.int .i64 a) := b0.at_ 0
  have fb01 : w7.cell? ⟨w.heap.size, 1, none⟩ = some (.int .i64 b) := b0.at_ 1
  have zb0 : w.heap.size < w7.heap.size := b0.lt
  have fb10 : w7.cell? ⟨w.heap.size + 1, 0, none⟩ = some (.int .i64 c) := b1.at_ 0
  have fb11 : w7.cell? ⟨w.heap.size + 1, 1, none⟩ = some (.int .i64 d) := b1.at_ 1
  have zb1 : w.heap.size + 1 < w7.heap.size := b1.lt
  have fb20 : w7.cell? ⟨w.heap.size + 1 + 1, 0, none⟩ = some (.int .i64 p) := b2.at_ 0
  have fb21 : w7.cell? ⟨w.heap.size + 1 + 1, 1, none⟩ = some (.int .i64 q) := b2.at_ 1
  have zb2 : w.heap.size + 1 + 1 < w7.heap.size := b2.lt
  have fbm0 : w7.cell? ⟨gbm, 0, none⟩ = some (.int .i64 0) := bm.at_ 0
  have fbm1 : w7.cell? ⟨gbm, 1, none⟩ = some (.int .i64 0) := bm.at_ 1
  have zbm : gbm < w7.heap.size := bm.lt
  clear hb
  go_wp2_with fail
  go_ret
  exact ⟨rfl, B⟩
set_option maxHeartbeats 4000000 in
set_option maxRecDepth 100000 in
theorem orders_5 (a b c d p q : Int) (w : World) (hT : Lw w) (h1 : yB a b = true) (h2 : yB c d = true) (h3 : yB p q = true) (h4 : rel13 a b c d = 1) (h5 : min b d < max a c) (h6 : rel13 c d p q = 1) (h7 : rel13 a b p q = 1) :
    Calls Tryd.prog 7 #[.agg #[.int .i64 a, .int .i64 b], .agg #[.int .i64 c, .int .i64 d], .agg #[.int .i64 p, .int .i64 q]] w fun e w' => e = .returned (.bool true) ∧ Below w.heap.size w w' := by
  have HT := hide hT
  have MM := hide (fun W => meet_none a b c d W h1 h2 h5)
  have H1 := hide h1
  have H2 := hide h2
  have H3 := hide h3
  have H4 := hide h4
  have H5 := hide h5
  have H6 := hide h6
  have H7 := hide h7
  clear hT h1 h2 h3 h4 h5 h6 h7
  go_enter Tryd.func7, Tryd.ntmps7
  go_wp2_with fail
  generalize hW : ((w.alloc _).alloc _).alloc _ = W
  obtain ⟨B, b0, b1, b2⟩ := boxesA3 hW
  clear hW
  refine (awake_yes _ (HT.out.below B)).mono ?_
  rintro e w1 ⟨rfl, hb⟩
  replace b0 := b0.below' hb
  replace b1 := b1.below' hb
  replace b2 := b2.below' hb
  replace B := B.trans (hb.mono B.size)
  have fb00 : w1.cell? ⟨w.heap.size, 0, none⟩ = some (.int .i64 a) := b0.at_ 0
  have fb01 : w1.cell? ⟨w.heap.size, 1, none⟩ = some (.int .i64 b) := b0.at_ 1
  have zb0 : w.heap.size < w1.heap.size := b0.lt
  have fb10 : w1.cell? ⟨w.heap.size + 1, 0, none⟩ = some (.int .i64 c) := b1.at_ 0
  have fb11 : w1.cell? ⟨w.heap.size + 1, 1, none⟩ = some (.int .i64 d) := b1.at_ 1
  have zb1 : w.heap.size + 1 < w1.heap.size := b1.lt
  have fb20 : w1.cell? ⟨w.heap.size + 1 + 1, 0, none⟩ = some (.int .i64 p) := b2.at_ 0
  have fb21 : w1.cell? ⟨w.heap.size + 1 + 1, 1, none⟩ = some (.int .i64 q) := b2.at_ 1
  have zb2 : w.heap.size + 1 + 1 < w1.heap.size := b2.lt
  clear hb
  go_wp2_with fail
  refine (rvalid_any a b _ true H1.out).mono ?_
  rintro e w2 ⟨rfl, hb⟩
  replace b0 := b0.below' hb
  replace b1 := b1.below' hb
  replace b2 := b2.below' hb
  replace B := B.trans (hb.mono B.size)
  clear fb00 fb01 zb0 fb10 fb11 zb1 fb20 fb21 zb2
  have fb00 : w2.cell? ⟨w.heap.size, 0, none⟩ = some (.int .i64 a) := b0.at_ 0
  have fb01 : w2.cell? ⟨w.heap.size, 1, none⟩ = some (.int .i64 b) := b0.at_ 1
  have zb0 : w.heap.size < w2.heap.size := b0.lt
  have fb10 : w2.cell? ⟨w.heap.size + 1, 0, none⟩ = some (.int .i64 c) := b1.at_ 0
  have fb11 : w2.cell? ⟨w.heap.size + 1, 1, none⟩ = some (.int .i64 d) := b1.at_ 1
  have zb1 : w.heap.size + 1 < w2.heap.size := b1.lt
  have fb20 : w2.cell? ⟨w.heap.size + 1 + 1, 0, none⟩ = some (.int .i64 p) := b2.at_ 0
  have fb21 : w2.cell? ⟨w.heap.size + 1 + 1, 1, none⟩ = some (.int .i64 q) := b2.at_ 1
  have zb2 : w.heap.size + 1 + 1 < w2.heap.size := b2.lt
  clear hb
  go_wp2_with fail
  refine (rvalid_any c d _ true H2.out).mono ?_
  rintro e w3 ⟨rfl, hb⟩
  replace b0 := b0.below' hb
  replace b1 := b1.below' hb
  replace b2 := b2.below' hb
  replace B := B.trans (hb.mono B.size)
  clear fb00 fb01 zb0 fb10 fb11 zb1 fb20 fb21 zb2
  have fb00 : w3.cell? ⟨w.heap.size, 0, none⟩ = some (.int .i64 a) := b0.at_ 0
  have fb01 : w3.cell? ⟨w.heap.size, 1, none⟩ = some (.int .i64 b) := b0.at_ 1
  have zb0 : w.heap.size < w3.heap.size := b0.lt
  have fb10 : w3.cell? ⟨w.heap.size + 1, 0, none⟩ = some (.int .i64 c) := b1.at_ 0
  have fb11 : w3.cell? ⟨w.heap.size + 1, 1, none⟩ = some (.int .i64 d) := b1.at_ 1
  have zb1 : w.heap.size + 1 < w3.heap.size := b1.lt
  have fb20 : w3.cell? ⟨w.heap.size + 1 + 1, 0, none⟩ = some (.int .i64 p) := b2.at_ 0
  have fb21 : w3.cell? ⟨w.heap.size + 1 + 1, 1, none⟩ = some (.int .i64 q) := b2.at_ 1
  have zb2 : w.heap.size + 1 + 1 < w3.heap.size := b2.lt
  clear hb
  go_wp2_with fail
  refine (rvalid_any p q _ true H3.out).mono ?_
  rintro e w4 ⟨rfl, hb⟩
  replace b0 := b0.below' hb
  replace b1 := b1.below' hb
  replace b2 := b2.below' hb
  replace B := B.trans (hb.mono B.size)
  clear fb00 fb01 zb0 fb10 fb11 zb1 fb20 fb21 zb2
  have fb00 : w4.cell? ⟨w.heap.size, 0, none⟩ = some (.int .i64 a) := b0.at_ 0
  have fb01 : w4.cell? ⟨w.heap.size, 1, none⟩ = some (.int .i64 b) := b0.at_ 1
  have zb0 : w.heap.size < w4.heap.size := b0.lt
  have fb10 : w4.cell? ⟨w.heap.size + 1, 0, none⟩ = some (.int .i64 c) := b1.at_ 0
  have fb11 : w4.cell? ⟨w.heap.size + 1, 1, none⟩ = some (.int .i64 d) := b1.at_ 1
  have zb1 : w.heap.size + 1 < w4.heap.size := b1.lt
  have fb20 : w4.cell? ⟨w.heap.size + 1 + 1, 0, none⟩ = some (.int .i64 p) := b2.at_ 0
  have fb21 : w4.cell? ⟨w.heap.size + 1 + 1, 1, none⟩ = some (.int .i64 q) := b2.at_ 1
  have zb2 : w.heap.size + 1 + 1 < w4.heap.size := b2.lt
  clear hb
  go_wp2_with fail
  refine (rel_v _ _ _ _ _ H1.out H2.out _ H4.out).mono ?_
  rintro e w5 ⟨rfl, hb⟩
  replace b0 := b0.below' hb
  replace b1 := b1.below' hb
  replace b2 := b2.below' hb
  replace B := B.trans (hb.mono B.size)
  clear fb00 fb01 zb0 fb10 fb11 zb1 fb20 fb21 zb2
  have fb00 : w5.cell? ⟨w.heap.size, 0, none⟩ = some (.int .i64 a) := b0.at_ 0
  have fb01 : w5.cell? ⟨w.heap.size, 1, none⟩ = some (.int .i64 b) := b0.at_ 1
  have zb0 : w.heap.size < w5.heap.size := b0.lt
  have fb10 : w5.cell? ⟨w.heap.size + 1, 0, none⟩ = some (.int .i64 c) := b1.at_ 0
  have fb11 : w5.cell? ⟨w.heap.size + 1, 1, none⟩ = some (.int .i64 d) := b1.at_ 1
  have zb1 : w.heap.size + 1 < w5.heap.size := b1.lt
  have fb20 : w5.cell? ⟨w.heap.size + 1 + 1, 0, none⟩ = some (.int .i64 p) := b2.at_ 0
  have fb21 : w5.cell? ⟨w.heap.size + 1 + 1, 1, none⟩ = some (.int .i64 q) := b2.at_ 1
  have zb2 : w.heap.size + 1 + 1 < w5.heap.size := b2.lt
  clear hb
  go_wp2_with fail
  refine (MM.out _).mono ?_
  rintro e w6 ⟨rfl, hb⟩
  replace b0 := b0.below' hb
  replace b1 := b1.below' hb
  replace b2 := b2.below' hb
  replace B := B.trans (hb.mono B.size)
  clear fb00 fb01 zb0 fb10 fb11 zb1 fb20 fb21 zb2
  have fb00 : w6.cell? ⟨w.heap.size, 0, none⟩ = some (.int .i64 a) := b0.at_ 0
  have fb01 : w6.cell? ⟨w.heap.size, 1, none⟩ = some (.int .i64 b) := b0.at_ 1
  have zb0 : w.heap.size < w6.heap.size := b0.lt
  have fb10 : w6.cell? ⟨w.heap.size + 1, 0, none⟩ = some (.int .i64 c) := b1.at_ 0
  have fb11 : w6.cell? ⟨w.heap.size + 1, 1, none⟩ = some (.int .i64 d) := b1.at_ 1
  have zb1 : w.heap.size + 1 < w6.heap.size := b1.lt
  have fb20 : w6.cell? ⟨w.heap.size + 1 + 1, 0, none⟩ = some (.int .i64 p) := b2.at_ 0
  have fb21 : w6.cell? ⟨w.heap.size + 1 + 1, 1, none⟩ = some (.int .i64 q) := b2.at_ 1
  have zb2 : w.heap.size + 1 + 1 < w6.heap.size := b2.lt
  clear hb
  go_wp2_with fail
  generalize hW : w6.alloc _ = V6
  obtain ⟨hb, bm⟩ := boxA hW
  replace b0 := b0.below' hb
  replace b1 := b1.below' hb
  replace b2 := b2.below' hb
  replace B := B.trans (hb.mono B.size)
  clear fb00 fb01 zb0 fb10 fb11 zb1 fb20 fb21 zb2
  generalize w6.heap.size = gbm at *
  have fb00 : V6.cell? ⟨w.heap.size, 0, none⟩ = some (.int .i64 a) := b0.at_ 0
  have fb01 : V6.cell? ⟨w.heap.size, 1, none⟩ = some (.int .i64 b) := b0.at_ 1
  have zb0 : w.heap.size < V6.heap.size := b0.lt
  have fb10 : V6.cell? ⟨w.heap.size + 1, 0, none⟩ = some (.int .i64 c) := b1.at_ 0
  have fb11 : V6.cell? ⟨w.heap.size + 1, 1, none⟩ = some (.int .i64 d) := b1.at_ 1
  have zb1 : w.heap.size + 1 < V6.heap.size := b1.lt
  have fb20 : V6.cell? ⟨w.heap.size + 1 + 1, 0, none⟩ = some (.int .i64 p) := b2.at_ 0
  have fb21 : V6.cell? ⟨w.heap.size + 1 + 1, 1, none⟩ = some (.int .i64 q) := b2.at_ 1
  have zb2 : w.heap.size + 1 + 1 < V6.heap.size := b2.lt
  have fbm0 : V6.cell? ⟨gbm, 0, none⟩ = some (.int .i64 0) := bm.at_ 0
  have fbm1 : V6.cell? ⟨gbm, 1, none⟩ = some (.int .i64 0) := bm.at_ 1
  have zbm : gbm < V6.heap.size := bm.lt
  clear hW hb
  refine (rel_v _ _ _ _ _ H2.out H3.out _ H6.out).mono ?_
  rintro e w7 ⟨rfl, hb⟩
  replace b0 := b0.below' hb
  replace b1 := b1.below' hb
  replace b2 := b2.below' hb
  replace bm := bm.below' hb
  replace B := B.trans (hb.mono B.size)
  clear fb00 fb01 zb0 fb10 fb11 zb1 fb20 fb21 zb2 fbm0 fbm1 zbm
  have fb00 : w7.cell? ⟨w.heap.size, 0, none⟩ = some (.int .i64 a) := b0.at_ 0
  have fb01 : w7.cell? ⟨w.heap.size, 1, none⟩ = some (.int .i64 b) := b0.at_ 1
  have zb0 : w.heap.size < w7.heap.size := b0.lt
  have fb10 : w7.cell? ⟨w.heap.size + 1, 0, none⟩ = some (.int .i64 c) := b1.at_ 0
  have fb11 : w7.cell? ⟨w.heap.size + 1, 1, none⟩ = some (.int .i64 d) := b1.at_ 1
  have zb1 : w.heap.size + 1 < w7.heap.size := b1.lt
  have fb20 : w7.cell? ⟨w.heap.size + 1 + 1, 0, none⟩ = some (.int .i64 p) := b2.at_ 0
  have fb21 : w7.cell? ⟨w.heap.size + 1 + 1, 1, none⟩ = some (.int .i64 q) := b2.at_ 1
  have zb2 : w.heap.size + 1 + 1 < w7.heap.size := b2.lt
  have fbm0 : w7.cell? ⟨gbm, 0, none⟩ = some (.int .i64 0) := bm.at_ 0
  have fbm1 : w7.cell? ⟨gbm, 1, none⟩ = some (.int .i64 0) := bm.at_ 1
  have zbm : gbm < w7.heap.size := bm.lt
  clear hb
  go_wp2_with fail
  refine (rel_v _ _ _ _ _ H1.out H3.out _ H7.out).mono ?_
  rintro e w8 ⟨rfl, hb⟩
  replace b0 := b0.below' hb
  replace b1 := b1.below' hb
  replace b2 := b2.below' hb
  replace bm := bm.below' hb
  replace B := B.trans (hb.mono B.size)
  clear fb00 fb01 zb0 fb10 fb11 zb1 fb20 fb21 zb2 fbm0 fbm1 zbm
  have fb00 : w8.cell? ⟨w.heap.size, 0, none⟩ = some (.int .i64 a) := b0.at_ 0
  have fb01 : w8.cell? ⟨w.heap.size, 1, none⟩ = some (.int .i64 b) := b0.at_ 1
  have zb0 : w.heap.size < w8.heap.size := b0.lt
  have fb10 : w8.cell? ⟨w.heap.size + 1, 0, none⟩ = some (.int .i64 c) := b1.at_ 0
  have fb11 : w8.cell? ⟨w.heap.size + 1, 1, none⟩ = some (.int .i64 d) := b1.at_ 1
  have zb1 : w.heap.size + 1 < w8.heap.size := b1.lt
  have fb20 : w8.cell? ⟨w.heap.size + 1 + 1, 0, none⟩ = some (.int .i64 p) := b2.at_ 0
  have fb21 : w8.cell? ⟨w.heap.size + 1 + 1, 1, none⟩ = some (.int .i64 q) := b2.at_ 1
  have zb2 : w.heap.size + 1 + 1 < w8.heap.size := b2.lt
  have fbm0 : w8.cell? ⟨gbm, 0, none⟩ = some (.int .i64 0) := bm.at_ 0
  have fbm1 : w8.cell? ⟨gbm, 1, none⟩ = some (.int .i64 0) := bm.at_ 1
  have zbm : gbm < w8.heap.size := bm.lt
  clear hb
  go_wp2_with fail
  go_ret
  exact ⟨rfl, B⟩
theorem orders_all (a b c d p q : Int) (w : World) (hT : Lw w) :
    Calls Tryd.prog 7 #[.agg #[.int .i64 a, .int .i64 b], .agg #[.int .i64 c, .int .i64 d], .agg #[.int .i64 p, .int .i64 q]] w fun e w' => e = .returned (.bool true) ∧ Below w.heap.size w w' := by
  rcases Bool.eq_false_or_eq_true (yB a b) with h1 | h1
  · rcases Bool.eq_false_or_eq_true (yB c d) with h2 | h2
    · rcases Bool.eq_false_or_eq_true (yB p q) with h3 | h3
      · have hr := rel_range h1 h2
        have hc := rel_common h1 h2
        by_cases h5 : max a c ≤ min b d
        · have h6 := hc.1 h5
          exact orders_1 a b c d p q w hT h1 h2 h3 _ rfl h5 (decide_eq_true h6.1) (decide_eq_true h6.2) (by rw [bne_iff_ne]; omega)
        · have h6 : ¬(3 ≤ rel13 a b c d ∧ rel13 a b c d ≤ 11) := fun h => h5 (hc.2 h)
          have h5 : min b d < max a c := by omega
          by_cases e : rel13 a b c d = 1
          · by_cases e2 : rel13 c d p q = 1
            · have j3 := yB_true.1 h3
              have j2 := yB_true.1 h2
              exact orders_5 a b c d p q w hT h1 h2 h3 e h5 e2 ((rel_before h1 h3).2 (by have := (rel_before h1 h2).1 e; have := (rel_before h2 h3).1 e2; omega))
            · exact orders_4 a b c d p q w hT h1 h2 h3 e h5 _ rfl (by rw [bne_iff_ne]; exact e2)
          · by_cases e3 : 3 ≤ rel13 a b c d
            · exact orders_3 a b c d p q w hT h1 h2 h3 _ rfl h5 (decide_eq_true e3) (decide_eq_false (by omega)) (by rw [bne_iff_ne]; exact e)
            · exact orders_2 a b c d p q w hT h1 h2 h3 _ rfl h5 (decide_eq_false e3) (by rw [bne_iff_ne]; exact e)
      · exact orders_g3 a b c d p q w hT h1 h2 h3
    · exact orders_g2 a b c d p q w hT h1 h2
  · exact orders_g1 a b c d p q w hT h1
end Go.Proofs.YtihadabaehcmiaaDoor
