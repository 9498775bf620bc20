/- The body of YearsMatchReference. -/
import Derived.Test.YtihadabaehcmiaaDoorYLaw
namespace Go.Proofs.YtihadabaehcmiaaDoor
open Go Go.RowKit

set_option maxHeartbeats 4000000 in
set_option maxRecDepth 100000 in
theorem match_1 (a b c d : Int) (w : World) (hT : Lw w) (h1 : yB a b = false) :
    Calls Tryd.prog 3 #[.agg #[.int .i64 a, .int .i64 b], .agg #[.int .i64 c, .int .i64 d]] w fun e w' => e = .returned (.bool true) ∧ Below w.heap.size w w' := by
  have HT := hide hT
  have H1 := hide h1
  clear hT h1
  go_enter Tryd.func3, Tryd.ntmps3
  go_wp2_with fail
  generalize hW : (w.alloc _).alloc _ = W
  obtain ⟨B, b0, b1⟩ := boxesA2 hW
  clear hW
  refine (awake_yes _ (HT.out.below B)).mono ?_
  rintro e w1 ⟨rfl, hb⟩
  replace b0 := b0.below' hb
  replace b1 := b1.below' hb
  replace B := B.trans (hb.mono B.size)
  have fb00 : w1.cell? ⟨w.heap.size, 0, none⟩ = some (.int .i64 a) := b0.at_ 0
  have fb01 : w1.cell? ⟨w.heap.size, 1, none⟩ = some (.int .i64 b) := b0.at_ 1
  have zb0 : w.heap.size < w1.heap.size := b0.lt
  have fb10 : w1.cell? ⟨w.heap.size + 1, 0, none⟩ = some (.int .i64 c) := b1.at_ 0
  have fb11 : w1.cell? ⟨w.heap.size + 1, 1, none⟩ = some (.int .i64 d) := b1.at_ 1
  have zb1 : w.heap.size + 1 < w1.heap.size := b1.lt
  clear hb
  go_wp2_with fail
  refine (meet_one _ _ _ _ _ H1.out).mono ?_
  rintro e w2 ⟨rfl, hb⟩
  replace b0 := b0.below' hb
  replace b1 := b1.below' hb
  replace B := B.trans (hb.mono B.size)
  clear fb00 fb01 zb0 fb10 fb11 zb1
  have fb00 : w2.cell? ⟨w.heap.size, 0, none⟩ = some (.int .i64 a) := b0.at_ 0
  have fb01 : w2.cell? ⟨w.heap.size, 1, none⟩ = some (.int .i64 b) := b0.at_ 1
  have zb0 : w.heap.size < w2.heap.size := b0.lt
  have fb10 : w2.cell? ⟨w.heap.size + 1, 0, none⟩ = some (.int .i64 c) := b1.at_ 0
  have fb11 : w2.cell? ⟨w.heap.size + 1, 1, none⟩ = some (.int .i64 d) := b1.at_ 1
  have zb1 : w.heap.size + 1 < w2.heap.size := b1.lt
  clear hb
  go_wp2_with fail
  generalize hW : w2.alloc _ = V2
  obtain ⟨hb, bm⟩ := boxA hW
  replace b0 := b0.below' hb
  replace b1 := b1.below' hb
  replace B := B.trans (hb.mono B.size)
  clear fb00 fb01 zb0 fb10 fb11 zb1
  generalize w2.heap.size = gbm at *
  have fb00 : V2.cell? ⟨w.heap.size, 0, none⟩ = some (.int .i64 a) := b0.at_ 0
  have fb01 : V2.cell? ⟨w.heap.size, 1, none⟩ = some (.int .i64 b) := b0.at_ 1
  have zb0 : w.heap.size < V2.heap.size := b0.lt
  have fb10 : V2.cell? ⟨w.heap.size + 1, 0, none⟩ = some (.int .i64 c) := b1.at_ 0
  have fb11 : V2.cell? ⟨w.heap.size + 1, 1, none⟩ = some (.int .i64 d) := b1.at_ 1
  have zb1 : w.heap.size + 1 < V2.heap.size := b1.lt
  have fbm0 : V2.cell? ⟨gbm, 0, none⟩ = some (.int .i64 0) := bm.at_ 0
  have fbm1 : V2.cell? ⟨gbm, 1, none⟩ = some (.int .i64 0) := bm.at_ 1
  have zbm : gbm < V2.heap.size := bm.lt
  clear hW hb
  go_wp2_with fail
  refine (rmeet_one _ _ _ _ _ H1.out).mono ?_
  rintro e w3 ⟨rfl, hb⟩
  replace b0 := b0.below' hb
  replace b1 := b1.below' hb
  replace bm := bm.below' hb
  replace B := B.trans (hb.mono B.size)
  clear fb00 fb01 zb0 fb10 fb11 zb1 fbm0 fbm1 zbm
  have fb00 : w3.cell? ⟨w.heap.size, 0, none⟩ = some (.int .i64 a) := b0.at_ 0
  have fb01 : w3.cell? ⟨w.heap.size, 1, none⟩ = some (.int .i64 b) := b0.at_ 1
  have zb0 : w.heap.size < w3.heap.size := b0.lt
  have fb10 : w3.cell? ⟨w.heap.size + 1, 0, none⟩ = some (.int .i64 c) := b1.at_ 0
  have fb11 : w3.cell? ⟨w.heap.size + 1, 1, none⟩ = some (.int .i64 d) := b1.at_ 1
  have zb1 : w.heap.size + 1 < w3.heap.size := b1.lt
  have fbm0 : w3.cell? ⟨gbm, 0, none⟩ = some (.int .i64 0) := bm.at_ 0
  have fbm1 : w3.cell? ⟨gbm, 1, none⟩ = some (.int .i64 0) := bm.at_ 1
  have zbm : gbm < w3.heap.size := bm.lt
  clear hb
  go_wp2_with fail
  generalize hW : w3.alloc _ = V3
  obtain ⟨hb, bn⟩ := boxA hW
  replace b0 := b0.below' hb
  replace b1 := b1.below' hb
  replace bm := bm.below' hb
  replace B := B.trans (hb.mono B.size)
  clear fb00 fb01 zb0 fb10 fb11 zb1 fbm0 fbm1 zbm
  generalize w3.heap.size = gbn at *
  have fb00 : V3.cell? ⟨w.heap.size, 0, none⟩ = some (.int .i64 a) := b0.at_ 0
  have fb01 : V3.cell? ⟨w.heap.size, 1, none⟩ = some (.int .i64 b) := b0.at_ 1
  have zb0 : w.heap.size < V3.heap.size := b0.lt
  have fb10 : V3.cell? ⟨w.heap.size + 1, 0, none⟩ = some (.int .i64 c) := b1.at_ 0
  have fb11 : V3.cell? ⟨w.heap.size + 1, 1, none⟩ = some (.int .i64 d) := b1.at_ 1
  have zb1 : w.heap.size + 1 < V3.heap.size := b1.lt
  have fbm0 : V3.cell? ⟨gbm, 0, none⟩ = some (.int .i64 0) := bm.at_ 0
  have fbm1 : V3.cell? ⟨gbm, 1, none⟩ = some (.int .i64 0) := bm.at_ 1
  have zbm : gbm < V3.heap.size := bm.lt
  have fbn0 : V3.cell? ⟨gbn, 0, none⟩ = some (.int .i64 0) := bn.at_ 0
  have fbn1 : V3.cell? ⟨gbn, 1, none⟩ = some (.int .i64 0) := bn.at_ 1
  have zbn : gbn < V3.heap.size := bn.lt
  clear hW hb
  go_wp2_with fail
  refine (hull_one _ _ _ _ _ H1.out).mono ?_
  rintro e w4 ⟨rfl, hb⟩
  replace b0 := b0.below' hb
  replace b1 := b1.below' hb
  replace bm := bm.below' hb
  replace bn := bn.below' hb
  replace B := B.trans (hb.mono B.size)
  clear fb00 fb01 zb0 fb10 fb11 zb1 fbm0 fbm1 zbm fbn0 fbn1 zbn
  have fb00 : w4.cell? ⟨w.heap.size, 0, none⟩ = some (.int .i64 a) := b0.at_ 0
  have fb01 : w4.cell? ⟨w.heap.size, 1, none⟩ = some (.int .i64 b) := b0.at_ 1
  have zb0 : w.heap.size < w4.heap.size := b0.lt
  have fb10 : w4.cell? ⟨w.heap.size + 1, 0, none⟩ = some (.int .i64 c) := b1.at_ 0
  have fb11 : w4.cell? ⟨w.heap.size + 1, 1, none⟩ = some (.int .i64 d) := b1.at_ 1
  have zb1 : w.heap.size + 1 < w4.heap.size := b1.lt
  have fbm0 : w4.cell? ⟨gbm, 0, none⟩ = some (.int .i64 0) := bm.at_ 0
  have fbm1 : w4.cell? ⟨gbm, 1, none⟩ = some (.int .i64 0) := bm.at_ 1
  have zbm : gbm < w4.heap.size := bm.lt
  have fbn0 : w4.cell? ⟨gbn, 0, none⟩ = some (.int .i64 0) := bn.at_ 0
  have fbn1 : w4.cell? ⟨gbn, 1, none⟩ = some (.int .i64 0) := bn.at_ 1
  have zbn : gbn < w4.heap.size := bn.lt
  clear hb
  go_wp2_with fail
  generalize hW : w4.alloc _ = V4
  obtain ⟨hb, bh⟩ := boxA hW
  replace b0 := b0.below' hb
  replace b1 := b1.below' hb
  replace bm := bm.below' hb
  replace bn := bn.below' hb
  replace B := B.trans (hb.mono B.size)
  clear fb00 fb01 zb0 fb10 fb11 zb1 fbm0 fbm1 zbm fbn0 fbn1 zbn
  generalize w4.heap.size = gbh at *
  have fb00 : V4.cell? ⟨w.heap.size, 0, none⟩ = some (.int .i64 a) := b0.at_ 0
  have fb01 : V4.cell? ⟨w.heap.size, 1, none⟩ = some (.int .i64 b) := b0.at_ 1
  have zb0 : w.heap.size < V4.heap.size := b0.lt
  have fb10 : V4.cell? ⟨w.heap.size + 1, 0, none⟩ = some (.int .i64 c) := b1.at_ 0
  have fb11 : V4.cell? ⟨w.heap.size + 1, 1, none⟩ = some (.int .i64 d) := b1.at_ 1
  have zb1 : w.heap.size + 1 < V4.heap.size := b1.lt
  have fbm0 : V4.cell? ⟨gbm, 0, none⟩ = some (.int .i64 0) := bm.at_ 0
  have fbm1 : V4.cell? ⟨gbm, 1, none⟩ = some (.int .i64 0) := bm.at_ 1
  have zbm : gbm < V4.heap.size := bm.lt
  have fbn0 : V4.cell? ⟨gbn, 0, none⟩ = some (.int .i64 0) := bn.at_ 0
  have fbn1 : V4.cell? ⟨gbn, 1, none⟩ = some (.int .i64 0) := bn.at_ 1
  have zbn : gbn < V4.heap.size := bn.lt
  have fbh0 : V4.cell? ⟨gbh, 0, none⟩ = some (.int .i64 0) := bh.at_ 0
  have fbh1 : V4.cell? ⟨gbh, 1, none⟩ = some (.int .i64 0) := bh.at_ 1
  have zbh : gbh < V4.heap.size := bh.lt
  clear hW hb
  go_wp2_with fail
  refine (rhull_one _ _ _ _ _ H1.out).mono ?_
  rintro e w5 ⟨rfl, hb⟩
  replace b0 := b0.below' hb
  replace b1 := b1.below' hb
  replace bm := bm.below' hb
  replace bn := bn.below' hb
  replace bh := bh.below' hb
  replace B := B.trans (hb.mono B.size)
  clear fb00 fb01 zb0 fb10 fb11 zb1 fbm0 fbm1 zbm fbn0 fbn1 zbn fbh0 fbh1 zbh
  have fb00 : w5.cell? ⟨w.heap.size, 0, none⟩ = some (.int .i64 a) := b0.at_ 0
  have fb01 : w5.cell? ⟨w.heap.size, 1, none⟩ = some (.int .i64 b) := b0.at_ 1
  have zb0 : w.heap.size < w5.heap.size := b0.lt
  have fb10 : w5.cell? ⟨w.heap.size + 1, 0, none⟩ = some (.int .i64 c) := b1.at_ 0
  have fb11 : w5.cell? ⟨w.heap.size + 1, 1, none⟩ = some (.int .i64 d) := b1.at_ 1
  have zb1 : w.heap.size + 1 < w5.heap.size := b1.lt
  have fbm0 : w5.cell? ⟨gbm, 0, none⟩ = some (.int .i64 0) := bm.at_ 0
  have fbm1 : w5.cell? ⟨gbm, 1, none⟩ = some (.int .i64 0) := bm.at_ 1
  have zbm : gbm < w5.heap.size := bm.lt
  have fbn0 : w5.cell? ⟨gbn, 0, none⟩ = some (.int .i64 0) := bn.at_ 0
  have fbn1 : w5.cell? ⟨gbn, 1, none⟩ = some (.int .i64 0) := bn.at_ 1
  have zbn : gbn < w5.heap.size := bn.lt
  have fbh0 : w5.cell? ⟨gbh, 0, none⟩ = some (.int .i64 0) := bh.at_ 0
  have fbh1 : w5.cell? ⟨gbh, 1, none⟩ = some (.int .i64 0) := bh.at_ 1
  have zbh : gbh < w5.heap.size := bh.lt
  clear hb
  go_wp2_with fail
  generalize hW : w5.alloc _ = V5
  obtain ⟨hb, bg⟩ := boxA hW
  replace b0 := b0.below' hb
  replace b1 := b1.below' hb
  replace bm := bm.below' hb
  replace bn := bn.below' hb
  replace bh := bh.below' hb
  replace B := B.trans (hb.mono B.size)
  clear fb00 fb01 zb0 fb10 fb11 zb1 fbm0 fbm1 zbm fbn0 fbn1 zbn fbh0 fbh1 zbh
  generalize w5.heap.size = gbg at *
  have fb00 : V5.cell? ⟨w.heap.size, 0, none⟩ = some (.int .i64 a) := b0.at_ 0
  have fb01 : V5.cell? ⟨w.heap.size, 1, none⟩ = some (.int .i64 b) := b0.at_ 1
  have zb0 : w.heap.size < V5.heap.size := b0.lt
  have fb10 : V5.cell? ⟨w.heap.size + 1, 0, none⟩ = some (.int .i64 c) := b1.at_ 0
  have fb11 : V5.cell? ⟨w.heap.size + 1, 1, none⟩ = some (.int .i64 d) := b1.at_ 1
  have zb1 : w.heap.size + 1 < V5.heap.size := b1.lt
  have fbm0 : V5.cell? ⟨gbm, 0, none⟩ = some (.int .i64 0) := bm.at_ 0
  have fbm1 : V5.cell? ⟨gbm, 1, none⟩ = some (.int .i64 0) := bm.at_ 1
  have zbm : gbm < V5.heap.size := bm.lt
  have fbn0 : V5.cell? ⟨gbn, 0, none⟩ = some (.int .i64 0) := bn.at_ 0
  have fbn1 : V5.cell? ⟨gbn, 1, none⟩ = some (.int .i64 0) := bn.at_ 1
  have zbn : gbn < V5.heap.size := bn.lt
  have fbh0 : V5.cell? ⟨gbh, 0, none⟩ = some (.int .i64 0) := bh.at_ 0
  have fbh1 : V5.cell? ⟨gbh, 1, none⟩ = some (.int .i64 0) := bh.at_ 1
  have zbh : gbh < V5.heap.size := bh.lt
  have fbg0 : V5.cell? ⟨gbg, 0, none⟩ = some (.int .i64 0) := bg.at_ 0
  have fbg1 : V5.cell? ⟨gbg, 1, none⟩ = some (.int .i64 0) := bg.at_ 1
  have zbg : gbg < V5.heap.size := bg.lt
  clear hW hb
  go_wp2_with fail
  have KS : Hid (∀ w', Below V5.heap.size V5 w' → w'.cell? ⟨w.heap.size, 0, none⟩ = some (.int .i64 a) ∧ w'.cell? ⟨w.heap.size, 1, none⟩ = some (.int .i64 b) ∧ w'.cell? ⟨gbm, 0, none⟩ = some (.int .i64 0) ∧ w'.cell? ⟨gbm, 1, none⟩ = some (.int .i64 0) ∧ w'.cell? ⟨gbn, 0, none⟩ = some (.int .i64 0) ∧ w'.cell? ⟨gbn, 1, none⟩ = some (.int .i64 0) ∧ w'.cell? ⟨gbh, 0, none⟩ = some (.int .i64 0) ∧ w'.cell? ⟨gbh, 1, none⟩ = some (.int .i64 0) ∧ w'.cell? ⟨gbg, 0, none⟩ = some (.int .i64 0) ∧ w'.cell? ⟨gbg, 1, none⟩ = some (.int .i64 0)) := fun w' h => ⟨(b0.below' h).at_ 0, (b0.below' h).at_ 1, (bm.below' h).at_ 0, (bm.below' h).at_ 1, (bn.below' h).at_ 0, (bn.below' h).at_ 1, (bh.below' h).at_ 0, (bh.below' h).at_ 1, (bg.below' h).at_ 0, (bg.below' h).at_ 1⟩
  have P0 : Below V5.heap.size V5 V5.drew := (Below.refl _ _).drew
  go_region_held3 (fun w' => w'.cell? ⟨w.heap.size, 0, none⟩ = some (.int .i64 a) ∧ w'.cell? ⟨w.heap.size, 1, none⟩ = some (.int .i64 b) ∧ w'.cell? ⟨gbm, 0, none⟩ = some (.int .i64 0) ∧ w'.cell? ⟨gbm, 1, none⟩ = some (.int .i64 0) ∧ w'.cell? ⟨gbn, 0, none⟩ = some (.int .i64 0) ∧ w'.cell? ⟨gbn, 1, none⟩ = some (.int .i64 0) ∧ w'.cell? ⟨gbh, 0, none⟩ = some (.int .i64 0) ∧ w'.cell? ⟨gbh, 1, none⟩ = some (.int .i64 0) ∧ w'.cell? ⟨gbg, 0, none⟩ = some (.int .i64 0) ∧ w'.cell? ⟨gbg, 1, none⟩ = some (.int .i64 0))
    (first | with_reducible exact KS.out _ E4 | with_reducible exact KS.out _ E3 | with_reducible exact KS.out _ E2 | with_reducible exact KS.out _ E1 | with_reducible exact KS.out _ P0 | with_reducible exact KS.out _ (Below.refl _ _))
    (first
      | (go_at_call 17; (with_reducible refine (valid_any a b _ false H1.out).mono ?_); rintro e u1 ⟨rfl, hx1⟩; have E1 : Below V5.heap.size V5 u1 := (by first | with_reducible exact E4.trans (hx1.mono E4.size) | with_reducible exact E3.trans (hx1.mono E3.size) | with_reducible exact E2.trans (hx1.mono E2.size) | with_reducible exact P0.trans (hx1.mono P0.size)))
      | (go_at_call 18; (with_reducible refine (rvalid_any a b _ false H1.out).mono ?_); rintro e u2 ⟨rfl, hx2⟩; have E2 : Below V5.heap.size V5 u2 := (by first | with_reducible exact E4.trans (hx2.mono E4.size) | with_reducible exact E3.trans (hx2.mono E3.size) | with_reducible exact E1.trans (hx2.mono E1.size) | with_reducible exact P0.trans (hx2.mono P0.size)))
      | (go_at_call 19; (with_reducible refine (length_any _ _ _ false H1.out).mono ?_); rintro e u3 ⟨rfl, hx3⟩; have E3 : Below V5.heap.size V5 u3 := (by first | with_reducible exact E4.trans (hx3.mono E4.size) | with_reducible exact E2.trans (hx3.mono E2.size) | with_reducible exact E1.trans (hx3.mono E1.size) | with_reducible exact P0.trans (hx3.mono P0.size)))
      | (go_at_call 20; (with_reducible refine (rlength_any _ _ _ false H1.out).mono ?_); rintro e u4 ⟨rfl, hx4⟩; have E4 : Below V5.heap.size V5 u4 := (by first | with_reducible exact E3.trans (hx4.mono E3.size) | with_reducible exact E2.trans (hx4.mono E2.size) | with_reducible exact E1.trans (hx4.mono E1.size) | with_reducible exact P0.trans (hx4.mono P0.size))))
  all_goals
    go_wp2_with fail
    go_ret
    exact ⟨rfl, by first | with_reducible exact B.trans (E4.mono B.size) | with_reducible exact B.trans (E3.mono B.size) | with_reducible exact B.trans (E2.mono B.size) | with_reducible exact B.trans (E1.mono B.size)⟩
set_option maxHeartbeats 4000000 in
set_option maxRecDepth 100000 in
theorem match_2 (a b c d : Int) (w : World) (hT : Lw w) (h1 : yB a b = true) (h2 : yB c d = false) :
    Calls Tryd.prog 3 #[.agg #[.int .i64 a, .int .i64 b], .agg #[.int .i64 c, .int .i64 d]] w fun e w' => e = .returned (.bool true) ∧ Below w.heap.size w w' := by
  have HT := hide hT
  have LL := hide (fun W => length_v a b W h1 _ rfl)
  have LR := hide (fun W => rlength_v a b W h1 _ rfl)
  generalize b - a + 1 = n at *
  have H1 := hide h1
  have H2 := hide h2
  clear hT h1 h2
  go_enter Tryd.func3, Tryd.ntmps3
  go_wp2_with fail
  generalize hW : (w.alloc _).alloc _ = W
  obtain ⟨B, b0, b1⟩ := boxesA2 hW
  clear hW
  refine (awake_yes _ (HT.out.below B)).mono ?_
  rintro e w1 ⟨rfl, hb⟩
  replace b0 := b0.below' hb
  replace b1 := b1.below' hb
  replace B := B.trans (hb.mono B.size)
  have fb00 : w1.cell? ⟨w.heap.size, 0, none⟩ = some (.int .i64 a) := b0.at_ 0
  have fb01 : w1.cell? ⟨w.heap.size, 1, none⟩ = some (.int .i64 b) := b0.at_ 1
  have zb0 : w.heap.size < w1.heap.size := b0.lt
  have fb10 : w1.cell? ⟨w.heap.size + 1, 0, none⟩ = some (.int .i64 c) := b1.at_ 0
  have fb11 : w1.cell? ⟨w.heap.size + 1, 1, none⟩ = some (.int .i64 d) := b1.at_ 1
  have zb1 : w.heap.size + 1 < w1.heap.size := b1.lt
  clear hb
  go_wp2_with fail
  refine (meet_two _ _ _ _ _ H1.out H2.out).mono ?_
  rintro e w2 ⟨rfl, hb⟩
  replace b0 := b0.below' hb
  replace b1 := b1.below' hb
  replace B := B.trans (hb.mono B.size)
  clear fb00 fb01 zb0 fb10 fb11 zb1
  have fb00 : w2.cell? ⟨w.heap.size, 0, none⟩ = some (.int .i64 a) := b0.at_ 0
  have fb01 : w2.cell? ⟨w.heap.size, 1, none⟩ = some (.int .i64 b) := b0.at_ 1
  have zb0 : w.heap.size < w2.heap.size := b0.lt
  have fb10 : w2.cell? ⟨w.heap.size + 1, 0, none⟩ = some (.int .i64 c) := b1.at_ 0
  have fb11 : w2.cell? ⟨w.heap.size + 1, 1, none⟩ = some (.int .i64 d) := b1.at_ 1
  have zb1 : w.heap.size + 1 < w2.heap.size := b1.lt
  clear hb
  go_wp2_with fail
  generalize hW : w2.alloc _ = V2
  obtain ⟨hb, bm⟩ := boxA hW
  replace b0 := b0.below' hb
  replace b1 := b1.below' hb
  replace B := B.trans (hb.mono B.size)
  clear fb00 fb01 zb0 fb10 fb11 zb1
  generalize w2.heap.size = gbm at *
  have fb00 : V2.cell? ⟨w.heap.size, 0, none⟩ = some (.int .i64 a) := b0.at_ 0
  have fb01 : V2.cell? ⟨w.heap.size, 1, none⟩ = some (.int .i64 b) := b0.at_ 1
  have zb0 : w.heap.size < V2.heap.size := b0.lt
  have fb10 : V2.cell? ⟨w.heap.size + 1, 0, none⟩ = some (.int .i64 c) := b1.at_ 0
  have fb11 : V2.cell? ⟨w.heap.size + 1, 1, none⟩ = some (.int .i64 d) := b1.at_ 1
  have zb1 : w.heap.size + 1 < V2.heap.size := b1.lt
  have fbm0 : V2.cell? ⟨gbm, 0, none⟩ = some (.int .i64 0) := bm.at_ 0
  have fbm1 : V2.cell? ⟨gbm, 1, none⟩ = some (.int .i64 0) := bm.at_ 1
  have zbm : gbm < V2.heap.size := bm.lt
  clear hW hb
  go_wp2_with fail
  refine (rmeet_two _ _ _ _ _ H1.out H2.out).mono ?_
  rintro e w3 ⟨rfl, hb⟩
  replace b0 := b0.below' hb
  replace b1 := b1.below' hb
  replace bm := bm.below' hb
  replace B := B.trans (hb.mono B.size)
  clear fb00 fb01 zb0 fb10 fb11 zb1 fbm0 fbm1 zbm
  have fb00 : w3.cell? ⟨w.heap.size, 0, none⟩ = some (.int .i64 a) := b0.at_ 0
  have fb01 : w3.cell? ⟨w.heap.size, 1, none⟩ = some (.int .i64 b) := b0.at_ 1
  have zb0 : w.heap.size < w3.heap.size := b0.lt
  have fb10 : w3.cell? ⟨w.heap.size + 1, 0, none⟩ = some (.int .i64 c) := b1.at_ 0
  have fb11 : w3.cell? ⟨w.heap.size + 1, 1, none⟩ = some (.int .i64 d) := b1.at_ 1
  have zb1 : w.heap.size + 1 < w3.heap.size := b1.lt
  have fbm0 : w3.cell? ⟨gbm, 0, none⟩ = some (.int .i64 0) := bm.at_ 0
  have fbm1 : w3.cell? ⟨gbm, 1, none⟩ = some (.int .i64 0) := bm.at_ 1
  have zbm : gbm < w3.heap.size := bm.lt
  clear hb
  go_wp2_with fail
  generalize hW : w3.alloc _ = V3
  obtain ⟨hb, bn⟩ := boxA hW
  replace b0 := b0.below' hb
  replace b1 := b1.below' hb
  replace bm := bm.below' hb
  replace B := B.trans (hb.mono B.size)
  clear fb00 fb01 zb0 fb10 fb11 zb1 fbm0 fbm1 zbm
  generalize w3.heap.size = gbn at *
  have fb00 : V3.cell? ⟨w.heap.size, 0, none⟩ = some (.int .i64 a) := b0.at_ 0
  have fb01 : V3.cell? ⟨w.heap.size, 1, none⟩ = some (.int .i64 b) := b0.at_ 1
  have zb0 : w.heap.size < V3.heap.size := b0.lt
  have fb10 : V3.cell? ⟨w.heap.size + 1, 0, none⟩ = some (.int .i64 c) := b1.at_ 0
  have fb11 : V3.cell? ⟨w.heap.size + 1, 1, none⟩ = some (.int .i64 d) := b1.at_ 1
  have zb1 : w.heap.size + 1 < V3.heap.size := b1.lt
  have fbm0 : V3.cell? ⟨gbm, 0, none⟩ = some (.int .i64 0) := bm.at_ 0
  have fbm1 : V3.cell? ⟨gbm, 1, none⟩ = some (.int .i64 0) := bm.at_ 1
  have zbm : gbm < V3.heap.size := bm.lt
  have fbn0 : V3.cell? ⟨gbn, 0, none⟩ = some (.int .i64 0) := bn.at_ 0
  have fbn1 : V3.cell? ⟨gbn, 1, none⟩ = some (.int .i64 0) := bn.at_ 1
  have zbn : gbn < V3.heap.size := bn.lt
  clear hW hb
  go_wp2_with fail
  refine (hull_two _ _ _ _ _ H1.out H2.out).mono ?_
  rintro e w4 ⟨rfl, hb⟩
  replace b0 := b0.below' hb
  replace b1 := b1.below' hb
  replace bm := bm.below' hb
  replace bn := bn.below' hb
  replace B := B.trans (hb.mono B.size)
  clear fb00 fb01 zb0 fb10 fb11 zb1 fbm0 fbm1 zbm fbn0 fbn1 zbn
  have fb00 : w4.cell? ⟨w.heap.size, 0, none⟩ = some (.int .i64 a) := b0.at_ 0
  have fb01 : w4.cell? ⟨w.heap.size, 1, none⟩ = some (.int .i64 b) := b0.at_ 1
  have zb0 : w.heap.size < w4.heap.size := b0.lt
  have fb10 : w4.cell? ⟨w.heap.size + 1, 0, none⟩ = some (.int .i64 c) := b1.at_ 0
  have fb11 : w4.cell? ⟨w.heap.size + 1, 1, none⟩ = some (.int .i64 d) := b1.at_ 1
  have zb1 : w.heap.size + 1 < w4.heap.size := b1.lt
  have fbm0 : w4.cell? ⟨gbm, 0, none⟩ = some (.int .i64 0) := bm.at_ 0
  have fbm1 : w4.cell? ⟨gbm, 1, none⟩ = some (.int .i64 0) := bm.at_ 1
  have zbm : gbm < w4.heap.size := bm.lt
  have fbn0 : w4.cell? ⟨gbn, 0, none⟩ = some (.int .i64 0) := bn.at_ 0
  have fbn1 : w4.cell? ⟨gbn, 1, none⟩ = some (.int .i64 0) := bn.at_ 1
  have zbn : gbn < w4.heap.size := bn.lt
  clear hb
  go_wp2_with fail
  generalize hW : w4.alloc _ = V4
  obtain ⟨hb, bh⟩ := boxA hW
  replace b0 := b0.below' hb
  replace b1 := b1.below' hb
  replace bm := bm.below' hb
  replace bn := bn.below' hb
  replace B := B.trans (hb.mono B.size)
  clear fb00 fb01 zb0 fb10 fb11 zb1 fbm0 fbm1 zbm fbn0 fbn1 zbn
  generalize w4.heap.size = gbh at *
  have fb00 : V4.cell? ⟨w.heap.size, 0, none⟩ = some (.int .i64 a) := b0.at_ 0
  have fb01 : V4.cell? ⟨w.heap.size, 1, none⟩ = some (.int .i64 b) := b0.at_ 1
  have zb0 : w.heap.size < V4.heap.size := b0.lt
  have fb10 : V4.cell? ⟨w.heap.size + 1, 0, none⟩ = some (.int .i64 c) := b1.at_ 0
  have fb11 : V4.cell? ⟨w.heap.size + 1, 1, none⟩ = some (.int .i64 d) := b1.at_ 1
  have zb1 : w.heap.size + 1 < V4.heap.size := b1.lt
  have fbm0 : V4.cell? ⟨gbm, 0, none⟩ = some (.int .i64 0) := bm.at_ 0
  have fbm1 : V4.cell? ⟨gbm, 1, none⟩ = some (.int .i64 0) := bm.at_ 1
  have zbm : gbm < V4.heap.size := bm.lt
  have fbn0 : V4.cell? ⟨gbn, 0, none⟩ = some (.int .i64 0) := bn.at_ 0
  have fbn1 : V4.cell? ⟨gbn, 1, none⟩ = some (.int .i64 0) := bn.at_ 1
  have zbn : gbn < V4.heap.size := bn.lt
  have fbh0 : V4.cell? ⟨gbh, 0, none⟩ = some (.int .i64 0) := bh.at_ 0
  have fbh1 : V4.cell? ⟨gbh, 1, none⟩ = some (.int .i64 0) := bh.at_ 1
  have zbh : gbh < V4.heap.size := bh.lt
  clear hW hb
  go_wp2_with fail
  refine (rhull_two _ _ _ _ _ H1.out H2.out).mono ?_
  rintro e w5 ⟨rfl, hb⟩
  replace b0 := b0.below' hb
  replace b1 := b1.below' hb
  replace bm := bm.below' hb
  replace bn := bn.below' hb
  replace bh := bh.below' hb
  replace B := B.trans (hb.mono B.size)
  clear fb00 fb01 zb0 fb10 fb11 zb1 fbm0 fbm1 zbm fbn0 fbn1 zbn fbh0 fbh1 zbh
  have fb00 : w5.cell? ⟨w.heap.size, 0, none⟩ = some (.int .i64 a) := b0.at_ 0
  have fb01 : w5.cell? ⟨w.heap.size, 1, none⟩ = some (.int .i64 b) := b0.at_ 1
  have zb0 : w.heap.size < w5.heap.size := b0.lt
  have fb10 : w5.cell? ⟨w.heap.size + 1, 0, none⟩ = some (.int .i64 c) := b1.at_ 0
  have fb11 : w5.cell? ⟨w.heap.size + 1, 1, none⟩ = some (.int .i64 d) := b1.at_ 1
  have zb1 : w.heap.size + 1 < w5.heap.size := b1.lt
  have fbm0 : w5.cell? ⟨gbm, 0, none⟩ = some (.int .i64 0) := bm.at_ 0
  have fbm1 : w5.cell? ⟨gbm, 1, none⟩ = some (.int .i64 0) := bm.at_ 1
  have zbm : gbm < w5.heap.size := bm.lt
  have fbn0 : w5.cell? ⟨gbn, 0, none⟩ = some (.int .i64 0) := bn.at_ 0
  have fbn1 : w5.cell? ⟨gbn, 1, none⟩ = some (.int .i64 0) := bn.at_ 1
  have zbn : gbn < w5.heap.size := bn.lt
  have fbh0 : w5.cell? ⟨gbh, 0, none⟩ = some (.int .i64 0) := bh.at_ 0
  have fbh1 : w5.cell? ⟨gbh, 1, none⟩ = some (.int .i64 0) := bh.at_ 1
  have zbh : gbh < w5.heap.size := bh.lt
  clear hb
  go_wp2_with fail
  generalize hW : w5.alloc _ = V5
  obtain ⟨hb, bg⟩ := boxA hW
  replace b0 := b0.below' hb
  replace b1 := b1.below' hb
  replace bm := bm.below' hb
  replace bn := bn.below' hb
  replace bh := bh.below' hb
  replace B := B.trans (hb.mono B.size)
  clear fb00 fb01 zb0 fb10 fb11 zb1 fbm0 fbm1 zbm fbn0 fbn1 zbn fbh0 fbh1 zbh
  generalize w5.heap.size = gbg at *
  have fb00 : V5.cell? ⟨w.heap.size, 0, none⟩ = some (.int .i64 a) := b0.at_ 0
  have fb01 : V5.cell? ⟨w.heap.size, 1, none⟩ = some (.int .i64 b) := b0.at_ 1
  have zb0 : w.heap.size < V5.heap.size := b0.lt
  have fb10 : V5.cell? ⟨w.heap.size + 1, 0, none⟩ = some (.int .i64 c) := b1.at_ 0
  have fb11 : V5.cell? ⟨w.heap.size + 1, 1, none⟩ = some (.int .i64 d) := b1.at_ 1
  have zb1 : w.heap.size + 1 < V5.heap.size := b1.lt
  have fbm0 : V5.cell? ⟨gbm, 0, none⟩ = some (.int .i64 0) := bm.at_ 0
  have fbm1 : V5.cell? ⟨gbm, 1, none⟩ = some (.int .i64 0) := bm.at_ 1
  have zbm : gbm < V5.heap.size := bm.lt
  have fbn0 : V5.cell? ⟨gbn, 0, none⟩ = some (.int .i64 0) := bn.at_ 0
  have fbn1 : V5.cell? ⟨gbn, 1, none⟩ = some (.int .i64 0) := bn.at_ 1
  have zbn : gbn < V5.heap.size := bn.lt
  have fbh0 : V5.cell? ⟨gbh, 0, none⟩ = some (.int .i64 0) := bh.at_ 0
  have fbh1 : V5.cell? ⟨gbh, 1, none⟩ = some (.int .i64 0) := bh.at_ 1
  have zbh : gbh < V5.heap.size := bh.lt
  have fbg0 : V5.cell? ⟨gbg, 0, none⟩ = some (.int .i64 0) := bg.at_ 0
  have fbg1 : V5.cell? ⟨gbg, 1, none⟩ = some (.int .i64 0) := bg.at_ 1
  have zbg : gbg < V5.heap.size := bg.lt
  clear hW hb
  go_wp2_with fail
  have KS : Hid (∀ w', Below V5.heap.size V5 w' → w'.cell? ⟨w.heap.size, 0, none⟩ = some (.int .i64 a) ∧ w'.cell? ⟨w.heap.size, 1, none⟩ = some (.int .i64 b) ∧ w'.cell? ⟨gbm, 0, none⟩ = some (.int .i64 0) ∧ w'.cell? ⟨gbm, 1, none⟩ = some (.int .i64 0) ∧ w'.cell? ⟨gbn, 0, none⟩ = some (.int .i64 0) ∧ w'.cell? ⟨gbn, 1, none⟩ = some (.int .i64 0) ∧ w'.cell? ⟨gbh, 0, none⟩ = some (.int .i64 0) ∧ w'.cell? ⟨gbh, 1, none⟩ = some (.int .i64 0) ∧ w'.cell? ⟨gbg, 0, none⟩ = some (.int .i64 0) ∧ w'.cell? ⟨gbg, 1, none⟩ = some (.int .i64 0)) := fun w' h => ⟨(b0.below' h).at_ 0, (b0.below' h).at_ 1, (bm.below' h).at_ 0, (bm.below' h).at_ 1, (bn.below' h).at_ 0, (bn.below' h).at_ 1, (bh.below' h).at_ 0, (bh.below' h).at_ 1, (bg.below' h).at_ 0, (bg.below' h).at_ 1⟩
  have P0 : Below V5.heap.size V5 V5.drew := (Below.refl _ _).drew
  go_region_held3 (fun w' => w'.cell? ⟨w.heap.size, 0, none⟩ = some (.int .i64 a) ∧ w'.cell? ⟨w.heap.size, 1, none⟩ = some (.int .i64 b) ∧ w'.cell? ⟨gbm, 0, none⟩ = some (.int .i64 0) ∧ w'.cell? ⟨gbm, 1, none⟩ = some (.int .i64 0) ∧ w'.cell? ⟨gbn, 0, none⟩ = some (.int .i64 0) ∧ w'.cell? ⟨gbn, 1, none⟩ = some (.int .i64 0) ∧ w'.cell? ⟨gbh, 0, none⟩ = some (.int .i64 0) ∧ w'.cell? ⟨gbh, 1, none⟩ = some (.int .i64 0) ∧ w'.cell? ⟨gbg, 0, none⟩ = some (.int .i64 0) ∧ w'.cell? ⟨gbg, 1, none⟩ = some (.int .i64 0))
    (first | with_reducible exact KS.out _ E4 | with_reducible exact KS.out _ E3 | with_reducible exact KS.out _ E2 | with_reducible exact KS.out _ E1 | with_reducible exact KS.out _ P0 | with_reducible exact KS.out _ (Below.refl _ _))
    (first
      | (go_at_call 17; (with_reducible refine (valid_any a b _ true H1.out).mono ?_); rintro e u1 ⟨rfl, hx1⟩; have E1 : Below V5.heap.size V5 u1 := (by first | with_reducible exact E4.trans (hx1.mono E4.size) | with_reducible exact E3.trans (hx1.mono E3.size) | with_reducible exact E2.trans (hx1.mono E2.size) | with_reducible exact P0.trans (hx1.mono P0.size)))
      | (go_at_call 18; (with_reducible refine (rvalid_any a b _ true H1.out).mono ?_); rintro e u2 ⟨rfl, hx2⟩; have E2 : Below V5.heap.size V5 u2 := (by first | with_reducible exact E4.trans (hx2.mono E4.size) | with_reducible exact E3.trans (hx2.mono E3.size) | with_reducible exact E1.trans (hx2.mono E1.size) | with_reducible exact P0.trans (hx2.mono P0.size)))
      | (go_at_call 19; (with_reducible refine (LL.out _).mono ?_); rintro e u3 ⟨rfl, hx3⟩; have E3 : Below V5.heap.size V5 u3 := (by first | with_reducible exact E4.trans (hx3.mono E4.size) | with_reducible exact E2.trans (hx3.mono E2.size) | with_reducible exact E1.trans (hx3.mono E1.size) | with_reducible exact P0.trans (hx3.mono P0.size)))
      | (go_at_call 20; (with_reducible refine (LR.out _).mono ?_); rintro e u4 ⟨rfl, hx4⟩; have E4 : Below V5.heap.size V5 u4 := (by first | with_reducible exact E3.trans (hx4.mono E3.size) | with_reducible exact E2.trans (hx4.mono E2.size) | with_reducible exact E1.trans (hx4.mono E1.size) | with_reducible exact P0.trans (hx4.mono P0.size))))
  all_goals
    go_wp2_with fail
    go_ret
    exact ⟨rfl, by first | with_reducible exact B.trans (E4.mono B.size) | with_reducible exact B.trans (E3.mono B.size) | with_reducible exact B.trans (E2.mono B.size) | with_reducible exact B.trans (E1.mono B.size)⟩
set_option maxHeartbeats 4000000 in
set_option maxRecDepth 100000 in
theorem match_3 (a b c d : Int) (w : World) (hT : Lw w) (h1 : yB a b = true) (h2 : yB c d = true) (h3 : max a c ≤ min b d) :
    Calls Tryd.prog 3 #[.agg #[.int .i64 a, .int .i64 b], .agg #[.int .i64 c, .int .i64 d]] w fun e w' => e = .returned (.bool true) ∧ Below w.heap.size w w' := by
  have HT := hide hT
  have LL := hide (fun W => length_v a b W h1 _ rfl)
  have LR := hide (fun W => rlength_v a b W h1 _ rfl)
  generalize b - a + 1 = n at *
  have QH := hide (fun W => hullY_v a b c d W h1 h2 _ _ rfl rfl)
  have RH := hide (fun W => rhullY_v a b c d W h1 h2 _ _ rfl rfl)
  generalize min a c = u at *
  generalize max b d = v at *
  have MM := hide (fun W => meetY_v a b c d W h1 h2 _ _ rfl rfl h3)
  have MR := hide (fun W => rmeetY_v a b c d W h1 h2 _ _ rfl rfl h3)
  generalize max a c = x at *
  generalize min b d = y at *
  clear h3
  have H1 := hide h1
  have H2 := hide h2
  clear hT h1 h2
  go_enter Tryd.func3, Tryd.ntmps3
  go_wp2_with fail
  generalize hW : (w.alloc _).alloc _ = W
  obtain ⟨B, b0, b1⟩ := boxesA2 hW
  clear hW
  refine (awake_yes _ (HT.out.below B)).mono ?_
  rintro e w1 ⟨rfl, hb⟩
  replace b0 := b0.below' hb
  replace b1 := b1.below' hb
  replace B := B.trans (hb.mono B.size)
  have fb00 : w1.cell? ⟨w.heap.size, 0, none⟩ = some (.int .i64 a) := b0.at_ 0
  have fb01 : w1.cell? ⟨w.heap.size, 1, none⟩ = some (.int .i64 b) := b0.at_ 1
  have zb0 : w.heap.size < w1.heap.size := b0.lt
  have fb10 : w1.cell? ⟨w.heap.size + 1, 0, none⟩ = some (.int .i64 c) := b1.at_ 0
  have fb11 : w1.cell? ⟨w.heap.size + 1, 1, none⟩ = some (.int .i64 d) := b1.at_ 1
  have zb1 : w.heap.size + 1 < w1.heap.size := b1.lt
  clear hb
  go_wp2_with fail
  refine (MM.out _).mono ?_
  rintro e w2 ⟨rfl, hb⟩
  replace b0 := b0.below' hb
  replace b1 := b1.below' hb
  replace B := B.trans (hb.mono B.size)
  clear fb00 fb01 zb0 fb10 fb11 zb1
  have fb00 : w2.cell? ⟨w.heap.size, 0, none⟩ = some (.int .i64 a) := b0.at_ 0
  have fb01 : w2.cell? ⟨w.heap.size, 1, none⟩ = some (.int .i64 b) := b0.at_ 1
  have zb0 : w.heap.size < w2.heap.size := b0.lt
  have fb10 : w2.cell? ⟨w.heap.size + 1, 0, none⟩ = some (.int .i64 c) := b1.at_ 0
  have fb11 : w2.cell? ⟨w.heap.size + 1, 1, none⟩ = some (.int .i64 d) := b1.at_ 1
  have zb1 : w.heap.size + 1 < w2.heap.size := b1.lt
  clear hb
  go_wp2_with fail
  generalize hW : w2.alloc _ = V2
  obtain ⟨hb, bm⟩ := boxA hW
  replace b0 := b0.below' hb
  replace b1 := b1.below' hb
  replace B := B.trans (hb.mono B.size)
  clear fb00 fb01 zb0 fb10 fb11 zb1
  generalize w2.heap.size = gbm at *
  have fb00 : V2.cell? ⟨w.heap.size, 0, none⟩ = some (.int .i64 a) := b0.at_ 0
  have fb01 : V2.cell? ⟨w.heap.size, 1, none⟩ = some (.int .i64 b) := b0.at_ 1
  have zb0 : w.heap.size < V2.heap.size := b0.lt
  have fb10 : V2.cell? ⟨w.heap.size + 1, 0, none⟩ = some (.int .i64 c) := b1.at_ 0
  have fb11 : V2.cell? ⟨w.heap.size + 1, 1, none⟩ = some (.int .i64 d) := b1.at_ 1
  have zb1 : w.heap.size + 1 < V2.heap.size := b1.lt
  have fbm0 : V2.cell? ⟨gbm, 0, none⟩ = some (.int .i64 x) := bm.at_ 0
  have fbm1 : V2.cell? ⟨gbm, 1, none⟩ = some (.int .i64 y) := bm.at_ 1
  have zbm : gbm < V2.heap.size := bm.lt
  clear hW hb
  go_wp2_with fail
  refine (MR.out _).mono ?_
  rintro e w3 ⟨rfl, hb⟩
  replace b0 := b0.below' hb
  replace b1 := b1.below' hb
  replace bm := bm.below' hb
  replace B := B.trans (hb.mono B.size)
  clear fb00 fb01 zb0 fb10 fb11 zb1 fbm0 fbm1 zbm
  have fb00 : w3.cell? ⟨w.heap.size, 0, none⟩ = some (.int .i64 a) := b0.at_ 0
  have fb01 : w3.cell? ⟨w.heap.size, 1, none⟩ = some (.int .i64 b) := b0.at_ 1
  have zb0 : w.heap.size < w3.heap.size := b0.lt
  have fb10 : w3.cell? ⟨w.heap.size + 1, 0, none⟩ = some (.int .i64 c) := b1.at_ 0
  have fb11 : w3.cell? ⟨w.heap.size + 1, 1, none⟩ = some (.int .i64 d) := b1.at_ 1
  have zb1 : w.heap.size + 1 < w3.heap.size := b1.lt
  have fbm0 : w3.cell? ⟨gbm, 0, none⟩ = some (.int .i64 x) := bm.at_ 0
  have fbm1 : w3.cell? ⟨gbm, 1, none⟩ = some (.int .i64 y) := bm.at_ 1
  have zbm : gbm < w3.heap.size := bm.lt
  clear hb
  go_wp2_with fail
  generalize hW : w3.alloc _ = V3
  obtain ⟨hb, bn⟩ := boxA hW
  replace b0 := b0.below' hb
  replace b1 := b1.below' hb
  replace bm := bm.below' hb
  replace B := B.trans (hb.mono B.size)
  clear fb00 fb01 zb0 fb10 fb11 zb1 fbm0 fbm1 zbm
  generalize w3.heap.size = gbn at *
  have fb00 : V3.cell? ⟨w.heap.size, 0, none⟩ = some (.int .i64 a) := b0.at_ 0
  have fb01 : V3.cell? ⟨w.heap.size, 1, none⟩ = some (.int .i64 b) := b0.at_ 1
  have zb0 : w.heap.size < V3.heap.size := b0.lt
  have fb10 : V3.cell? ⟨w.heap.size + 1, 0, none⟩ = some (.int .i64 c) := b1.at_ 0
  have fb11 : V3.cell? ⟨w.heap.size + 1, 1, none⟩ = some (.int .i64 d) := b1.at_ 1
  have zb1 : w.heap.size + 1 < V3.heap.size := b1.lt
  have fbm0 : V3.cell? ⟨gbm, 0, none⟩ = some (.int .i64 x) := bm.at_ 0
  have fbm1 : V3.cell? ⟨gbm, 1, none⟩ = some (.int .i64 y) := bm.at_ 1
  have zbm : gbm < V3.heap.size := bm.lt
  have fbn0 : V3.cell? ⟨gbn, 0, none⟩ = some (.int .i64 x) := bn.at_ 0
  have fbn1 : V3.cell? ⟨gbn, 1, none⟩ = some (.int .i64 y) := bn.at_ 1
  have zbn : gbn < V3.heap.size := bn.lt
  clear hW hb
  go_wp2_with fail
  refine (QH.out _).mono ?_
  rintro e w4 ⟨rfl, hb⟩
  replace b0 := b0.below' hb
  replace b1 := b1.below' hb
  replace bm := bm.below' hb
  replace bn := bn.below' hb
  replace B := B.trans (hb.mono B.size)
  clear fb00 fb01 zb0 fb10 fb11 zb1 fbm0 fbm1 zbm fbn0 fbn1 zbn
  have fb00 : w4.cell? ⟨w.heap.size, 0, none⟩ = some (.int .i64 a) := b0.at_ 0
  have fb01 : w4.cell? ⟨w.heap.size, 1, none⟩ = some (.int .i64 b) := b0.at_ 1
  have zb0 : w.heap.size < w4.heap.size := b0.lt
  have fb10 : w4.cell? ⟨w.heap.size + 1, 0, none⟩ = some (.int .i64 c) := b1.at_ 0
  have fb11 : w4.cell? ⟨w.heap.size + 1, 1, none⟩ = some (.int .i64 d) := b1.at_ 1
  have zb1 : w.heap.size + 1 < w4.heap.size := b1.lt
  have fbm0 : w4.cell? ⟨gbm, 0, none⟩ = some (.int .i64 x) := bm.at_ 0
  have fbm1 : w4.cell? ⟨gbm, 1, none⟩ = some (.int .i64 y) := bm.at_ 1
  have zbm : gbm < w4.heap.size := bm.lt
  have fbn0 : w4.cell? ⟨gbn, 0, none⟩ = some (.int .i64 x) := bn.at_ 0
  have fbn1 : w4.cell? ⟨gbn, 1, none⟩ = some (.int .i64 y) := bn.at_ 1
  have zbn : gbn < w4.heap.size := bn.lt
  clear hb
  go_wp2_with fail
  generalize hW : w4.alloc _ = V4
  obtain ⟨hb, bh⟩ := boxA hW
  replace b0 := b0.below' hb
  replace b1 := b1.below' hb
  replace bm := bm.below' hb
  replace bn := bn.below' hb
  replace B := B.trans (hb.mono B.size)
  clear fb00 fb01 zb0 fb10 fb11 zb1 fbm0 fbm1 zbm fbn0 fbn1 zbn
  generalize w4.heap.size = gbh at *
  have fb00 : V4.cell? ⟨w.heap.size, 0, none⟩ = some (.int .i64 a) := b0.at_ 0
  have fb01 : V4.cell? ⟨w.heap.size, 1, none⟩ = some (.int .i64 b) := b0.at_ 1
  have zb0 : w.heap.size < V4.heap.size := b0.lt
  have fb10 : V4.cell? ⟨w.heap.size + 1, 0, none⟩ = some (.int .i64 c) := b1.at_ 0
  have fb11 : V4.cell? ⟨w.heap.size + 1, 1, none⟩ = some (.int .i64 d) := b1.at_ 1
  have zb1 : w.heap.size + 1 < V4.heap.size := b1.lt
  have fbm0 : V4.cell? ⟨gbm, 0, none⟩ = some (.int .i64 x) := bm.at_ 0
  have fbm1 : V4.cell? ⟨gbm, 1, none⟩ = some (.int .i64 y) := bm.at_ 1
  have zbm : gbm < V4.heap.size := bm.lt
  have fbn0 : V4.cell? ⟨gbn, 0, none⟩ = some (.int .i64 x) := bn.at_ 0
  have fbn1 : V4.cell? ⟨gbn, 1, none⟩ = some (.int .i64 y) := bn.at_ 1
  have zbn : gbn < V4.heap.size := bn.lt
  have fbh0 : V4.cell? ⟨gbh, 0, none⟩ = some (.int .i64 u) := bh.at_ 0
  have fbh1 : V4.cell? ⟨gbh, 1, none⟩ = some (.int .i64 v) := bh.at_ 1
  have zbh : gbh < V4.heap.size := bh.lt
  clear hW hb
  go_wp2_with fail
  refine (RH.out _).mono ?_
  rintro e w5 ⟨rfl, hb⟩
  replace b0 := b0.below' hb
  replace b1 := b1.below' hb
  replace bm := bm.below' hb
  replace bn := bn.below' hb
  replace bh := bh.below' hb
  replace B := B.trans (hb.mono B.size)
  clear fb00 fb01 zb0 fb10 fb11 zb1 fbm0 fbm1 zbm fbn0 fbn1 zbn fbh0 fbh1 zbh
  have fb00 : w5.cell? ⟨w.heap.size, 0, none⟩ = some (.int .i64 a) := b0.at_ 0
  have fb01 : w5.cell? ⟨w.heap.size, 1, none⟩ = some (.int .i64 b) := b0.at_ 1
  have zb0 : w.heap.size < w5.heap.size := b0.lt
  have fb10 : w5.cell? ⟨w.heap.size + 1, 0, none⟩ = some (.int .i64 c) := b1.at_ 0
  have fb11 : w5.cell? ⟨w.heap.size + 1, 1, none⟩ = some (.int .i64 d) := b1.at_ 1
  have zb1 : w.heap.size + 1 < w5.heap.size := b1.lt
  have fbm0 : w5.cell? ⟨gbm, 0, none⟩ = some (.int .i64 x) := bm.at_ 0
  have fbm1 : w5.cell? ⟨gbm, 1, none⟩ = some (.int .i64 y) := bm.at_ 1
  have zbm : gbm < w5.heap.size := bm.lt
  have fbn0 : w5.cell? ⟨gbn, 0, none⟩ = some (.int .i64 x) := bn.at_ 0
  have fbn1 : w5.cell? ⟨gbn, 1, none⟩ = some (.int .i64 y) := bn.at_ 1
  have zbn : gbn < w5.heap.size := bn.lt
  have fbh0 : w5.cell? ⟨gbh, 0, none⟩ = some (.int .i64 u) := bh.at_ 0
  have fbh1 : w5.cell? ⟨gbh, 1, none⟩ = some (.int .i64 v) := bh.at_ 1
  have zbh : gbh < w5.heap.size := bh.lt
  clear hb
  go_wp2_with fail
  generalize hW : w5.alloc _ = V5
  obtain ⟨hb, bg⟩ := boxA hW
  replace b0 := b0.below' hb
  replace b1 := b1.below' hb
  replace bm := bm.below' hb
  replace bn := bn.below' hb
  replace bh := bh.below' hb
  replace B := B.trans (hb.mono B.size)
  clear fb00 fb01 zb0 fb10 fb11 zb1 fbm0 fbm1 zbm fbn0 fbn1 zbn fbh0 fbh1 zbh
  generalize w5.heap.size = gbg at *
  have fb00 : V5.cell? ⟨w.heap.size, 0, none⟩ = some (.int .i64 a) := b0.at_ 0
  have fb01 : V5.cell? ⟨w.heap.size, 1, none⟩ = some (.int .i64 b) := b0.at_ 1
  have zb0 : w.heap.size < V5.heap.size := b0.lt
  have fb10 : V5.cell? ⟨w.heap.size + 1, 0, none⟩ = some (.int .i64 c) := b1.at_ 0
  have fb11 : V5.cell? ⟨w.heap.size + 1, 1, none⟩ = some (.int .i64 d) := b1.at_ 1
  have zb1 : w.heap.size + 1 < V5.heap.size := b1.lt
  have fbm0 : V5.cell? ⟨gbm, 0, none⟩ = some (.int .i64 x) := bm.at_ 0
  have fbm1 : V5.cell? ⟨gbm, 1, none⟩ = some (.int .i64 y) := bm.at_ 1
  have zbm : gbm < V5.heap.size := bm.lt
  have fbn0 : V5.cell? ⟨gbn, 0, none⟩ = some (.int .i64 x) := bn.at_ 0
  have fbn1 : V5.cell? ⟨gbn, 1, none⟩ = some (.int .i64 y) := bn.at_ 1
  have zbn : gbn < V5.heap.size := bn.lt
  have fbh0 : V5.cell? ⟨gbh, 0, none⟩ = some (.int .i64 u) := bh.at_ 0
  have fbh1 : V5.cell? ⟨gbh, 1, none⟩ = some (.int .i64 v) := bh.at_ 1
  have zbh : gbh < V5.heap.size := bh.lt
  have fbg0 : V5.cell? ⟨gbg, 0, none⟩ = some (.int .i64 u) := bg.at_ 0
  have fbg1 : V5.cell? ⟨gbg, 1, none⟩ = some (.int .i64 v) := bg.at_ 1
  have zbg : gbg < V5.heap.size := bg.lt
  clear hW hb
  go_wp2_with fail
  have KS : Hid (∀ w', Below V5.heap.size V5 w' → w'.cell? ⟨w.heap.size, 0, none⟩ = some (.int .i64 a) ∧ w'.cell? ⟨w.heap.size, 1, none⟩ = some (.int .i64 b) ∧ w'.cell? ⟨gbm, 0, none⟩ = some (.int .i64 x) ∧ w'.cell? ⟨gbm, 1, none⟩ = some (.int .i64 y) ∧ w'.cell? ⟨gbn, 0, none⟩ = some (.int .i64 x) ∧ w'.cell? ⟨gbn, 1, none⟩ = some (.int .i64 y) ∧ w'.cell? ⟨gbh, 0, none⟩ = some (.int .i64 u) ∧ w'.cell? ⟨gbh, 1, none⟩ = some (.int .i64 v) ∧ w'.cell? ⟨gbg, 0, none⟩ = some (.int .i64 u) ∧ w'.cell? ⟨gbg, 1, none⟩ = some (.int .i64 v)) := fun w' h => ⟨(b0.below' h).at_ 0, (b0.below' h).at_ 1, (bm.below' h).at_ 0, (bm.below' h).at_ 1, (bn.below' h).at_ 0, (bn.below' h).at_ 1, (bh.below' h).at_ 0, (bh.below' h).at_ 1, (bg.below' h).at_ 0, (bg.below' h).at_ 1⟩
  have P0 : Below V5.heap.size V5 V5.drew := (Below.refl _ _).drew
  go_region_held3 (fun w' => w'.cell? ⟨w.heap.size, 0, none⟩ = some (.int .i64 a) ∧ w'.cell? ⟨w.heap.size, 1, none⟩ = some (.int .i64 b) ∧ w'.cell? ⟨gbm, 0, none⟩ = some (.int .i64 x) ∧ w'.cell? ⟨gbm, 1, none⟩ = some (.int .i64 y) ∧ w'.cell? ⟨gbn, 0, none⟩ = some (.int .i64 x) ∧ w'.cell? ⟨gbn, 1, none⟩ = some (.int .i64 y) ∧ w'.cell? ⟨gbh, 0, none⟩ = some (.int .i64 u) ∧ w'.cell? ⟨gbh, 1, none⟩ = some (.int .i64 v) ∧ w'.cell? ⟨gbg, 0, none⟩ = some (.int .i64 u) ∧ w'.cell? ⟨gbg, 1, none⟩ = some (.int .i64 v))
    (first | with_reducible exact KS.out _ E4 | with_reducible exact KS.out _ E3 | with_reducible exact KS.out _ E2 | with_reducible exact KS.out _ E1 | with_reducible exact KS.out _ P0 | with_reducible exact KS.out _ (Below.refl _ _))
    (first
      | (go_at_call 17; (with_reducible refine (valid_any a b _ true H1.out).mono ?_); rintro e u1 ⟨rfl, hx1⟩; have E1 : Below V5.heap.size V5 u1 := (by first | with_reducible exact E4.trans (hx1.mono E4.size) | with_reducible exact E3.trans (hx1.mono E3.size) | with_reducible exact E2.trans (hx1.mono E2.size) | with_reducible exact P0.trans (hx1.mono P0.size)))
      | (go_at_call 18; (with_reducible refine (rvalid_any a b _ true H1.out).mono ?_); rintro e u2 ⟨rfl, hx2⟩; have E2 : Below V5.heap.size V5 u2 := (by first | with_reducible exact E4.trans (hx2.mono E4.size) | with_reducible exact E3.trans (hx2.mono E3.size) | with_reducible exact E1.trans (hx2.mono E1.size) | with_reducible exact P0.trans (hx2.mono P0.size)))
      | (go_at_call 19; (with_reducible refine (LL.out _).mono ?_); rintro e u3 ⟨rfl, hx3⟩; have E3 : Below V5.heap.size V5 u3 := (by first | with_reducible exact E4.trans (hx3.mono E4.size) | with_reducible exact E2.trans (hx3.mono E2.size) | with_reducible exact E1.trans (hx3.mono E1.size) | with_reducible exact P0.trans (hx3.mono P0.size)))
      | (go_at_call 20; (with_reducible refine (LR.out _).mono ?_); rintro e u4 ⟨rfl, hx4⟩; have E4 : Below V5.heap.size V5 u4 := (by first | with_reducible exact E3.trans (hx4.mono E3.size) | with_reducible exact E2.trans (hx4.mono E2.size) | with_reducible exact E1.trans (hx4.mono E1.size) | with_reducible exact P0.trans (hx4.mono P0.size))))
  all_goals
    go_wp2_with fail
    go_ret
    exact ⟨rfl, by first | with_reducible exact B.trans (E4.mono B.size) | with_reducible exact B.trans (E3.mono B.size) | with_reducible exact B.trans (E2.mono B.size) | with_reducible exact B.trans (E1.mono B.size)⟩
set_option maxHeartbeats 4000000 in
set_option maxRecDepth 100000 in
theorem match_4 (a b c d : Int) (w : World) (hT : Lw w) (h1 : yB a b = true) (h2 : yB c d = true) (h3 : min b d < max a c) :
    Calls Tryd.prog 3 #[.agg #[.int .i64 a, .int .i64 b], .agg #[.int .i64 c, .int .i64 d]] w fun e w' => e = .returned (.bool true) ∧ Below w.heap.size w w' := by
  have HT := hide hT
  have LL := hide (fun W => length_v a b W h1 _ rfl)
  have LR := hide (fun W => rlength_v a b W h1 _ rfl)
  generalize b - a + 1 = n at *
  have MM := hide (fun W => meet_none a b c d W h1 h2 h3)
  have MR := hide (fun W => rmeet_none a b c d W h1 h2 h3)
  clear h3
  have QH := hide (fun W => hullY_v a b c d W h1 h2 _ _ rfl rfl)
  have RH := hide (fun W => rhullY_v a b c d W h1 h2 _ _ rfl rfl)
  generalize min a c = u at *
  generalize max b d = v at *
  have H1 := hide h1
  have H2 := hide h2
  clear hT h1 h2
  go_enter Tryd.func3, Tryd.ntmps3
  go_wp2_with fail
  generalize hW : (w.alloc _).alloc _ = W
  obtain ⟨B, b0, b1⟩ := boxesA2 hW
  clear hW
  refine (awake_yes _ (HT.out.below B)).mono ?_
  rintro e w1 ⟨rfl, hb⟩
  replace b0 := b0.below' hb
  replace b1 := b1.below' hb
  replace B := B.trans (hb.mono B.size)
  have fb00 : w1.cell? ⟨w.heap.size, 0, none⟩ = some (.int .i64 a) := b0.at_ 0
  have fb01 : w1.cell? ⟨w.heap.size, 1, none⟩ = some (.int .i64 b) := b0.at_ 1
  have zb0 : w.heap.size < w1.heap.size := b0.lt
  have fb10 : w1.cell? ⟨w.heap.size + 1, 0, none⟩ = some (.int .i64 c) := b1.at_ 0
  have fb11 : w1.cell? ⟨w.heap.size + 1, 1, none⟩ = some (.int .i64 d) := b1.at_ 1
  have zb1 : w.heap.size + 1 < w1.heap.size := b1.lt
  clear hb
  go_wp2_with fail
  refine (MM.out _).mono ?_
  rintro e w2 ⟨rfl, hb⟩
  replace b0 := b0.below' hb
  replace b1 := b1.below' hb
  replace B := B.trans (hb.mono B.size)
  clear fb00 fb01 zb0 fb10 fb11 zb1
  have fb00 : w2.cell? ⟨w.heap.size, 0, none⟩ = some (.int .i64 a) := b0.at_ 0
  have fb01 : w2.cell? ⟨w.heap.size, 1, none⟩ = some (.int .i64 b) := b0.at_ 1
  have zb0 : w.heap.size < w2.heap.size := b0.lt
  have fb10 : w2.cell? ⟨w.heap.size + 1, 0, none⟩ = some (.int .i64 c) := b1.at_ 0
  have fb11 : w2.cell? ⟨w.heap.size + 1, 1, none⟩ = some (.int .i64 d) := b1.at_ 1
  have zb1 : w.heap.size + 1 < w2.heap.size := b1.lt
  clear hb
  go_wp2_with fail
  generalize hW : w2.alloc _ = V2
  obtain ⟨hb, bm⟩ := boxA hW
  replace b0 := b0.below' hb
  replace b1 := b1.below' hb
  replace B := B.trans (hb.mono B.size)
  clear fb00 fb01 zb0 fb10 fb11 zb1
  generalize w2.heap.size = gbm at *
  have fb00 : V2.cell? ⟨w.heap.size, 0, none⟩ = some (.int .i64 a) := b0.at_ 0
  have fb01 : V2.cell? ⟨w.heap.size, 1, none⟩ = some (.int .i64 b) := b0.at_ 1
  have zb0 : w.heap.size < V2.heap.size := b0.lt
  have fb10 : V2.cell? ⟨w.heap.size + 1, 0, none⟩ = some (.int .i64 c) := b1.at_ 0
  have fb11 : V2.cell? ⟨w.heap.size + 1, 1, none⟩ = some (.int .i64 d) := b1.at_ 1
  have zb1 : w.heap.size + 1 < V2.heap.size := b1.lt
  have fbm0 : V2.cell? ⟨gbm, 0, none⟩ = some (.int .i64 0) := bm.at_ 0
  have fbm1 : V2.cell? ⟨gbm, 1, none⟩ = some (.int .i64 0) := bm.at_ 1
  have zbm : gbm < V2.heap.size := bm.lt
  clear hW hb
  go_wp2_with fail
  refine (MR.out _).mono ?_
  rintro e w3 ⟨rfl, hb⟩
  replace b0 := b0.below' hb
  replace b1 := b1.below' hb
  replace bm := bm.below' hb
  replace B := B.trans (hb.mono B.size)
  clear fb00 fb01 zb0 fb10 fb11 zb1 fbm0 fbm1 zbm
  have fb00 : w3.cell? ⟨w.heap.size, 0, none⟩ = some (.int .i64 a) := b0.at_ 0
  have fb01 : w3.cell? ⟨w.heap.size, 1, none⟩ = some (.int .i64 b) := b0.at_ 1
  have zb0 : w.heap.size < w3.heap.size := b0.lt
  have fb10 : w3.cell? ⟨w.heap.size + 1, 0, none⟩ = some (.int .i64 c) := b1.at_ 0
  have fb11 : w3.cell? ⟨w.heap.size + 1, 1, none⟩ = some (.int .i64 d) := b1.at_ 1
  have zb1 : w.heap.size + 1 < w3.heap.size := b1.lt
  have fbm0 : w3.cell? ⟨gbm, 0, none⟩ = some (.int .i64 0) := bm.at_ 0
  have fbm1 : w3.cell? ⟨gbm, 1, none⟩ = some (.int .i64 0) := bm.at_ 1
  have zbm : gbm < w3.heap.size := bm.lt
  clear hb
  go_wp2_with fail
  generalize hW : w3.alloc _ = V3
  obtain ⟨hb, bn⟩ := boxA hW
  replace b0 := b0.below' hb
  replace b1 := b1.below' hb
  replace bm := bm.below' hb
  replace B := B.trans (hb.mono B.size)
  clear fb00 fb01 zb0 fb10 fb11 zb1 fbm0 fbm1 zbm
  generalize w3.heap.size = gbn at *
  have fb00 : V3.cell? ⟨w.heap.size, 0, none⟩ = some (.int .i64 a) := b0.at_ 0
  have fb01 : V3.cell? ⟨w.heap.size, 1, none⟩ = some (.int .i64 b) := b0.at_ 1
  have zb0 : w.heap.size < V3.heap.size := b0.lt
  have fb10 : V3.cell? ⟨w.heap.size + 1, 0, none⟩ = some (.int .i64 c) := b1.at_ 0
  have fb11 : V3.cell? ⟨w.heap.size + 1, 1, none⟩ = some (.int .i64 d) := b1.at_ 1
  have zb1 : w.heap.size + 1 < V3.heap.size := b1.lt
  have fbm0 : V3.cell? ⟨gbm, 0, none⟩ = some (.int .i64 0) := bm.at_ 0
  have fbm1 : V3.cell? ⟨gbm, 1, none⟩ = some (.int .i64 0) := bm.at_ 1
  have zbm : gbm < V3.heap.size := bm.lt
  have fbn0 : V3.cell? ⟨gbn, 0, none⟩ = some (.int .i64 0) := bn.at_ 0
  have fbn1 : V3.cell? ⟨gbn, 1, none⟩ = some (.int .i64 0) := bn.at_ 1
  have zbn : gbn < V3.heap.size := bn.lt
  clear hW hb
  go_wp2_with fail
  refine (QH.out _).mono ?_
  rintro e w4 ⟨rfl, hb⟩
  replace b0 := b0.below' hb
  replace b1 := b1.below' hb
  replace bm := bm.below' hb
  replace bn := bn.below' hb
  replace B := B.trans (hb.mono B.size)
  clear fb00 fb01 zb0 fb10 fb11 zb1 fbm0 fbm1 zbm fbn0 fbn1 zbn
  have fb00 : w4.cell? ⟨w.heap.size, 0, none⟩ = some (.int .i64 a) := b0.at_ 0
  have fb01 : w4.cell? ⟨w.heap.size, 1, none⟩ = some (.int .i64 b) := b0.at_ 1
  have zb0 : w.heap.size < w4.heap.size := b0.lt
  have fb10 : w4.cell? ⟨w.heap.size + 1, 0, none⟩ = some (.int .i64 c) := b1.at_ 0
  have fb11 : w4.cell? ⟨w.heap.size + 1, 1, none⟩ = some (.int .i64 d) := b1.at_ 1
  have zb1 : w.heap.size + 1 < w4.heap.size := b1.lt
  have fbm0 : w4.cell? ⟨gbm, 0, none⟩ = some (.int .i64 0) := bm.at_ 0
  have fbm1 : w4.cell? ⟨gbm, 1, none⟩ = some (.int .i64 0) := bm.at_ 1
  have zbm : gbm < w4.heap.size := bm.lt
  have fbn0 : w4.cell? ⟨gbn, 0, none⟩ = some (.int .i64 0) := bn.at_ 0
  have fbn1 : w4.cell? ⟨gbn, 1, none⟩ = some (.int .i64 0) := bn.at_ 1
  have zbn : gbn < w4.heap.size := bn.lt
  clear hb
  go_wp2_with fail
  generalize hW : w4.alloc _ = V4
  obtain ⟨hb, bh⟩ := boxA hW
  replace b0 := b0.below' hb
  replace b1 := b1.below' hb
  replace bm := bm.below' hb
  replace bn := bn.below' hb
  replace B := B.trans (hb.mono B.size)
  clear fb00 fb01 zb0 fb10 fb11 zb1 fbm0 fbm1 zbm fbn0 fbn1 zbn
  generalize w4.heap.size = gbh at *
  have fb00 : V4.cell? ⟨w.heap.size, 0, none⟩ = some (.int .i64 a) := b0.at_ 0
  have fb01 : V4.cell? ⟨w.heap.size, 1, none⟩ = some (.int .i64 b) := b0.at_ 1
  have zb0 : w.heap.size < V4.heap.size := b0.lt
  have fb10 : V4.cell? ⟨w.heap.size + 1, 0, none⟩ = some (.int .i64 c) := b1.at_ 0
  have fb11 : V4.cell? ⟨w.heap.size + 1, 1, none⟩ = some (.int .i64 d) := b1.at_ 1
  have zb1 : w.heap.size + 1 < V4.heap.size := b1.lt
  have fbm0 : V4.cell? ⟨gbm, 0, none⟩ = some (.int .i64 0) := bm.at_ 0
  have fbm1 : V4.cell? ⟨gbm, 1, none⟩ = some (.int .i64 0) := bm.at_ 1
  have zbm : gbm < V4.heap.size := bm.lt
  have fbn0 : V4.cell? ⟨gbn, 0, none⟩ = some (.int .i64 0) := bn.at_ 0
  have fbn1 : V4.cell? ⟨gbn, 1, none⟩ = some (.int .i64 0) := bn.at_ 1
  have zbn : gbn < V4.heap.size := bn.lt
  have fbh0 : V4.cell? ⟨gbh, 0, none⟩ = some (.int .i64 u) := bh.at_ 0
  have fbh1 : V4.cell? ⟨gbh, 1, none⟩ = some (.int .i64 v) := bh.at_ 1
  have zbh : gbh < V4.heap.size := bh.lt
  clear hW hb
  go_wp2_with fail
  refine (RH.out _).mono ?_
  rintro e w5 ⟨rfl, hb⟩
  replace b0 := b0.below' hb
  replace b1 := b1.below' hb
  replace bm := bm.below' hb
  replace bn := bn.below' hb
  replace bh := bh.below' hb
  replace B := B.trans (hb.mono B.size)
  clear fb00 fb01 zb0 fb10 fb11 zb1 fbm0 fbm1 zbm fbn0 fbn1 zbn fbh0 fbh1 zbh
  have fb00 : w5.cell? ⟨w.heap.size, 0, none⟩ = some (.int .i64 a) := b0.at_ 0
  have fb01 : w5.cell? ⟨w.heap.size, 1, none⟩ = some (.int .i64 b) := b0.at_ 1
  have zb0 : w.heap.size < w5.heap.size := b0.lt
  have fb10 : w5.cell? ⟨w.heap.size + 1, 0, none⟩ = some (.int .i64 c) := b1.at_ 0
  have fb11 : w5.cell? ⟨w.heap.size + 1, 1, none⟩ = some (.int .i64 d) := b1.at_ 1
  have zb1 : w.heap.size + 1 < w5.heap.size := b1.lt
  have fbm0 : w5.cell? ⟨gbm, 0, none⟩ = some (.int .i64 0) := bm.at_ 0
  have fbm1 : w5.cell? ⟨gbm, 1, none⟩ = some (.int .i64 0) := bm.at_ 1
  have zbm : gbm < w5.heap.size := bm.lt
  have fbn0 : w5.cell? ⟨gbn, 0, none⟩ = some (.int .i64 0) := bn.at_ 0
  have fbn1 : w5.cell? ⟨gbn, 1, none⟩ = some (.int .i64 0) := bn.at_ 1
  have zbn : gbn < w5.heap.size := bn.lt
  have fbh0 : w5.cell? ⟨gbh, 0, none⟩ = some (.int .i64 u) := bh.at_ 0
  have fbh1 : w5.cell? ⟨gbh, 1, none⟩ = some (.int .i64 v) := bh.at_ 1
  have zbh : gbh < w5.heap.size := bh.lt
  clear hb
  go_wp2_with fail
  generalize hW : w5.alloc _ = V5
  obtain ⟨hb, bg⟩ := boxA hW
  replace b0 := b0.below' hb
  replace b1 := b1.below' hb
  replace bm := bm.below' hb
  replace bn := bn.below' hb
  replace bh := bh.below' hb
  replace B := B.trans (hb.mono B.size)
  clear fb00 fb01 zb0 fb10 fb11 zb1 fbm0 fbm1 zbm fbn0 fbn1 zbn fbh0 fbh1 zbh
  generalize w5.heap.size = gbg at *
  have fb00 : V5.cell? ⟨w.heap.size, 0, none⟩ = some (.int .i64 a) := b0.at_ 0
  have fb01 : V5.cell? ⟨w.heap.size, 1, none⟩ = some (.int .i64 b) := b0.at_ 1
  have zb0 : w.heap.size < V5.heap.size := b0.lt
  have fb10 : V5.cell? ⟨w.heap.size + 1, 0, none⟩ = some (.int .i64 c) := b1.at_ 0
  have fb11 : V5.cell? ⟨w.heap.size + 1, 1, none⟩ = some (.int .i64 d) := b1.at_ 1
  have zb1 : w.heap.size + 1 < V5.heap.size := b1.lt
  have fbm0 : V5.cell? ⟨gbm, 0, none⟩ = some (.int .i64 0) := bm.at_ 0
  have fbm1 : V5.cell? ⟨gbm, 1, none⟩ = some (.int .i64 0) := bm.at_ 1
  have zbm : gbm < V5.heap.size := bm.lt
  have fbn0 : V5.cell? ⟨gbn, 0, none⟩ = some (.int .i64 0) := bn.at_ 0
  have fbn1 : V5.cell? ⟨gbn, 1, none⟩ = some (.int .i64 0) := bn.at_ 1
  have zbn : gbn < V5.heap.size := bn.lt
  have fbh0 : V5.cell? ⟨gbh, 0, none⟩ = some (.int .i64 u) := bh.at_ 0
  have fbh1 : V5.cell? ⟨gbh, 1, none⟩ = some (.int .i64 v) := bh.at_ 1
  have zbh : gbh < V5.heap.size := bh.lt
  have fbg0 : V5.cell? ⟨gbg, 0, none⟩ = some (.int .i64 u) := bg.at_ 0
  have fbg1 : V5.cell? ⟨gbg, 1, none⟩ = some (.int .i64 v) := bg.at_ 1
  have zbg : gbg < V5.heap.size := bg.lt
  clear hW hb
  go_wp2_with fail
  have KS : Hid (∀ w', Below V5.heap.size V5 w' → w'.cell? ⟨w.heap.size, 0, none⟩ = some (.int .i64 a) ∧ w'.cell? ⟨w.heap.size, 1, none⟩ = some (.int .i64 b) ∧ w'.cell? ⟨gbm, 0, none⟩ = some (.int .i64 0) ∧ w'.cell? ⟨gbm, 1, none⟩ = some (.int .i64 0) ∧ w'.cell? ⟨gbn, 0, none⟩ = some (.int .i64 0) ∧ w'.cell? ⟨gbn, 1, none⟩ = some (.int .i64 0) ∧ w'.cell? ⟨gbh, 0, none⟩ = some (.int .i64 u) ∧ w'.cell? ⟨gbh, 1, none⟩ = some (.int .i64 v) ∧ w'.cell? ⟨gbg, 0, none⟩ = some (.int .i64 u) ∧ w'.cell? ⟨gbg, 1, none⟩ = some (.int .i64 v)) := fun w' h => ⟨(b0.below' h).at_ 0, (b0.below' h).at_ 1, (bm.below' h).at_ 0, (bm.below' h).at_ 1, (bn.below' h).at_ 0, (bn.below' h).at_ 1, (bh.below' h).at_ 0, (bh.below' h).at_ 1, (bg.below' h).at_ 0, (bg.below' h).at_ 1⟩
  have P0 : Below V5.heap.size V5 V5.drew := (Below.refl _ _).drew
  go_region_held3 (fun w' => w'.cell? ⟨w.heap.size, 0, none⟩ = some (.int .i64 a) ∧ w'.cell? ⟨w.heap.size, 1, none⟩ = some (.int .i64 b) ∧ w'.cell? ⟨gbm, 0, none⟩ = some (.int .i64 0) ∧ w'.cell? ⟨gbm, 1, none⟩ = some (.int .i64 0) ∧ w'.cell? ⟨gbn, 0, none⟩ = some (.int .i64 0) ∧ w'.cell? ⟨gbn, 1, none⟩ = some (.int .i64 0) ∧ w'.cell? ⟨gbh, 0, none⟩ = some (.int .i64 u) ∧ w'.cell? ⟨gbh, 1, none⟩ = some (.int .i64 v) ∧ w'.cell? ⟨gbg, 0, none⟩ = some (.int .i64 u) ∧ w'.cell? ⟨gbg, 1, none⟩ = some (.int .i64 v))
    (first | with_reducible exact KS.out _ E4 | with_reducible exact KS.out _ E3 | with_reducible exact KS.out _ E2 | with_reducible exact KS.out _ E1 | with_reducible exact KS.out _ P0 | with_reducible exact KS.out _ (Below.refl _ _))
    (first
      | (go_at_call 17; (with_reducible refine (valid_any a b _ true H1.out).mono ?_); rintro e u1 ⟨rfl, hx1⟩; have E1 : Below V5.heap.size V5 u1 := (by first | with_reducible exact E4.trans (hx1.mono E4.size) | with_reducible exact E3.trans (hx1.mono E3.size) | with_reducible exact E2.trans (hx1.mono E2.size) | with_reducible exact P0.trans (hx1.mono P0.size)))
      | (go_at_call 18; (with_reducible refine (rvalid_any a b _ true H1.out).mono ?_); rintro e u2 ⟨rfl, hx2⟩; have E2 : Below V5.heap.size V5 u2 := (by first | with_reducible exact E4.trans (hx2.mono E4.size) | with_reducible exact E3.trans (hx2.mono E3.size) | with_reducible exact E1.trans (hx2.mono E1.size) | with_reducible exact P0.trans (hx2.mono P0.size)))
      | (go_at_call 19; (with_reducible refine (LL.out _).mono ?_); rintro e u3 ⟨rfl, hx3⟩; have E3 : Below V5.heap.size V5 u3 := (by first | with_reducible exact E4.trans (hx3.mono E4.size) | with_reducible exact E2.trans (hx3.mono E2.size) | with_reducible exact E1.trans (hx3.mono E1.size) | with_reducible exact P0.trans (hx3.mono P0.size)))
      | (go_at_call 20; (with_reducible refine (LR.out _).mono ?_); rintro e u4 ⟨rfl, hx4⟩; have E4 : Below V5.heap.size V5 u4 := (by first | with_reducible exact E3.trans (hx4.mono E3.size) | with_reducible exact E2.trans (hx4.mono E2.size) | with_reducible exact E1.trans (hx4.mono E1.size) | with_reducible exact P0.trans (hx4.mono P0.size))))
  all_goals
    go_wp2_with fail
    go_ret
    exact ⟨rfl, by first | with_reducible exact B.trans (E4.mono B.size) | with_reducible exact B.trans (E3.mono B.size) | with_reducible exact B.trans (E2.mono B.size) | with_reducible exact B.trans (E1.mono B.size)⟩
theorem match_all (a b c d : Int) (w : World) (hT : Lw w) :
    Calls Tryd.prog 3 #[.agg #[.int .i64 a, .int .i64 b], .agg #[.int .i64 c, .int .i64 d]] w fun e w' => e = .returned (.bool true) ∧ Below w.heap.size w w' := by
  rcases Bool.eq_false_or_eq_true (yB a b) with h1 | h1
  · rcases Bool.eq_false_or_eq_true (yB c d) with h2 | h2
    · by_cases h3 : max a c ≤ min b d
      · exact match_3 a b c d w hT h1 h2 h3
      · exact match_4 a b c d w hT h1 h2 (by omega)
    · exact match_2 a b c d w hT h1 h2
  · exact match_1 a b c d w hT h1
end Go.Proofs.YtihadabaehcmiaaDoor
