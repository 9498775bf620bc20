/- Ways of YearsMeets (B). -/
import Derived.Test.YtihadabaehcmiaaDoorYLaw
import Derived.Test.YtihadabaehcmiaaDoorHand
namespace Go.Proofs.YtihadabaehcmiaaDoor
open Go Go.RowKit

set_option maxHeartbeats 4000000 in
set_option maxRecDepth 100000 in
theorem meets_g2 (a b c d k : Int) (w : World) (hT : Lw w) (h1 : yB a b = true) (h2 : yB c d = false) :
    Calls Tryd.prog 8 #[.agg #[.int .i64 a, .int .i64 b], .agg #[.int .i64 c, .int .i64 d], .int .i16 k] w fun e w' => e = .returned (.bool true) ∧ Below w.heap.size w w' := by
  have HT := hide hT
  have H1 := hide h1
  have H2 := hide h2
  clear hT h1 h2
  go_enter Tryd.func8, Tryd.ntmps8
  go_wp2_with fail
  generalize hW : (w.alloc _).alloc _ = W
  obtain ⟨B, b0, b1⟩ := boxesA2 hW
  clear hW
  refine (awake_yes _ (HT.out.below B)).mono ?_
  rintro e w1 ⟨rfl, hb⟩
  replace b0 := b0.below' hb
  replace b1 := b1.below' hb
  replace B := B.trans (hb.mono B.size)
  have fb00 : w1.cell? ⟨w.heap.size, 0, none⟩ = some (.int .i64 a) := b0.at_ 0
  have fb01 : w1.cell? ⟨w.heap.size, 1, none⟩ = some (.int .i64 b) := b0.at_ 1
  have zb0 : w.heap.size < w1.heap.size := b0.lt
  have fb10 : w1.cell? ⟨w.heap.size + 1, 0, none⟩ = some (.int .i64 c) := b1.at_ 0
  have fb11 : w1.cell? ⟨w.heap.size + 1, 1, none⟩ = some (.int .i64 d) := b1.at_ 1
  have zb1 : w.heap.size + 1 < w1.heap.size := b1.lt
  clear hb
  go_wp2_with fail
  refine (rvalid_any a b _ true H1.out).mono ?_
  rintro e w2 ⟨rfl, hb⟩
  replace b0 := b0.below' hb
  replace b1 := b1.below' hb
  replace B := B.trans (hb.mono B.size)
  clear fb00 fb01 zb0 fb10 fb11 zb1
  have fb00 : w2.cell? ⟨w.heap.size, 0, none⟩ = some (.int .i64 a) := b0.at_ 0
  have fb01 : w2.cell? ⟨w.heap.size, 1, none⟩ = some (.int .i64 b) := b0.at_ 1
  have zb0 : w.heap.size < w2.heap.size := b0.lt
  have fb10 : w2.cell? ⟨w.heap.size + 1, 0, none⟩ = some (.int .i64 c) := b1.at_ 0
  have fb11 : w2.cell? ⟨w.heap.size + 1, 1, none⟩ = some (.int .i64 d) := b1.at_ 1
  have zb1 : w.heap.size + 1 < w2.heap.size := b1.lt
  clear hb
  go_wp2_with fail
  refine (rvalid_any c d _ false H2.out).mono ?_
  rintro e w3 ⟨rfl, hb⟩
  replace b0 := b0.below' hb
  replace b1 := b1.below' hb
  replace B := B.trans (hb.mono B.size)
  clear fb00 fb01 zb0 fb10 fb11 zb1
  have fb00 : w3.cell? ⟨w.heap.size, 0, none⟩ = some (.int .i64 a) := b0.at_ 0
  have fb01 : w3.cell? ⟨w.heap.size, 1, none⟩ = some (.int .i64 b) := b0.at_ 1
  have zb0 : w.heap.size < w3.heap.size := b0.lt
  have fb10 : w3.cell? ⟨w.heap.size + 1, 0, none⟩ = some (.int .i64 c) := b1.at_ 0
  have fb11 : w3.cell? ⟨w.heap.size + 1, 1, none⟩ = some (.int .i64 d) := b1.at_ 1
  have zb1 : w.heap.size + 1 < w3.heap.size := b1.lt
  clear hb
  go_wp2_with fail
  refine (awake_yes _ (HT.out.below B)).mono ?_
  rintro e w4 ⟨rfl, hb⟩
  replace b0 := b0.below' hb
  replace b1 := b1.below' hb
  replace B := B.trans (hb.mono B.size)
  clear fb00 fb01 zb0 fb10 fb11 zb1
  have fb00 : w4.cell? ⟨w.heap.size, 0, none⟩ = some (.int .i64 a) := b0.at_ 0
  have fb01 : w4.cell? ⟨w.heap.size, 1, none⟩ = some (.int .i64 b) := b0.at_ 1
  have zb0 : w.heap.size < w4.heap.size := b0.lt
  have fb10 : w4.cell? ⟨w.heap.size + 1, 0, none⟩ = some (.int .i64 c) := b1.at_ 0
  have fb11 : w4.cell? ⟨w.heap.size + 1, 1, none⟩ = some (.int .i64 d) := b1.at_ 1
  have zb1 : w.heap.size + 1 < w4.heap.size := b1.lt
  clear hb
  go_wp2_with fail
  go_ret
  exact ⟨rfl, B⟩
set_option maxHeartbeats 4000000 in
set_option maxRecDepth 100000 in
theorem meets_lin (a b c d k : Int) (w : World) (hT : Lw w) (h1 : yB a b = true) (h2 : yB c d = true) (k0 : -32768 ≤ k) (k1 : k ≤ 32767) (pa1 : decide (a ≤ k) = false) (pb1 : decide (c ≤ k) = true) (pb2 : decide (k ≤ d) = true) (u v : Int) (hu : min a c = u) (hv : max b d = v) (h3 : min b d < max a c) (ph1 : decide (u ≤ k) = true) (ph2 : decide (k ≤ v) = true) (h4 : yB u v = true) (l m n : Int) (hl : v - u + 1 = l) (hm : b - a + 1 = m) (hn : d - c + 1 = n) (e1 : m ≤ l) (e2 : n ≤ l) :
    Calls Tryd.prog 8 #[.agg #[.int .i64 a, .int .i64 b], .agg #[.int .i64 c, .int .i64 d], .int .i16 k] w fun e w' => e = .returned (.bool true) ∧ Below w.heap.size w w' := by
  have HT := hide hT
  have QH := hide (fun W => hullY_v a b c d W h1 h2 u v hu hv)
  have MM := hide (fun W => meet_none a b c d W h1 h2 h3)
  have L1 := hide (fun W => length_v u v W h4 l hl)
  have L2 := hide (fun W => length_v a b W h1 m hm)
  have L3 := hide (fun W => length_v c d W h2 n hn)
  have d3 : decide (max m n ≤ l) = true := decide_eq_true (by omega)
  clear hu hv h3 h4 hl hm hn
  have H1 := hide h1
  have H2 := hide h2
  clear hT h1 h2
  go_enter Tryd.func8, Tryd.ntmps8
  go_wp2_with fail
  generalize hW : (w.alloc _).alloc _ = W
  obtain ⟨B, b0, b1⟩ := boxesA2 hW
  clear hW
  refine (awake_yes _ (HT.out.below B)).mono ?_
  rintro e w1 ⟨rfl, hb⟩
  replace b0 := b0.below' hb
  replace b1 := b1.below' hb
  replace B := B.trans (hb.mono B.size)
  have fb00 : w1.cell? ⟨w.heap.size, 0, none⟩ = some (.int .i64 a) := b0.at_ 0
  have fb01 : w1.cell? ⟨w.heap.size, 1, none⟩ = some (.int .i64 b) := b0.at_ 1
  have zb0 : w.heap.size < w1.heap.size := b0.lt
  have fb10 : w1.cell? ⟨w.heap.size + 1, 0, none⟩ = some (.int .i64 c) := b1.at_ 0
  have fb11 : w1.cell? ⟨w.heap.size + 1, 1, none⟩ = some (.int .i64 d) := b1.at_ 1
  have zb1 : w.heap.size + 1 < w1.heap.size := b1.lt
  clear hb
  go_wp2_with fail
  refine (rvalid_any a b _ true H1.out).mono ?_
  rintro e w2 ⟨rfl, hb⟩
  replace b0 := b0.below' hb
  replace b1 := b1.below' hb
  replace B := B.trans (hb.mono B.size)
  clear fb00 fb01 zb0 fb10 fb11 zb1
  have fb00 : w2.cell? ⟨w.heap.size, 0, none⟩ = some (.int .i64 a) := b0.at_ 0
  have fb01 : w2.cell? ⟨w.heap.size, 1, none⟩ = some (.int .i64 b) := b0.at_ 1
  have zb0 : w.heap.size < w2.heap.size := b0.lt
  have fb10 : w2.cell? ⟨w.heap.size + 1, 0, none⟩ = some (.int .i64 c) := b1.at_ 0
  have fb11 : w2.cell? ⟨w.heap.size + 1, 1, none⟩ = some (.int .i64 d) := b1.at_ 1
  have zb1 : w.heap.size + 1 < w2.heap.size := b1.lt
  clear hb
  go_wp2_with fail
  refine (rvalid_any c d _ true H2.out).mono ?_
  rintro e w3 ⟨rfl, hb⟩
  replace b0 := b0.below' hb
  replace b1 := b1.below' hb
  replace B := B.trans (hb.mono B.size)
  clear fb00 fb01 zb0 fb10 fb11 zb1
  have fb00 : w3.cell? ⟨w.heap.size, 0, none⟩ = some (.int .i64 a) := b0.at_ 0
  have fb01 : w3.cell? ⟨w.heap.size, 1, none⟩ = some (.int .i64 b) := b0.at_ 1
  have zb0 : w.heap.size < w3.heap.size := b0.lt
  have fb10 : w3.cell? ⟨w.heap.size + 1, 0, none⟩ = some (.int .i64 c) := b1.at_ 0
  have fb11 : w3.cell? ⟨w.heap.size + 1, 1, none⟩ = some (.int .i64 d) := b1.at_ 1
  have zb1 : w.heap.size + 1 < w3.heap.size := b1.lt
  clear hb
  go_wp2_with fail
  refine (MM.out _).mono ?_
  rintro e w4 ⟨rfl, hb⟩
  replace b0 := b0.below' hb
  replace b1 := b1.below' hb
  replace B := B.trans (hb.mono B.size)
  clear fb00 fb01 zb0 fb10 fb11 zb1
  have fb00 : w4.cell? ⟨w.heap.size, 0, none⟩ = some (.int .i64 a) := b0.at_ 0
  have fb01 : w4.cell? ⟨w.heap.size, 1, none⟩ = some (.int .i64 b) := b0.at_ 1
  have zb0 : w.heap.size < w4.heap.size := b0.lt
  have fb10 : w4.cell? ⟨w.heap.size + 1, 0, none⟩ = some (.int .i64 c) := b1.at_ 0
  have fb11 : w4.cell? ⟨w.heap.size + 1, 1, none⟩ = some (.int .i64 d) := b1.at_ 1
  have zb1 : w.heap.size + 1 < w4.heap.size := b1.lt
  clear hb
  go_wp2_with fail
  generalize hW : w4.alloc _ = V4
  obtain ⟨hb, bm⟩ := boxA hW
  replace b0 := b0.below' hb
  replace b1 := b1.below' hb
  replace B := B.trans (hb.mono B.size)
  clear fb00 fb01 zb0 fb10 fb11 zb1
  generalize w4.heap.size = gbm at *
  have fb00 : V4.cell? ⟨w.heap.size, 0, none⟩ = some (.int .i64 a) := b0.at_ 0
  have fb01 : V4.cell? ⟨w.heap.size, 1, none⟩ = some (.int .i64 b) := b0.at_ 1
  have zb0 : w.heap.size < V4.heap.size := b0.lt
  have fb10 : V4.cell? ⟨w.heap.size + 1, 0, none⟩ = some (.int .i64 c) := b1.at_ 0
  have fb11 : V4.cell? ⟨w.heap.size + 1, 1, none⟩ = some (.int .i64 d) := b1.at_ 1
  have zb1 : w.heap.size + 1 < V4.heap.size := b1.lt
  have fbm0 : V4.cell? ⟨gbm, 0, none⟩ = some (.int .i64 0) := bm.at_ 0
  have fbm1 : V4.cell? ⟨gbm, 1, none⟩ = some (.int .i64 0) := bm.at_ 1
  have zbm : gbm < V4.heap.size := bm.lt
  clear hW hb
  go_wp2_with fail
  refine (QH.out _).mono ?_
  rintro e w5 ⟨rfl, hb⟩
  replace b0 := b0.below' hb
  replace b1 := b1.below' hb
  replace bm := bm.below' hb
  replace B := B.trans (hb.mono B.size)
  clear fb00 fb01 zb0 fb10 fb11 zb1 fbm0 fbm1 zbm
  have fb00 : w5.cell? ⟨w.heap.size, 0, none⟩ = some (.int .i64 a) := b0.at_ 0
  have fb01 : w5.cell? ⟨w.heap.size, 1, none⟩ = some (.int .i64 b) := b0.at_ 1
  have zb0 : w.heap.size < w5.heap.size := b0.lt
  have fb10 : w5.cell? ⟨w.heap.size + 1, 0, none⟩ = some (.int .i64 c) := b1.at_ 0
  have fb11 : w5.cell? ⟨w.heap.size + 1, 1, none⟩ = some (.int .i64 d) := b1.at_ 1
  have zb1 : w.heap.size + 1 < w5.heap.size := b1.lt
  have fbm0 : w5.cell? ⟨gbm, 0, none⟩ = some (.int .i64 0) := bm.at_ 0
  have fbm1 : w5.cell? ⟨gbm, 1, none⟩ = some (.int .i64 0) := bm.at_ 1
  have zbm : gbm < w5.heap.size := bm.lt
  clear hb
  go_wp2_with fail
  generalize hW : w5.alloc _ = V5
  obtain ⟨hb, bh⟩ := boxA hW
  replace b0 := b0.below' hb
  replace b1 := b1.below' hb
  replace bm := bm.below' hb
  replace B := B.trans (hb.mono B.size)
  clear fb00 fb01 zb0 fb10 fb11 zb1 fbm0 fbm1 zbm
  generalize w5.heap.size = gbh at *
  have fb00 : V5.cell? ⟨w.heap.size, 0, none⟩ = some (.int .i64 a) := b0.at_ 0
  have fb01 : V5.cell? ⟨w.heap.size, 1, none⟩ = some (.int .i64 b) := b0.at_ 1
  have zb0 : w.heap.size < V5.heap.size := b0.lt
  have fb10 : V5.cell? ⟨w.heap.size + 1, 0, none⟩ = some (.int .i64 c) := b1.at_ 0
  have fb11 : V5.cell? ⟨w.heap.size + 1, 1, none⟩ = some (.int .i64 d) := b1.at_ 1
  have zb1 : w.heap.size + 1 < V5.heap.size := b1.lt
  have fbm0 : V5.cell? ⟨gbm, 0, none⟩ = some (.int .i64 0) := bm.at_ 0
  have fbm1 : V5.cell? ⟨gbm, 1, none⟩ = some (.int .i64 0) := bm.at_ 1
  have zbm : gbm < V5.heap.size := bm.lt
  have fbh0 : V5.cell? ⟨gbh, 0, none⟩ = some (.int .i64 u) := bh.at_ 0
  have fbh1 : V5.cell? ⟨gbh, 1, none⟩ = some (.int .i64 v) := bh.at_ 1
  have zbh : gbh < V5.heap.size := bh.lt
  clear hW hb
  go_wp2_with fail
  have KS : Hid (∀ w', Below V5.heap.size V5 w' → w'.cell? ⟨w.heap.size, 0, none⟩ = some (.int .i64 a) ∧ w'.cell? ⟨w.heap.size, 1, none⟩ = some (.int .i64 b) ∧ w'.cell? ⟨w.heap.size + 1, 0, none⟩ = some (.int .i64 c) ∧ w'.cell? ⟨w.heap.size + 1, 1, none⟩ = some (.int .i64 d) ∧ w'.cell? ⟨gbh, 0, none⟩ = some (.int .i64 u) ∧ w'.cell? ⟨gbh, 1, none⟩ = some (.int .i64 v)) := fun w' h => ⟨(b0.below' h).at_ 0, (b0.below' h).at_ 1, (b1.below' h).at_ 0, (b1.below' h).at_ 1, (bh.below' h).at_ 0, (bh.below' h).at_ 1⟩
  have P0 : Below V5.heap.size V5 V5.drew := (Below.refl _ _).drew
  refine wp_region_held_drew (S := (fun w' => w'.cell? ⟨w.heap.size, 0, none⟩ = some (.int .i64 a) ∧ w'.cell? ⟨w.heap.size, 1, none⟩ = some (.int .i64 b) ∧ w'.cell? ⟨w.heap.size + 1, 0, none⟩ = some (.int .i64 c) ∧ w'.cell? ⟨w.heap.size + 1, 1, none⟩ = some (.int .i64 d) ∧ w'.cell? ⟨gbh, 0, none⟩ = some (.int .i64 u) ∧ w'.cell? ⟨gbh, 1, none⟩ = some (.int .i64 v))) (by kernel_rfl) (KS.out _ P0) (fun hHeld => ?_)
  refine take_at 0 79 (v := ?v0) rfl rfl (by kernel_rfl) (by kernel_rfl) (by kernel_rfl) (fun _ _ _ h => h) (by rfl) ?y0 (by assumption) ?r0
  case y0 => (intro w hSw; (try dsimp only at hSw); (first | (go_simp; done) | (go_simp; with_reducible rfl)))
  try simp only [Act.put, List.setIfInBounds_toArray, List.set_cons_zero, List.set_cons_succ]
  refine take_at 1 80 (v := ?v1) rfl rfl (by kernel_rfl) (by kernel_rfl) (by kernel_rfl) (fun _ _ _ h => h) (by rfl) ?y1 (by assumption) ?r1
  case y1 => (intro w hSw; (try dsimp only at hSw); (first | (go_simp; done) | (go_simp; with_reducible rfl)))
  try simp only [Act.put, List.setIfInBounds_toArray, List.set_cons_zero, List.set_cons_succ]
  refine take_at 2 81 (v := ?v2) rfl rfl (by kernel_rfl) (by kernel_rfl) (by kernel_rfl) (fun _ _ _ h => h) (by rfl) ?y2 (by assumption) ?r2
  case y2 => (intro w hSw; (try dsimp only at hSw); (first | (go_simp; done) | (go_simp; with_reducible rfl)))
  try simp only [Act.put, List.setIfInBounds_toArray, List.set_cons_zero, List.set_cons_succ]
  refine take_at 3 82 (v := ?v3) rfl rfl (by kernel_rfl) (by kernel_rfl) (by kernel_rfl) (fun _ _ _ h => h) (by rfl) ?y3 (by assumption) ?r3
  case y3 => (intro w hSw; (try dsimp only at hSw); (first | (go_simp; done) | (go_simp; with_reducible rfl)))
  try simp only [Act.put, List.setIfInBounds_toArray, List.set_cons_zero, List.set_cons_succ]
  refine take_at 4 83 (v := ?v4) rfl rfl (by kernel_rfl) (by kernel_rfl) (by kernel_rfl) (fun _ _ _ h => h) (by rfl) ?y4 (by assumption) ?r4
  case y4 => (intro w hSw; (try dsimp only at hSw); (first | (go_simp; done) | (go_simp; with_reducible rfl)))
  try simp only [Act.put, List.setIfInBounds_toArray, List.set_cons_zero, List.set_cons_succ]
  refine take_at 5 84 (v := ?v5) rfl rfl (by kernel_rfl) (by kernel_rfl) (by kernel_rfl) (fun _ _ _ h => h) (by rfl) ?y5 (by assumption) ?r5
  case y5 => (intro w hSw; (try dsimp only at hSw); (first | (go_simp; done) | (go_simp; with_reducible rfl)))
  try simp only [Act.put, List.setIfInBounds_toArray, List.set_cons_zero, List.set_cons_succ]
  refine take_at 6 85 (v := ?v6) rfl rfl (by kernel_rfl) (by kernel_rfl) (by kernel_rfl) (fun _ _ _ h => h) (by rfl) ?y6 (by assumption) ?r6
  case y6 => (intro w hSw; (try dsimp only at hSw); (first | (go_simp; done) | (go_simp; with_reducible rfl)))
  try simp only [Act.put, List.setIfInBounds_toArray, List.set_cons_zero, List.set_cons_succ]
  refine take_at 7 86 (v := ?v7) rfl rfl (by kernel_rfl) (by kernel_rfl) (by kernel_rfl) (fun _ _ _ h => h) (by rfl) ?y7 (by assumption) ?r7
  case y7 => (intro w hSw; (try dsimp only at hSw); (first | (go_simp; done) | (go_simp; with_reducible rfl)))
  try simp only [Act.put, List.setIfInBounds_toArray, List.set_cons_zero, List.set_cons_succ]
  refine take_at 8 87 (v := ?v8) rfl rfl (by kernel_rfl) (by kernel_rfl) (by kernel_rfl) (fun _ _ _ h => h) (by rfl) ?y8 (by assumption) ?r8
  case y8 => (intro w hSw; (try dsimp only at hSw); (first | (go_simp; done) | (go_simp; with_reducible rfl)))
  try simp only [Act.put, List.setIfInBounds_toArray, List.set_cons_zero, List.set_cons_succ]
  refine take_at 9 88 (v := ?v9) rfl rfl (by kernel_rfl) (by kernel_rfl) (by kernel_rfl) (fun _ _ _ h => h) (by rfl) ?y9 (by assumption) ?r9
  case y9 => (intro w hSw; (try dsimp only at hSw); (first | (go_simp; done) | (go_simp; with_reducible rfl)))
  try simp only [Act.put, List.setIfInBounds_toArray, List.set_cons_zero, List.set_cons_succ]
  refine take_at 10 89 (v := ?v10) rfl rfl (by kernel_rfl) (by kernel_rfl) (by kernel_rfl) (fun _ _ _ h => h) (by rfl) ?y10 (by assumption) ?r10
  case y10 => (intro w hSw; (try dsimp only at hSw); (first | (go_simp; done) | (go_simp; with_reducible rfl)))
  try simp only [Act.put, List.setIfInBounds_toArray, List.set_cons_zero, List.set_cons_succ]
  refine take_at 11 90 (v := ?v11) rfl rfl (by kernel_rfl) (by kernel_rfl) (by kernel_rfl) (fun _ _ _ h => h) (by rfl) ?y11 (by assumption) ?r11
  case y11 => (intro w hSw; (try dsimp only at hSw); (first | (go_simp; done) | (go_simp; with_reducible rfl)))
  try simp only [Act.put, List.setIfInBounds_toArray, List.set_cons_zero, List.set_cons_succ]
  refine take_at 12 91 (v := ?v12) rfl rfl (by kernel_rfl) (by kernel_rfl) (by kernel_rfl) (fun _ _ _ h => h) (by rfl) ?y12 (by assumption) ?r12
  case y12 => (intro w hSw; (try dsimp only at hSw); (first | (go_simp; done) | (go_simp; with_reducible rfl)))
  try simp only [Act.put, List.setIfInBounds_toArray, List.set_cons_zero, List.set_cons_succ]
  refine take_at 13 92 (v := ?v13) rfl rfl (by kernel_rfl) (by kernel_rfl) (by kernel_rfl) (fun _ _ _ h => h) (by rfl) ?y13 (by assumption) ?r13
  case y13 => (intro w hSw; (try dsimp only at hSw); (first | (go_simp; done) | (go_simp; with_reducible rfl)))
  try simp only [Act.put, List.setIfInBounds_toArray, List.set_cons_zero, List.set_cons_succ]
  refine take_at 14 93 (v := ?v14) rfl rfl (by kernel_rfl) (by kernel_rfl) (by kernel_rfl) (fun _ _ _ h => h) (by rfl) ?y14 (by assumption) ?r14
  case y14 => (intro w hSw; (try dsimp only at hSw); (first | (go_simp; done) | (go_simp; with_reducible rfl)))
  try simp only [Act.put, List.setIfInBounds_toArray, List.set_cons_zero, List.set_cons_succ]
  refine take_at 15 94 (v := ?v15) rfl rfl (by kernel_rfl) (by kernel_rfl) (by kernel_rfl) (fun _ _ _ h => h) (by rfl) ?y15 (by assumption) ?r15
  case y15 => (intro w hSw; (try dsimp only at hSw); (first | (go_simp; done) | (go_simp; with_reducible rfl)))
  try simp only [Act.put, List.setIfInBounds_toArray, List.set_cons_zero, List.set_cons_succ]
  refine take_at 16 95 (v := ?v16) rfl rfl (by kernel_rfl) (by kernel_rfl) (by kernel_rfl) (fun _ _ _ h => h) (by rfl) ?y16 (by assumption) ?r16
  case y16 => (intro w hSw; (try dsimp only at hSw); (first | (go_simp; done) | (go_simp; with_reducible rfl)))
  try simp only [Act.put, List.setIfInBounds_toArray, List.set_cons_zero, List.set_cons_succ]
  refine take_at 17 96 (v := ?v17) rfl rfl (by kernel_rfl) (by kernel_rfl) (by kernel_rfl) (fun _ _ _ h => h) (by rfl) ?y17 (by assumption) ?r17
  case y17 => (intro w hSw; (try dsimp only at hSw); (first | (go_simp; done) | (go_simp; with_reducible rfl)))
  try simp only [Act.put, List.setIfInBounds_toArray, List.set_cons_zero, List.set_cons_succ]
  refine take_at 18 97 (v := ?v18) rfl rfl (by kernel_rfl) (by kernel_rfl) (by kernel_rfl) (fun _ _ _ h => h) (by rfl) ?y18 (by assumption) ?r18
  case y18 => (intro w hSw; (try dsimp only at hSw); (first | (go_simp; done) | (go_simp; with_reducible rfl)))
  try simp only [Act.put, List.setIfInBounds_toArray, List.set_cons_zero, List.set_cons_succ]
  refine take_at 19 98 (v := ?v19) rfl rfl (by kernel_rfl) (by kernel_rfl) (by kernel_rfl) (fun _ _ _ h => h) (by rfl) ?y19 (by assumption) ?r19
  case y19 => (intro w hSw; (try dsimp only at hSw); (first | (go_simp; done) | (go_simp; with_reducible rfl)))
  try simp only [Act.put, List.setIfInBounds_toArray, List.set_cons_zero, List.set_cons_succ]
  refine take_at 20 99 (v := ?v20) rfl rfl (by kernel_rfl) (by kernel_rfl) (by kernel_rfl) (fun _ _ _ h => h) (by rfl) ?y20 (by assumption) ?r20
  case y20 => (intro w hSw; (try dsimp only at hSw); (first | (go_simp; done) | (go_simp; with_reducible rfl)))
  try simp only [Act.put, List.setIfInBounds_toArray, List.set_cons_zero, List.set_cons_succ]
  refine take_at 21 100 (v := ?v21) rfl rfl (by kernel_rfl) (by kernel_rfl) (by kernel_rfl) (fun _ _ _ h => h) (by rfl) ?y21 (by assumption) ?r21
  case y21 => (intro w hSw; (try dsimp only at hSw); (first | (go_simp; done) | (go_simp; with_reducible rfl)))
  try simp only [Act.put, List.setIfInBounds_toArray, List.set_cons_zero, List.set_cons_succ]
  refine take_at 22 101 (v := ?v22) rfl rfl (by kernel_rfl) (by kernel_rfl) (by kernel_rfl) (fun _ _ _ h => h) (by rfl) ?y22 (by assumption) ?r22
  case y22 => (intro w hSw; (try dsimp only at hSw); (first | (go_simp; done) | (go_simp; with_reducible rfl)))
  try simp only [Act.put, List.setIfInBounds_toArray, List.set_cons_zero, List.set_cons_succ]
  refine take_at 23 102 (v := ?v23) rfl rfl (by kernel_rfl) (by kernel_rfl) (by kernel_rfl) (fun _ _ _ h => h) (by rfl) ?y23 (by assumption) ?r23
  case y23 => (intro w hSw; (try dsimp only at hSw); (first | (go_simp; done) | (go_simp; with_reducible rfl)))
  try simp only [Act.put, List.setIfInBounds_toArray, List.set_cons_zero, List.set_cons_succ]
  refine take_at 25 104 (v := ?v25) rfl rfl (by kernel_rfl) (by kernel_rfl) (by kernel_rfl) (fun _ _ _ h => h) (by rfl) ?y25 (by assumption) ?r25
  case y25 => (intro w hSw; (try dsimp only at hSw); (first | (go_simp; done) | (go_simp; with_reducible rfl)))
  try simp only [Act.put, List.setIfInBounds_toArray, List.set_cons_zero, List.set_cons_succ]
  refine take_at 27 106 (v := ?v27) rfl rfl (by kernel_rfl) (by kernel_rfl) (by kernel_rfl) (fun _ _ _ h => h) (by rfl) ?y27 (by assumption) ?r27
  case y27 => (intro w hSw; (try dsimp only at hSw); (first | (go_simp; done) | (go_simp; with_reducible rfl)))
  try simp only [Act.put, List.setIfInBounds_toArray, List.set_cons_zero, List.set_cons_succ]
  refine come_at 24 rfl (by kernel_rfl) (by rfl) (fun K hK => ?_)
  go_simp
  (with_reducible refine (L1.out _).mono ?_)
  rintro e u0 ⟨rfl, hx0⟩
  have E0 : Below V5.heap.size V5 u0 := P0.trans (hx0.mono P0.size)
  go_wp2_with fail
  refine hK.out _ _ (KS.out _ E0) (fun hHeld2 => ?_)
  clear hK K hHeld
  have hHeld := hHeld2
  clear hHeld2
  try simp only [Act.put, List.setIfInBounds_toArray, List.set_cons_zero, List.set_cons_succ]
  refine come_at 26 rfl (by kernel_rfl) (by rfl) (fun K hK => ?_)
  go_simp
  (with_reducible refine (L2.out _).mono ?_)
  rintro e u1 ⟨rfl, hx1⟩
  have E1 : Below V5.heap.size V5 u1 := E0.trans (hx1.mono E0.size)
  go_wp2_with fail
  refine hK.out _ _ (KS.out _ E1) (fun hHeld2 => ?_)
  clear hK K hHeld
  have hHeld := hHeld2
  clear hHeld2
  try simp only [Act.put, List.setIfInBounds_toArray, List.set_cons_zero, List.set_cons_succ]
  refine come_at 28 rfl (by kernel_rfl) (by rfl) (fun K hK => ?_)
  go_simp
  (with_reducible refine (L3.out _).mono ?_)
  rintro e u2 ⟨rfl, hx2⟩
  have E2 : Below V5.heap.size V5 u2 := E1.trans (hx2.mono E1.size)
  go_wp2_with fail
  refine hK.out _ _ (KS.out _ E2) (fun hHeld2 => ?_)
  clear hK K hHeld
  have hHeld := hHeld2
  clear hHeld2
  try simp only [Act.put, List.setIfInBounds_toArray, List.set_cons_zero, List.set_cons_succ]
  refine take_at 29 108 (v := ?v29) rfl rfl (by kernel_rfl) (by kernel_rfl) (by kernel_rfl) (fun _ _ _ h => h) (by rfl) ?y29 (by assumption) ?r29
  case y29 => (intro w hSw; (try dsimp only at hSw); (first | (go_simp; done) | (go_simp; with_reducible rfl)))
  try simp only [Act.put, List.setIfInBounds_toArray, List.set_cons_zero, List.set_cons_succ]
  refine take_at 30 109 (v := ?v30) rfl rfl (by kernel_rfl) (by kernel_rfl) (by kernel_rfl) (fun _ _ _ h => h) (by rfl) ?y30 (by assumption) ?r30
  case y30 => (intro w hSw; (try dsimp only at hSw); (first | (go_simp; done) | (go_simp; with_reducible rfl)))
  try simp only [Act.put, List.setIfInBounds_toArray, List.set_cons_zero, List.set_cons_succ]
  refine take_at 31 110 (v := ?v31) rfl rfl (by kernel_rfl) (by kernel_rfl) (by kernel_rfl) (fun _ _ _ h => h) (by rfl) ?y31 (by assumption) ?r31
  case y31 => (intro w hSw; (try dsimp only at hSw); (first | (go_simp; done) | (go_simp; with_reducible rfl)))
  try simp only [Act.put, List.setIfInBounds_toArray, List.set_cons_zero, List.set_cons_succ]
  refine take_at 32 6 (v := ?v32) rfl rfl (by kernel_rfl) (by kernel_rfl) (by kernel_rfl) (fun _ _ _ h => h) (by rfl) ?y32 (by assumption) ?r32
  case y32 => (intro w hSw; (try dsimp only at hSw); (first | (go_simp; done) | (go_simp; with_reducible rfl)))
  try simp only [Act.put, List.setIfInBounds_toArray, List.set_cons_zero, List.set_cons_succ]
  refine wpAnyH_done (by kernel_rfl) ?_ _
  go_wp2_with fail
  go_ret
  exact ⟨rfl, B.trans (E2.mono B.size)⟩
set_option maxHeartbeats 4000000 in
set_option maxRecDepth 100000 in
theorem meets_iln (a b c d k : Int) (w : World) (hT : Lw w) (h1 : yB a b = true) (h2 : yB c d = true) (k0 : -32768 ≤ k) (k1 : k ≤ 32767) (pa1 : decide (a ≤ k) = true) (pa2 : decide (k ≤ b) = true) (pb1 : decide (c ≤ k) = false) (u v : Int) (hu : min a c = u) (hv : max b d = v) (h3 : min b d < max a c) (ph1 : decide (u ≤ k) = true) (ph2 : decide (k ≤ v) = true) (h4 : yB u v = true) (l m n : Int) (hl : v - u + 1 = l) (hm : b - a + 1 = m) (hn : d - c + 1 = n) (e1 : m ≤ l) (e2 : n ≤ l) :
    Calls Tryd.prog 8 #[.agg #[.int .i64 a, .int .i64 b], .agg #[.int .i64 c, .int .i64 d], .int .i16 k] w fun e w' => e = .returned (.bool true) ∧ Below w.heap.size w w' := by
  have HT := hide hT
  have QH := hide (fun W => hullY_v a b c d W h1 h2 u v hu hv)
  have MM := hide (fun W => meet_none a b c d W h1 h2 h3)
  have L1 := hide (fun W => length_v u v W h4 l hl)
  have L2 := hide (fun W => length_v a b W h1 m hm)
  have L3 := hide (fun W => length_v c d W h2 n hn)
  have d3 : decide (max m n ≤ l) = true := decide_eq_true (by omega)
  clear hu hv h3 h4 hl hm hn
  have H1 := hide h1
  have H2 := hide h2
  clear hT h1 h2
  go_enter Tryd.func8, Tryd.ntmps8
  go_wp2_with fail
  generalize hW : (w.alloc _).alloc _ = W
  obtain ⟨B, b0, b1⟩ := boxesA2 hW
  clear hW
  refine (awake_yes _ (HT.out.below B)).mono ?_
  rintro e w1 ⟨rfl, hb⟩
  replace b0 := b0.below' hb
  replace b1 := b1.below' hb
  replace B := B.trans (hb.mono B.size)
  have fb00 : w1.cell? ⟨w.heap.size, 0, none⟩ = some (.int .i64 a) := b0.at_ 0
  have fb01 : w1.cell? ⟨w.heap.size, 1, none⟩ = some (.int .i64 b) := b0.at_ 1
  have zb0 : w.heap.size < w1.heap.size := b0.lt
  have fb10 : w1.cell? ⟨w.heap.size + 1, 0, none⟩ = some (.int .i64 c) := b1.at_ 0
  have fb11 : w1.cell? ⟨w.heap.size + 1, 1, none⟩ = some (.int .i64 d) := b1.at_ 1
  have zb1 : w.heap.size + 1 < w1.heap.size := b1.lt
  clear hb
  go_wp2_with fail
  refine (rvalid_any a b _ true H1.out).mono ?_
  rintro e w2 ⟨rfl, hb⟩
  replace b0 := b0.below' hb
  replace b1 := b1.below' hb
  replace B := B.trans (hb.mono B.size)
  clear fb00 fb01 zb0 fb10 fb11 zb1
  have fb00 : w2.cell? ⟨w.heap.size, 0, none⟩ = some (.int .i64 a) := b0.at_ 0
  have fb01 : w2.cell? ⟨w.heap.size, 1, none⟩ = some (.int .i64 b) := b0.at_ 1
  have zb0 : w.heap.size < w2.heap.size := b0.lt
  have fb10 : w2.cell? ⟨w.heap.size + 1, 0, none⟩ = some (.int .i64 c) := b1.at_ 0
  have fb11 : w2.cell? ⟨w.heap.size + 1, 1, none⟩ = some (.int .i64 d) := b1.at_ 1
  have zb1 : w.heap.size + 1 < w2.heap.size := b1.lt
  clear hb
  go_wp2_with fail
  refine (rvalid_any c d _ true H2.out).mono ?_
  rintro e w3 ⟨rfl, hb⟩
  replace b0 := b0.below' hb
  replace b1 := b1.below' hb
  replace B := B.trans (hb.mono B.size)
  clear fb00 fb01 zb0 fb10 fb11 zb1
  have fb00 : w3.cell? ⟨w.heap.size, 0, none⟩ = some (.int .i64 a) := b0.at_ 0
  have fb01 : w3.cell? ⟨w.heap.size, 1, none⟩ = some (.int .i64 b) := b0.at_ 1
  have zb0 : w.heap.size < w3.heap.size := b0.lt
  have fb10 : w3.cell? ⟨w.heap.size + 1, 0, none⟩ = some (.int .i64 c) := b1.at_ 0
  have fb11 : w3.cell? ⟨w.heap.size + 1, 1, none⟩ = some (.int .i64 d) := b1.at_ 1
  have zb1 : w.heap.size + 1 < w3.heap.size := b1.lt
  clear hb
  go_wp2_with fail
  refine (MM.out _).mono ?_
  rintro e w4 ⟨rfl, hb⟩
  replace b0 := b0.below' hb
  replace b1 := b1.below' hb
  replace B := B.trans (hb.mono B.size)
  clear fb00 fb01 zb0 fb10 fb11 zb1
  have fb00 : w4.cell? ⟨w.heap.size, 0, none⟩ = some (.int .i64 a) := b0.at_ 0
  have fb01 : w4.cell? ⟨w.heap.size, 1, none⟩ = some (.int .i64 b) := b0.at_ 1
  have zb0 : w.heap.size < w4.heap.size := b0.lt
  have fb10 : w4.cell? ⟨w.heap.size + 1, 0, none⟩ = some (.int .i64 c) := b1.at_ 0
  have fb11 : w4.cell? ⟨w.heap.size + 1, 1, none⟩ = some (.int .i64 d) := b1.at_ 1
  have zb1 : w.heap.size + 1 < w4.heap.size := b1.lt
  clear hb
  go_wp2_with fail
  generalize hW : w4.alloc _ = V4
  obtain ⟨hb, bm⟩ := boxA hW
  replace b0 := b0.below' hb
  replace b1 := b1.below' hb
  replace B := B.trans (hb.mono B.size)
  clear fb00 fb01 zb0 fb10 fb11 zb1
  generalize w4.heap.size = gbm at *
  have fb00 : V4.cell? ⟨w.heap.size, 0, none⟩ = some (.int .i64 a) := b0.at_ 0
  have fb01 : V4.cell? ⟨w.heap.size, 1, none⟩ = some (.int .i64 b) := b0.at_ 1
  have zb0 : w.heap.size < V4.heap.size := b0.lt
  have fb10 : V4.cell? ⟨w.heap.size + 1, 0, none⟩ = some (.int .i64 c) := b1.at_ 0
  have fb11 : V4.cell? ⟨w.heap.size + 1, 1, none⟩ = some (.int .i64 d) := b1.at_ 1
  have zb1 : w.heap.size + 1 < V4.heap.size := b1.lt
  have fbm0 : V4.cell? ⟨gbm, 0, none⟩ = some (.int .i64 0) := bm.at_ 0
  have fbm1 : V4.cell? ⟨gbm, 1, none⟩ = some (.int .i64 0) := bm.at_ 1
  have zbm : gbm < V4.heap.size := bm.lt
  clear hW hb
  go_wp2_with fail
  refine (QH.out _).mono ?_
  rintro e w5 ⟨rfl, hb⟩
  replace b0 := b0.below' hb
  replace b1 := b1.below' hb
  replace bm := bm.below' hb
  replace B := B.trans (hb.mono B.size)
  clear fb00 fb01 zb0 fb10 fb11 zb1 fbm0 fbm1 zbm
  have fb00 : w5.cell? ⟨w.heap.size, 0, none⟩ = some (.int .i64 a) := b0.at_ 0
  have fb01 : w5.cell? ⟨w.heap.size, 1, none⟩ = some (.int .i64 b) := b0.at_ 1
  have zb0 : w.heap.size < w5.heap.size := b0.lt
  have fb10 : w5.cell? ⟨w.heap.size + 1, 0, none⟩ = some (.int .i64 c) := b1.at_ 0
  have fb11 : w5.cell? ⟨w.heap.size + 1, 1, none⟩ = some (.int .i64 d) := b1.at_ 1
  have zb1 : w.heap.size + 1 < w5.heap.size := b1.lt
  have fbm0 : w5.cell? ⟨gbm, 0, none⟩ = some (.int .i64 0) := bm.at_ 0
  have fbm1 : w5.cell? ⟨gbm, 1, none⟩ = some (.int .i64 0) := bm.at_ 1
  have zbm : gbm < w5.heap.size := bm.lt
  clear hb
  go_wp2_with fail
  generalize hW : w5.alloc _ = V5
  obtain ⟨hb, bh⟩ := boxA hW
  replace b0 := b0.below' hb
  replace b1 := b1.below' hb
  replace bm := bm.below' hb
  replace B := B.trans (hb.mono B.size)
  clear fb00 fb01 zb0 fb10 fb11 zb1 fbm0 fbm1 zbm
  generalize w5.heap.size = gbh at *
  have fb00 : V5.cell? ⟨w.heap.size, 0, none⟩ = some (.int .i64 a) := b0.at_ 0
  have fb01 : V5.cell? ⟨w.heap.size, 1, none⟩ = some (.int .i64 b) := b0.at_ 1
  have zb0 : w.heap.size < V5.heap.size := b0.lt
  have fb10 : V5.cell? ⟨w.heap.size + 1, 0, none⟩ = some (.int .i64 c) := b1.at_ 0
  have fb11 : V5.cell? ⟨w.heap.size + 1, 1, none⟩ = some (.int .i64 d) := b1.at_ 1
  have zb1 : w.heap.size + 1 < V5.heap.size := b1.lt
  have fbm0 : V5.cell? ⟨gbm, 0, none⟩ = some (.int .i64 0) := bm.at_ 0
  have fbm1 : V5.cell? ⟨gbm, 1, none⟩ = some (.int .i64 0) := bm.at_ 1
  have zbm : gbm < V5.heap.size := bm.lt
  have fbh0 : V5.cell? ⟨gbh, 0, none⟩ = some (.int .i64 u) := bh.at_ 0
  have fbh1 : V5.cell? ⟨gbh, 1, none⟩ = some (.int .i64 v) := bh.at_ 1
  have zbh : gbh < V5.heap.size := bh.lt
  clear hW hb
  go_wp2_with fail
  have KS : Hid (∀ w', Below V5.heap.size V5 w' → w'.cell? ⟨w.heap.size, 0, none⟩ = some (.int .i64 a) ∧ w'.cell? ⟨w.heap.size, 1, none⟩ = some (.int .i64 b) ∧ w'.cell? ⟨w.heap.size + 1, 0, none⟩ = some (.int .i64 c) ∧ w'.cell? ⟨w.heap.size + 1, 1, none⟩ = some (.int .i64 d) ∧ w'.cell? ⟨gbh, 0, none⟩ = some (.int .i64 u) ∧ w'.cell? ⟨gbh, 1, none⟩ = some (.int .i64 v)) := fun w' h => ⟨(b0.below' h).at_ 0, (b0.below' h).at_ 1, (b1.below' h).at_ 0, (b1.below' h).at_ 1, (bh.below' h).at_ 0, (bh.below' h).at_ 1⟩
  have P0 : Below V5.heap.size V5 V5.drew := (Below.refl _ _).drew
  refine wp_region_held_drew (S := (fun w' => w'.cell? ⟨w.heap.size, 0, none⟩ = some (.int .i64 a) ∧ w'.cell? ⟨w.heap.size, 1, none⟩ = some (.int .i64 b) ∧ w'.cell? ⟨w.heap.size + 1, 0, none⟩ = some (.int .i64 c) ∧ w'.cell? ⟨w.heap.size + 1, 1, none⟩ = some (.int .i64 d) ∧ w'.cell? ⟨gbh, 0, none⟩ = some (.int .i64 u) ∧ w'.cell? ⟨gbh, 1, none⟩ = some (.int .i64 v))) (by kernel_rfl) (KS.out _ P0) (fun hHeld => ?_)
  refine take_at 0 79 (v := ?v0) rfl rfl (by kernel_rfl) (by kernel_rfl) (by kernel_rfl) (fun _ _ _ h => h) (by rfl) ?y0 (by assumption) ?r0
  case y0 => (intro w hSw; (try dsimp only at hSw); (first | (go_simp; done) | (go_simp; with_reducible rfl)))
  try simp only [Act.put, List.setIfInBounds_toArray, List.set_cons_zero, List.set_cons_succ]
  refine take_at 1 80 (v := ?v1) rfl rfl (by kernel_rfl) (by kernel_rfl) (by kernel_rfl) (fun _ _ _ h => h) (by rfl) ?y1 (by assumption) ?r1
  case y1 => (intro w hSw; (try dsimp only at hSw); (first | (go_simp; done) | (go_simp; with_reducible rfl)))
  try simp only [Act.put, List.setIfInBounds_toArray, List.set_cons_zero, List.set_cons_succ]
  refine take_at 2 81 (v := ?v2) rfl rfl (by kernel_rfl) (by kernel_rfl) (by kernel_rfl) (fun _ _ _ h => h) (by rfl) ?y2 (by assumption) ?r2
  case y2 => (intro w hSw; (try dsimp only at hSw); (first | (go_simp; done) | (go_simp; with_reducible rfl)))
  try simp only [Act.put, List.setIfInBounds_toArray, List.set_cons_zero, List.set_cons_succ]
  refine take_at 3 82 (v := ?v3) rfl rfl (by kernel_rfl) (by kernel_rfl) (by kernel_rfl) (fun _ _ _ h => h) (by rfl) ?y3 (by assumption) ?r3
  case y3 => (intro w hSw; (try dsimp only at hSw); (first | (go_simp; done) | (go_simp; with_reducible rfl)))
  try simp only [Act.put, List.setIfInBounds_toArray, List.set_cons_zero, List.set_cons_succ]
  refine take_at 4 83 (v := ?v4) rfl rfl (by kernel_rfl) (by kernel_rfl) (by kernel_rfl) (fun _ _ _ h => h) (by rfl) ?y4 (by assumption) ?r4
  case y4 => (intro w hSw; (try dsimp only at hSw); (first | (go_simp; done) | (go_simp; with_reducible rfl)))
  try simp only [Act.put, List.setIfInBounds_toArray, List.set_cons_zero, List.set_cons_succ]
  refine take_at 5 84 (v := ?v5) rfl rfl (by kernel_rfl) (by kernel_rfl) (by kernel_rfl) (fun _ _ _ h => h) (by rfl) ?y5 (by assumption) ?r5
  case y5 => (intro w hSw; (try dsimp only at hSw); (first | (go_simp; done) | (go_simp; with_reducible rfl)))
  try simp only [Act.put, List.setIfInBounds_toArray, List.set_cons_zero, List.set_cons_succ]
  refine pass_at 6 85 rfl rfl (by kernel_rfl) (by kernel_rfl) (by kernel_rfl) (fun _ _ _ h => h) (by rfl) (by assumption) ?_
  try simp only [Act.put, List.setIfInBounds_toArray, List.set_cons_zero, List.set_cons_succ]
  refine pass_at 7 86 rfl rfl (by kernel_rfl) (by kernel_rfl) (by kernel_rfl) (fun _ _ _ h => h) (by rfl) (by assumption) ?_
  try simp only [Act.put, List.setIfInBounds_toArray, List.set_cons_zero, List.set_cons_succ]
  refine take_at 8 87 (v := ?v8) rfl rfl (by kernel_rfl) (by kernel_rfl) (by kernel_rfl) (fun _ _ _ h => h) (by rfl) ?y8 (by assumption) ?r8
  case y8 => (intro w hSw; (try dsimp only at hSw); (first | (go_simp; done) | (go_simp; with_reducible rfl)))
  try simp only [Act.put, List.setIfInBounds_toArray, List.set_cons_zero, List.set_cons_succ]
  refine take_at 9 88 (v := ?v9) rfl rfl (by kernel_rfl) (by kernel_rfl) (by kernel_rfl) (fun _ _ _ h => h) (by rfl) ?y9 (by assumption) ?r9
  case y9 => (intro w hSw; (try dsimp only at hSw); (first | (go_simp; done) | (go_simp; with_reducible rfl)))
  try simp only [Act.put, List.setIfInBounds_toArray, List.set_cons_zero, List.set_cons_succ]
  refine take_at 10 89 (v := ?v10) rfl rfl (by kernel_rfl) (by kernel_rfl) (by kernel_rfl) (fun _ _ _ h => h) (by rfl) ?y10 (by assumption) ?r10
  case y10 => (intro w hSw; (try dsimp only at hSw); (first | (go_simp; done) | (go_simp; with_reducible rfl)))
  try simp only [Act.put, List.setIfInBounds_toArray, List.set_cons_zero, List.set_cons_succ]
  refine take_at 11 90 (v := ?v11) rfl rfl (by kernel_rfl) (by kernel_rfl) (by kernel_rfl) (fun _ _ _ h => h) (by rfl) ?y11 (by assumption) ?r11
  case y11 => (intro w hSw; (try dsimp only at hSw); (first | (go_simp; done) | (go_simp; with_reducible rfl)))
  try simp only [Act.put, List.setIfInBounds_toArray, List.set_cons_zero, List.set_cons_succ]
  refine take_at 12 91 (v := ?v12) rfl rfl (by kernel_rfl) (by kernel_rfl) (by kernel_rfl) (fun _ _ _ h => h) (by rfl) ?y12 (by assumption) ?r12
  case y12 => (intro w hSw; (try dsimp only at hSw); (first | (go_simp; done) | (go_simp; with_reducible rfl)))
  try simp only [Act.put, List.setIfInBounds_toArray, List.set_cons_zero, List.set_cons_succ]
  refine take_at 13 92 (v := ?v13) rfl rfl (by kernel_rfl) (by kernel_rfl) (by kernel_rfl) (fun _ _ _ h => h) (by rfl) ?y13 (by assumption) ?r13
  case y13 => (intro w hSw; (try dsimp only at hSw); (first | (go_simp; done) | (go_simp; with_reducible rfl)))
  try simp only [Act.put, List.setIfInBounds_toArray, List.set_cons_zero, List.set_cons_succ]
  refine take_at 14 93 (v := ?v14) rfl rfl (by kernel_rfl) (by kernel_rfl) (by kernel_rfl) (fun _ _ _ h => h) (by rfl) ?y14 (by assumption) ?r14
  case y14 => (intro w hSw; (try dsimp only at hSw); (first | (go_simp; done) | (go_simp; with_reducible rfl)))
  try simp only [Act.put, List.setIfInBounds_toArray, List.set_cons_zero, List.set_cons_succ]
  refine take_at 15 94 (v := ?v15) rfl rfl (by kernel_rfl) (by kernel_rfl) (by kernel_rfl) (fun _ _ _ h => h) (by rfl) ?y15 (by assumption) ?r15
  case y15 => (intro w hSw; (try dsimp only at hSw); (first | (go_simp; done) | (go_simp; with_reducible rfl)))
  try simp only [Act.put, List.setIfInBounds_toArray, List.set_cons_zero, List.set_cons_succ]
  refine take_at 16 95 (v := ?v16) rfl rfl (by kernel_rfl) (by kernel_rfl) (by kernel_rfl) (fun _ _ _ h => h) (by rfl) ?y16 (by assumption) ?r16
  case y16 => (intro w hSw; (try dsimp only at hSw); (first | (go_simp; done) | (go_simp; with_reducible rfl)))
  try simp only [Act.put, List.setIfInBounds_toArray, List.set_cons_zero, List.set_cons_succ]
  refine take_at 17 96 (v := ?v17) rfl rfl (by kernel_rfl) (by kernel_rfl) (by kernel_rfl) (fun _ _ _ h => h) (by rfl) ?y17 (by assumption) ?r17
  case y17 => (intro w hSw; (try dsimp only at hSw); (first | (go_simp; done) | (go_simp; with_reducible rfl)))
  try simp only [Act.put, List.setIfInBounds_toArray, List.set_cons_zero, List.set_cons_succ]
  refine take_at 18 97 (v := ?v18) rfl rfl (by kernel_rfl) (by kernel_rfl) (by kernel_rfl) (fun _ _ _ h => h) (by rfl) ?y18 (by assumption) ?r18
  case y18 => (intro w hSw; (try dsimp only at hSw); (first | (go_simp; done) | (go_simp; with_reducible rfl)))
  try simp only [Act.put, List.setIfInBounds_toArray, List.set_cons_zero, List.set_cons_succ]
  refine take_at 19 98 (v := ?v19) rfl rfl (by kernel_rfl) (by kernel_rfl) (by kernel_rfl) (fun _ _ _ h => h) (by rfl) ?y19 (by assumption) ?r19
  case y19 => (intro w hSw; (try dsimp only at hSw); (first | (go_simp; done) | (go_simp; with_reducible rfl)))
  try simp only [Act.put, List.setIfInBounds_toArray, List.set_cons_zero, List.set_cons_succ]
  refine take_at 20 99 (v := ?v20) rfl rfl (by kernel_rfl) (by kernel_rfl) (by kernel_rfl) (fun _ _ _ h => h) (by rfl) ?y20 (by assumption) ?r20
  case y20 => (intro w hSw; (try dsimp only at hSw); (first | (go_simp; done) | (go_simp; with_reducible rfl)))
  try simp only [Act.put, List.setIfInBounds_toArray, List.set_cons_zero, List.set_cons_succ]
  refine take_at 21 100 (v := ?v21) rfl rfl (by kernel_rfl) (by kernel_rfl) (by kernel_rfl) (fun _ _ _ h => h) (by rfl) ?y21 (by assumption) ?r21
  case y21 => (intro w hSw; (try dsimp only at hSw); (first | (go_simp; done) | (go_simp; with_reducible rfl)))
  try simp only [Act.put, List.setIfInBounds_toArray, List.set_cons_zero, List.set_cons_succ]
  refine take_at 22 101 (v := ?v22) rfl rfl (by kernel_rfl) (by kernel_rfl) (by kernel_rfl) (fun _ _ _ h => h) (by rfl) ?y22 (by assumption) ?r22
  case y22 => (intro w hSw; (try dsimp only at hSw); (first | (go_simp; done) | (go_simp; with_reducible rfl)))
  try simp only [Act.put, List.setIfInBounds_toArray, List.set_cons_zero, List.set_cons_succ]
  refine take_at 23 102 (v := ?v23) rfl rfl (by kernel_rfl) (by kernel_rfl) (by kernel_rfl) (fun _ _ _ h => h) (by rfl) ?y23 (by assumption) ?r23
  case y23 => (intro w hSw; (try dsimp only at hSw); (first | (go_simp; done) | (go_simp; with_reducible rfl)))
  try simp only [Act.put, List.setIfInBounds_toArray, List.set_cons_zero, List.set_cons_succ]
  refine take_at 25 104 (v := ?v25) rfl rfl (by kernel_rfl) (by kernel_rfl) (by kernel_rfl) (fun _ _ _ h => h) (by rfl) ?y25 (by assumption) ?r25
  case y25 => (intro w hSw; (try dsimp only at hSw); (first | (go_simp; done) | (go_simp; with_reducible rfl)))
  try simp only [Act.put, List.setIfInBounds_toArray, List.set_cons_zero, List.set_cons_succ]
  refine take_at 27 106 (v := ?v27) rfl rfl (by kernel_rfl) (by kernel_rfl) (by kernel_rfl) (fun _ _ _ h => h) (by rfl) ?y27 (by assumption) ?r27
  case y27 => (intro w hSw; (try dsimp only at hSw); (first | (go_simp; done) | (go_simp; with_reducible rfl)))
  try simp only [Act.put, List.setIfInBounds_toArray, List.set_cons_zero, List.set_cons_succ]
  refine come_at 24 rfl (by kernel_rfl) (by rfl) (fun K hK => ?_)
  go_simp
  (with_reducible refine (L1.out _).mono ?_)
  rintro e u0 ⟨rfl, hx0⟩
  have E0 : Below V5.heap.size V5 u0 := P0.trans (hx0.mono P0.size)
  go_wp2_with fail
  refine hK.out _ _ (KS.out _ E0) (fun hHeld2 => ?_)
  clear hK K hHeld
  have hHeld := hHeld2
  clear hHeld2
  try simp only [Act.put, List.setIfInBounds_toArray, List.set_cons_zero, List.set_cons_succ]
  refine come_at 26 rfl (by kernel_rfl) (by rfl) (fun K hK => ?_)
  go_simp
  (with_reducible refine (L2.out _).mono ?_)
  rintro e u1 ⟨rfl, hx1⟩
  have E1 : Below V5.heap.size V5 u1 := E0.trans (hx1.mono E0.size)
  go_wp2_with fail
  refine hK.out _ _ (KS.out _ E1) (fun hHeld2 => ?_)
  clear hK K hHeld
  have hHeld := hHeld2
  clear hHeld2
  try simp only [Act.put, List.setIfInBounds_toArray, List.set_cons_zero, List.set_cons_succ]
  refine come_at 28 rfl (by kernel_rfl) (by rfl) (fun K hK => ?_)
  go_simp
  (with_reducible refine (L3.out _).mono ?_)
  rintro e u2 ⟨rfl, hx2⟩
  have E2 : Below V5.heap.size V5 u2 := E1.trans (hx2.mono E1.size)
  go_wp2_with fail
  refine hK.out _ _ (KS.out _ E2) (fun hHeld2 => ?_)
  clear hK K hHeld
  have hHeld := hHeld2
  clear hHeld2
  try simp only [Act.put, List.setIfInBounds_toArray, List.set_cons_zero, List.set_cons_succ]
  refine take_at 29 108 (v := ?v29) rfl rfl (by kernel_rfl) (by kernel_rfl) (by kernel_rfl) (fun _ _ _ h => h) (by rfl) ?y29 (by assumption) ?r29
  case y29 => (intro w hSw; (try dsimp only at hSw); (first | (go_simp; done) | (go_simp; with_reducible rfl)))
  try simp only [Act.put, List.setIfInBounds_toArray, List.set_cons_zero, List.set_cons_succ]
  refine take_at 30 109 (v := ?v30) rfl rfl (by kernel_rfl) (by kernel_rfl) (by kernel_rfl) (fun _ _ _ h => h) (by rfl) ?y30 (by assumption) ?r30
  case y30 => (intro w hSw; (try dsimp only at hSw); (first | (go_simp; done) | (go_simp; with_reducible rfl)))
  try simp only [Act.put, List.setIfInBounds_toArray, List.set_cons_zero, List.set_cons_succ]
  refine take_at 31 110 (v := ?v31) rfl rfl (by kernel_rfl) (by kernel_rfl) (by kernel_rfl) (fun _ _ _ h => h) (by rfl) ?y31 (by assumption) ?r31
  case y31 => (intro w hSw; (try dsimp only at hSw); (first | (go_simp; done) | (go_simp; with_reducible rfl)))
  try simp only [Act.put, List.setIfInBounds_toArray, List.set_cons_zero, List.set_cons_succ]
  refine take_at 32 6 (v := ?v32) rfl rfl (by kernel_rfl) (by kernel_rfl) (by kernel_rfl) (fun _ _ _ h => h) (by rfl) ?y32 (by assumption) ?r32
  case y32 => (intro w hSw; (try dsimp only at hSw); (first | (go_simp; done) | (go_simp; with_reducible rfl)))
  try simp only [Act.put, List.setIfInBounds_toArray, List.set_cons_zero, List.set_cons_succ]
  refine wpAnyH_done (by kernel_rfl) ?_ _
  go_wp2_with fail
  go_ret
  exact ⟨rfl, B.trans (E2.mono B.size)⟩
set_option maxHeartbeats 4000000 in
set_option maxRecDepth 100000 in
theorem meets_gly (a b c d k : Int) (w : World) (hT : Lw w) (h1 : yB a b = true) (h2 : yB c d = true) (k0 : -32768 ≤ k) (k1 : k ≤ 32767) (pa1 : decide (a ≤ k) = true) (pa2 : decide (k ≤ b) = false) (pb1 : decide (c ≤ k) = false) (u v : Int) (hu : min a c = u) (hv : max b d = v) (x y : Int) (hx : max a c = x) (hy : min b d = y) (h3 : x ≤ y) (pm1 : decide (x ≤ k) = false) (h4 : yB u v = true) (l m n : Int) (hl : v - u + 1 = l) (hm : b - a + 1 = m) (hn : d - c + 1 = n) (e1 : m ≤ l) (e2 : n ≤ l) :
    Calls Tryd.prog 8 #[.agg #[.int .i64 a, .int .i64 b], .agg #[.int .i64 c, .int .i64 d], .int .i16 k] w fun e w' => e = .returned (.bool true) ∧ Below w.heap.size w w' := by
  have HT := hide hT
  have QH := hide (fun W => hullY_v a b c d W h1 h2 u v hu hv)
  have MM := hide (fun W => meetY_v a b c d W h1 h2 x y hx hy h3)
  have L1 := hide (fun W => length_v u v W h4 l hl)
  have L2 := hide (fun W => length_v a b W h1 m hm)
  have L3 := hide (fun W => length_v c d W h2 n hn)
  have d3 : decide (max m n ≤ l) = true := decide_eq_true (by omega)
  clear hu hv h3 h4 hl hm hn hx hy
  have H1 := hide h1
  have H2 := hide h2
  clear hT h1 h2
  go_enter Tryd.func8, Tryd.ntmps8
  go_wp2_with fail
  generalize hW : (w.alloc _).alloc _ = W
  obtain ⟨B, b0, b1⟩ := boxesA2 hW
  clear hW
  refine (awake_yes _ (HT.out.below B)).mono ?_
  rintro e w1 ⟨rfl, hb⟩
  replace b0 := b0.below' hb
  replace b1 := b1.below' hb
  replace B := B.trans (hb.mono B.size)
  have fb00 : w1.cell? ⟨w.heap.size, 0, none⟩ = some (.int .i64 a) := b0.at_ 0
  have fb01 : w1.cell? ⟨w.heap.size, 1, none⟩ = some (.int .i64 b) := b0.at_ 1
  have zb0 : w.heap.size < w1.heap.size := b0.lt
  have fb10 : w1.cell? ⟨w.heap.size + 1, 0, none⟩ = some (.int .i64 c) := b1.at_ 0
  have fb11 : w1.cell? ⟨w.heap.size + 1, 1, none⟩ = some (.int .i64 d) := b1.at_ 1
  have zb1 : w.heap.size + 1 < w1.heap.size := b1.lt
  clear hb
  go_wp2_with fail
  refine (rvalid_any a b _ true H1.out).mono ?_
  rintro e w2 ⟨rfl, hb⟩
  replace b0 := b0.below' hb
  replace b1 := b1.below' hb
  replace B := B.trans (hb.mono B.size)
  clear fb00 fb01 zb0 fb10 fb11 zb1
  have fb00 : w2.cell? ⟨w.heap.size, 0, none⟩ = some (.int .i64 a) := b0.at_ 0
  have fb01 : w2.cell? ⟨w.heap.size, 1, none⟩ = some (.int .i64 b) := b0.at_ 1
  have zb0 : w.heap.size < w2.heap.size := b0.lt
  have fb10 : w2.cell? ⟨w.heap.size + 1, 0, none⟩ = some (.int .i64 c) := b1.at_ 0
  have fb11 : w2.cell? ⟨w.heap.size + 1, 1, none⟩ = some (.int .i64 d) := b1.at_ 1
  have zb1 : w.heap.size + 1 < w2.heap.size := b1.lt
  clear hb
  go_wp2_with fail
  refine (rvalid_any c d _ true H2.out).mono ?_
  rintro e w3 ⟨rfl, hb⟩
  replace b0 := b0.below' hb
  replace b1 := b1.below' hb
  replace B := B.trans (hb.mono B.size)
  clear fb00 fb01 zb0 fb10 fb11 zb1
  have fb00 : w3.cell? ⟨w.heap.size, 0, none⟩ = some (.int .i64 a) := b0.at_ 0
  have fb01 : w3.cell? ⟨w.heap.size, 1, none⟩ = some (.int .i64 b) := b0.at_ 1
  have zb0 : w.heap.size < w3.heap.size := b0.lt
  have fb10 : w3.cell? ⟨w.heap.size + 1, 0, none⟩ = some (.int .i64 c) := b1.at_ 0
  have fb11 : w3.cell? ⟨w.heap.size + 1, 1, none⟩ = some (.int .i64 d) := b1.at_ 1
  have zb1 : w.heap.size + 1 < w3.heap.size := b1.lt
  clear hb
  go_wp2_with fail
  refine (MM.out _).mono ?_
  rintro e w4 ⟨rfl, hb⟩
  replace b0 := b0.below' hb
  replace b1 := b1.below' hb
  replace B := B.trans (hb.mono B.size)
  clear fb00 fb01 zb0 fb10 fb11 zb1
  have fb00 : w4.cell? ⟨w.heap.size, 0, none⟩ = some (.int .i64 a) := b0.at_ 0
  have fb01 : w4.cell? ⟨w.heap.size, 1, none⟩ = some (.int .i64 b) := b0.at_ 1
  have zb0 : w.heap.size < w4.heap.size := b0.lt
  have fb10 : w4.cell? ⟨w.heap.size + 1, 0, none⟩ = some (.int .i64 c) := b1.at_ 0
  have fb11 : w4.cell? ⟨w.heap.size + 1, 1, none⟩ = some (.int .i64 d) := b1.at_ 1
  have zb1 : w.heap.size + 1 < w4.heap.size := b1.lt
  clear hb
  go_wp2_with fail
  generalize hW : w4.alloc _ = V4
  obtain ⟨hb, bm⟩ := boxA hW
  replace b0 := b0.below' hb
  replace b1 := b1.below' hb
  replace B := B.trans (hb.mono B.size)
  clear fb00 fb01 zb0 fb10 fb11 zb1
  generalize w4.heap.size = gbm at *
  have fb00 : V4.cell? ⟨w.heap.size, 0, none⟩ = some (.int .i64 a) := b0.at_ 0
  have fb01 : V4.cell? ⟨w.heap.size, 1, none⟩ = some (.int .i64 b) := b0.at_ 1
  have zb0 : w.heap.size < V4.heap.size := b0.lt
  have fb10 : V4.cell? ⟨w.heap.size + 1, 0, none⟩ = some (.int .i64 c) := b1.at_ 0
  have fb11 : V4.cell? ⟨w.heap.size + 1, 1, none⟩ = some (.int .i64 d) := b1.at_ 1
  have zb1 : w.heap.size + 1 < V4.heap.size := b1.lt
  have fbm0 : V4.cell? ⟨gbm, 0, none⟩ = some (.int .i64 x) := bm.at_ 0
  have fbm1 : V4.cell? ⟨gbm, 1, none⟩ = some (.int .i64 y) := bm.at_ 1
  have zbm : gbm < V4.heap.size := bm.lt
  clear hW hb
  go_wp2_with fail
  refine (QH.out _).mono ?_
  rintro e w5 ⟨rfl, hb⟩
  replace b0 := b0.below' hb
  replace b1 := b1.below' hb
  replace bm := bm.below' hb
  replace B := B.trans (hb.mono B.size)
  clear fb00 fb01 zb0 fb10 fb11 zb1 fbm0 fbm1 zbm
  have fb00 : w5.cell? ⟨w.heap.size, 0, none⟩ = some (.int .i64 a) := b0.at_ 0
  have fb01 : w5.cell? ⟨w.heap.size, 1, none⟩ = some (.int .i64 b) := b0.at_ 1
  have zb0 : w.heap.size < w5.heap.size := b0.lt
  have fb10 : w5.cell? ⟨w.heap.size + 1, 0, none⟩ = some (.int .i64 c) := b1.at_ 0
  have fb11 : w5.cell? ⟨w.heap.size + 1, 1, none⟩ = some (.int .i64 d) := b1.at_ 1
  have zb1 : w.heap.size + 1 < w5.heap.size := b1.lt
  have fbm0 : w5.cell? ⟨gbm, 0, none⟩ = some (.int .i64 x) := bm.at_ 0
  have fbm1 : w5.cell? ⟨gbm, 1, none⟩ = some (.int .i64 y) := bm.at_ 1
  have zbm : gbm < w5.heap.size := bm.lt
  clear hb
  go_wp2_with fail
  generalize hW : w5.alloc _ = V5
  obtain ⟨hb, bh⟩ := boxA hW
  replace b0 := b0.below' hb
  replace b1 := b1.below' hb
  replace bm := bm.below' hb
  replace B := B.trans (hb.mono B.size)
  clear fb00 fb01 zb0 fb10 fb11 zb1 fbm0 fbm1 zbm
  generalize w5.heap.size = gbh at *
  have fb00 : V5.cell? ⟨w.heap.size, 0, none⟩ = some (.int .i64 a) := b0.at_ 0
  have fb01 : V5.cell? ⟨w.heap.size, 1, none⟩ = some (.int .i64 b) := b0.at_ 1
  have zb0 : w.heap.size < V5.heap.size := b0.lt
  have fb10 : V5.cell? ⟨w.heap.size + 1, 0, none⟩ = some (.int .i64 c) := b1.at_ 0
  have fb11 : V5.cell? ⟨w.heap.size + 1, 1, none⟩ = some (.int .i64 d) := b1.at_ 1
  have zb1 : w.heap.size + 1 < V5.heap.size := b1.lt
  have fbm0 : V5.cell? ⟨gbm, 0, none⟩ = some (.int .i64 x) := bm.at_ 0
  have fbm1 : V5.cell? ⟨gbm, 1, none⟩ = some (.int .i64 y) := bm.at_ 1
  have zbm : gbm < V5.heap.size := bm.lt
  have fbh0 : V5.cell? ⟨gbh, 0, none⟩ = some (.int .i64 u) := bh.at_ 0
  have fbh1 : V5.cell? ⟨gbh, 1, none⟩ = some (.int .i64 v) := bh.at_ 1
  have zbh : gbh < V5.heap.size := bh.lt
  clear hW hb
  go_wp2_with fail
  have KS : Hid (∀ w', Below V5.heap.size V5 w' → w'.cell? ⟨w.heap.size, 0, none⟩ = some (.int .i64 a) ∧ w'.cell? ⟨w.heap.size, 1, none⟩ = some (.int .i64 b) ∧ w'.cell? ⟨w.heap.size + 1, 0, none⟩ = some (.int .i64 c) ∧ w'.cell? ⟨w.heap.size + 1, 1, none⟩ = some (.int .i64 d) ∧ w'.cell? ⟨gbh, 0, none⟩ = some (.int .i64 u) ∧ w'.cell? ⟨gbh, 1, none⟩ = some (.int .i64 v)) := fun w' h => ⟨(b0.below' h).at_ 0, (b0.below' h).at_ 1, (b1.below' h).at_ 0, (b1.below' h).at_ 1, (bh.below' h).at_ 0, (bh.below' h).at_ 1⟩
  have P0 : Below V5.heap.size V5 V5.drew := (Below.refl _ _).drew
  refine wp_region_held_drew (S := (fun w' => w'.cell? ⟨w.heap.size, 0, none⟩ = some (.int .i64 a) ∧ w'.cell? ⟨w.heap.size, 1, none⟩ = some (.int .i64 b) ∧ w'.cell? ⟨w.heap.size + 1, 0, none⟩ = some (.int .i64 c) ∧ w'.cell? ⟨w.heap.size + 1, 1, none⟩ = some (.int .i64 d) ∧ w'.cell? ⟨gbh, 0, none⟩ = some (.int .i64 u) ∧ w'.cell? ⟨gbh, 1, none⟩ = some (.int .i64 v))) (by kernel_rfl) (KS.out _ P0) (fun hHeld => ?_)
  refine take_at 0 79 (v := ?v0) rfl rfl (by kernel_rfl) (by kernel_rfl) (by kernel_rfl) (fun _ _ _ h => h) (by rfl) ?y0 (by assumption) ?r0
  case y0 => (intro w hSw; (try dsimp only at hSw); (first | (go_simp; done) | (go_simp; with_reducible rfl)))
  try simp only [Act.put, List.setIfInBounds_toArray, List.set_cons_zero, List.set_cons_succ]
  refine take_at 1 80 (v := ?v1) rfl rfl (by kernel_rfl) (by kernel_rfl) (by kernel_rfl) (fun _ _ _ h => h) (by rfl) ?y1 (by assumption) ?r1
  case y1 => (intro w hSw; (try dsimp only at hSw); (first | (go_simp; done) | (go_simp; with_reducible rfl)))
  try simp only [Act.put, List.setIfInBounds_toArray, List.set_cons_zero, List.set_cons_succ]
  refine take_at 2 81 (v := ?v2) rfl rfl (by kernel_rfl) (by kernel_rfl) (by kernel_rfl) (fun _ _ _ h => h) (by rfl) ?y2 (by assumption) ?r2
  case y2 => (intro w hSw; (try dsimp only at hSw); (first | (go_simp; done) | (go_simp; with_reducible rfl)))
  try simp only [Act.put, List.setIfInBounds_toArray, List.set_cons_zero, List.set_cons_succ]
  refine take_at 3 82 (v := ?v3) rfl rfl (by kernel_rfl) (by kernel_rfl) (by kernel_rfl) (fun _ _ _ h => h) (by rfl) ?y3 (by assumption) ?r3
  case y3 => (intro w hSw; (try dsimp only at hSw); (first | (go_simp; done) | (go_simp; with_reducible rfl)))
  try simp only [Act.put, List.setIfInBounds_toArray, List.set_cons_zero, List.set_cons_succ]
  refine take_at 4 83 (v := ?v4) rfl rfl (by kernel_rfl) (by kernel_rfl) (by kernel_rfl) (fun _ _ _ h => h) (by rfl) ?y4 (by assumption) ?r4
  case y4 => (intro w hSw; (try dsimp only at hSw); (first | (go_simp; done) | (go_simp; with_reducible rfl)))
  try simp only [Act.put, List.setIfInBounds_toArray, List.set_cons_zero, List.set_cons_succ]
  refine take_at 5 84 (v := ?v5) rfl rfl (by kernel_rfl) (by kernel_rfl) (by kernel_rfl) (fun _ _ _ h => h) (by rfl) ?y5 (by assumption) ?r5
  case y5 => (intro w hSw; (try dsimp only at hSw); (first | (go_simp; done) | (go_simp; with_reducible rfl)))
  try simp only [Act.put, List.setIfInBounds_toArray, List.set_cons_zero, List.set_cons_succ]
  refine take_at 6 85 (v := ?v6) rfl rfl (by kernel_rfl) (by kernel_rfl) (by kernel_rfl) (fun _ _ _ h => h) (by rfl) ?y6 (by assumption) ?r6
  case y6 => (intro w hSw; (try dsimp only at hSw); (first | (go_simp; done) | (go_simp; with_reducible rfl)))
  try simp only [Act.put, List.setIfInBounds_toArray, List.set_cons_zero, List.set_cons_succ]
  refine take_at 7 86 (v := ?v7) rfl rfl (by kernel_rfl) (by kernel_rfl) (by kernel_rfl) (fun _ _ _ h => h) (by rfl) ?y7 (by assumption) ?r7
  case y7 => (intro w hSw; (try dsimp only at hSw); (first | (go_simp; done) | (go_simp; with_reducible rfl)))
  try simp only [Act.put, List.setIfInBounds_toArray, List.set_cons_zero, List.set_cons_succ]
  refine take_at 8 87 (v := ?v8) rfl rfl (by kernel_rfl) (by kernel_rfl) (by kernel_rfl) (fun _ _ _ h => h) (by rfl) ?y8 (by assumption) ?r8
  case y8 => (intro w hSw; (try dsimp only at hSw); (first | (go_simp; done) | (go_simp; with_reducible rfl)))
  try simp only [Act.put, List.setIfInBounds_toArray, List.set_cons_zero, List.set_cons_succ]
  refine take_at 9 88 (v := ?v9) rfl rfl (by kernel_rfl) (by kernel_rfl) (by kernel_rfl) (fun _ _ _ h => h) (by rfl) ?y9 (by assumption) ?r9
  case y9 => (intro w hSw; (try dsimp only at hSw); (first | (go_simp; done) | (go_simp; with_reducible rfl)))
  try simp only [Act.put, List.setIfInBounds_toArray, List.set_cons_zero, List.set_cons_succ]
  refine pass_at 10 89 rfl rfl (by kernel_rfl) (by kernel_rfl) (by kernel_rfl) (fun _ _ _ h => h) (by rfl) (by assumption) ?_
  try simp only [Act.put, List.setIfInBounds_toArray, List.set_cons_zero, List.set_cons_succ]
  refine pass_at 11 90 rfl rfl (by kernel_rfl) (by kernel_rfl) (by kernel_rfl) (fun _ _ _ h => h) (by rfl) (by assumption) ?_
  try simp only [Act.put, List.setIfInBounds_toArray, List.set_cons_zero, List.set_cons_succ]
  refine pass_at 12 91 rfl rfl (by kernel_rfl) (by kernel_rfl) (by kernel_rfl) (fun _ _ _ h => h) (by rfl) (by assumption) ?_
  try simp only [Act.put, List.setIfInBounds_toArray, List.set_cons_zero, List.set_cons_succ]
  refine pass_at 13 92 rfl rfl (by kernel_rfl) (by kernel_rfl) (by kernel_rfl) (fun _ _ _ h => h) (by rfl) (by assumption) ?_
  try simp only [Act.put, List.setIfInBounds_toArray, List.set_cons_zero, List.set_cons_succ]
  refine pass_at 14 93 rfl rfl (by kernel_rfl) (by kernel_rfl) (by kernel_rfl) (fun _ _ _ h => h) (by rfl) (by assumption) ?_
  try simp only [Act.put, List.setIfInBounds_toArray, List.set_cons_zero, List.set_cons_succ]
  refine pass_at 15 94 rfl rfl (by kernel_rfl) (by kernel_rfl) (by kernel_rfl) (fun _ _ _ h => h) (by rfl) (by assumption) ?_
  try simp only [Act.put, List.setIfInBounds_toArray, List.set_cons_zero, List.set_cons_succ]
  refine pass_at 16 95 rfl rfl (by kernel_rfl) (by kernel_rfl) (by kernel_rfl) (fun _ _ _ h => h) (by rfl) (by assumption) ?_
  try simp only [Act.put, List.setIfInBounds_toArray, List.set_cons_zero, List.set_cons_succ]
  refine pass_at 17 96 rfl rfl (by kernel_rfl) (by kernel_rfl) (by kernel_rfl) (fun _ _ _ h => h) (by rfl) (by assumption) ?_
  try simp only [Act.put, List.setIfInBounds_toArray, List.set_cons_zero, List.set_cons_succ]
  refine pass_at 18 97 rfl rfl (by kernel_rfl) (by kernel_rfl) (by kernel_rfl) (fun _ _ _ h => h) (by rfl) (by assumption) ?_
  try simp only [Act.put, List.setIfInBounds_toArray, List.set_cons_zero, List.set_cons_succ]
  refine pass_at 19 98 rfl rfl (by kernel_rfl) (by kernel_rfl) (by kernel_rfl) (fun _ _ _ h => h) (by rfl) (by assumption) ?_
  try simp only [Act.put, List.setIfInBounds_toArray, List.set_cons_zero, List.set_cons_succ]
  refine take_at 20 99 (v := ?v20) rfl rfl (by kernel_rfl) (by kernel_rfl) (by kernel_rfl) (fun _ _ _ h => h) (by rfl) ?y20 (by assumption) ?r20
  case y20 => (intro w hSw; (try dsimp only at hSw); (first | (go_simp; done) | (go_simp; with_reducible rfl)))
  try simp only [Act.put, List.setIfInBounds_toArray, List.set_cons_zero, List.set_cons_succ]
  refine take_at 21 100 (v := ?v21) rfl rfl (by kernel_rfl) (by kernel_rfl) (by kernel_rfl) (fun _ _ _ h => h) (by rfl) ?y21 (by assumption) ?r21
  case y21 => (intro w hSw; (try dsimp only at hSw); (first | (go_simp; done) | (go_simp; with_reducible rfl)))
  try simp only [Act.put, List.setIfInBounds_toArray, List.set_cons_zero, List.set_cons_succ]
  refine take_at 22 101 (v := ?v22) rfl rfl (by kernel_rfl) (by kernel_rfl) (by kernel_rfl) (fun _ _ _ h => h) (by rfl) ?y22 (by assumption) ?r22
  case y22 => (intro w hSw; (try dsimp only at hSw); (first | (go_simp; done) | (go_simp; with_reducible rfl)))
  try simp only [Act.put, List.setIfInBounds_toArray, List.set_cons_zero, List.set_cons_succ]
  refine take_at 23 102 (v := ?v23) rfl rfl (by kernel_rfl) (by kernel_rfl) (by kernel_rfl) (fun _ _ _ h => h) (by rfl) ?y23 (by assumption) ?r23
  case y23 => (intro w hSw; (try dsimp only at hSw); (first | (go_simp; done) | (go_simp; with_reducible rfl)))
  try simp only [Act.put, List.setIfInBounds_toArray, List.set_cons_zero, List.set_cons_succ]
  refine take_at 25 104 (v := ?v25) rfl rfl (by kernel_rfl) (by kernel_rfl) (by kernel_rfl) (fun _ _ _ h => h) (by rfl) ?y25 (by assumption) ?r25
  case y25 => (intro w hSw; (try dsimp only at hSw); (first | (go_simp; done) | (go_simp; with_reducible rfl)))
  try simp only [Act.put, List.setIfInBounds_toArray, List.set_cons_zero, List.set_cons_succ]
  refine take_at 27 106 (v := ?v27) rfl rfl (by kernel_rfl) (by kernel_rfl) (by kernel_rfl) (fun _ _ _ h => h) (by rfl) ?y27 (by assumption) ?r27
  case y27 => (intro w hSw; (try dsimp only at hSw); (first | (go_simp; done) | (go_simp; with_reducible rfl)))
  try simp only [Act.put, List.setIfInBounds_toArray, List.set_cons_zero, List.set_cons_succ]
  refine come_at 24 rfl (by kernel_rfl) (by rfl) (fun K hK => ?_)
  go_simp
  (with_reducible refine (L1.out _).mono ?_)
  rintro e u0 ⟨rfl, hx0⟩
  have E0 : Below V5.heap.size V5 u0 := P0.trans (hx0.mono P0.size)
  go_wp2_with fail
  refine hK.out _ _ (KS.out _ E0) (fun hHeld2 => ?_)
  clear hK K hHeld
  have hHeld := hHeld2
  clear hHeld2
  try simp only [Act.put, List.setIfInBounds_toArray, List.set_cons_zero, List.set_cons_succ]
  refine come_at 26 rfl (by kernel_rfl) (by rfl) (fun K hK => ?_)
  go_simp
  (with_reducible refine (L2.out _).mono ?_)
  rintro e u1 ⟨rfl, hx1⟩
  have E1 : Below V5.heap.size V5 u1 := E0.trans (hx1.mono E0.size)
  go_wp2_with fail
  refine hK.out _ _ (KS.out _ E1) (fun hHeld2 => ?_)
  clear hK K hHeld
  have hHeld := hHeld2
  clear hHeld2
  try simp only [Act.put, List.setIfInBounds_toArray, List.set_cons_zero, List.set_cons_succ]
  refine come_at 28 rfl (by kernel_rfl) (by rfl) (fun K hK => ?_)
  go_simp
  (with_reducible refine (L3.out _).mono ?_)
  rintro e u2 ⟨rfl, hx2⟩
  have E2 : Below V5.heap.size V5 u2 := E1.trans (hx2.mono E1.size)
  go_wp2_with fail
  refine hK.out _ _ (KS.out _ E2) (fun hHeld2 => ?_)
  clear hK K hHeld
  have hHeld := hHeld2
  clear hHeld2
  try simp only [Act.put, List.setIfInBounds_toArray, List.set_cons_zero, List.set_cons_succ]
  refine take_at 29 108 (v := ?v29) rfl rfl (by kernel_rfl) (by kernel_rfl) (by kernel_rfl) (fun _ _ _ h => h) (by rfl) ?y29 (by assumption) ?r29
  case y29 => (intro w hSw; (try dsimp only at hSw); (first | (go_simp; done) | (go_simp; with_reducible rfl)))
  try simp only [Act.put, List.setIfInBounds_toArray, List.set_cons_zero, List.set_cons_succ]
  refine take_at 30 109 (v := ?v30) rfl rfl (by kernel_rfl) (by kernel_rfl) (by kernel_rfl) (fun _ _ _ h => h) (by rfl) ?y30 (by assumption) ?r30
  case y30 => (intro w hSw; (try dsimp only at hSw); (first | (go_simp; done) | (go_simp; with_reducible rfl)))
  try simp only [Act.put, List.setIfInBounds_toArray, List.set_cons_zero, List.set_cons_succ]
  refine take_at 31 110 (v := ?v31) rfl rfl (by kernel_rfl) (by kernel_rfl) (by kernel_rfl) (fun _ _ _ h => h) (by rfl) ?y31 (by assumption) ?r31
  case y31 => (intro w hSw; (try dsimp only at hSw); (first | (go_simp; done) | (go_simp; with_reducible rfl)))
  try simp only [Act.put, List.setIfInBounds_toArray, List.set_cons_zero, List.set_cons_succ]
  refine take_at 32 6 (v := ?v32) rfl rfl (by kernel_rfl) (by kernel_rfl) (by kernel_rfl) (fun _ _ _ h => h) (by rfl) ?y32 (by assumption) ?r32
  case y32 => (intro w hSw; (try dsimp only at hSw); (first | (go_simp; done) | (go_simp; with_reducible rfl)))
  try simp only [Act.put, List.setIfInBounds_toArray, List.set_cons_zero, List.set_cons_succ]
  refine wpAnyH_done (by kernel_rfl) ?_ _
  go_wp2_with fail
  go_ret
  exact ⟨rfl, B.trans (E2.mono B.size)⟩
set_option maxHeartbeats 4000000 in
set_option maxRecDepth 100000 in
theorem meets_ggy (a b c d k : Int) (w : World) (hT : Lw w) (h1 : yB a b = true) (h2 : yB c d = true) (k0 : -32768 ≤ k) (k1 : k ≤ 32767) (pa1 : decide (a ≤ k) = true) (pa2 : decide (k ≤ b) = false) (pb1 : decide (c ≤ k) = true) (pb2 : decide (k ≤ d) = false) (u v : Int) (hu : min a c = u) (hv : max b d = v) (x y : Int) (hx : max a c = x) (hy : min b d = y) (h3 : x ≤ y) (pm1 : decide (x ≤ k) = true) (pm2 : decide (k ≤ y) = false) (h4 : yB u v = true) (l m n : Int) (hl : v - u + 1 = l) (hm : b - a + 1 = m) (hn : d - c + 1 = n) (e1 : m ≤ l) (e2 : n ≤ l) :
    Calls Tryd.prog 8 #[.agg #[.int .i64 a, .int .i64 b], .agg #[.int .i64 c, .int .i64 d], .int .i16 k] w fun e w' => e = .returned (.bool true) ∧ Below w.heap.size w w' := by
  have HT := hide hT
  have QH := hide (fun W => hullY_v a b c d W h1 h2 u v hu hv)
  have MM := hide (fun W => meetY_v a b c d W h1 h2 x y hx hy h3)
  have L1 := hide (fun W => length_v u v W h4 l hl)
  have L2 := hide (fun W => length_v a b W h1 m hm)
  have L3 := hide (fun W => length_v c d W h2 n hn)
  have d3 : decide (max m n ≤ l) = true := decide_eq_true (by omega)
  clear hu hv h3 h4 hl hm hn hx hy
  have H1 := hide h1
  have H2 := hide h2
  clear hT h1 h2
  go_enter Tryd.func8, Tryd.ntmps8
  go_wp2_with fail
  generalize hW : (w.alloc _).alloc _ = W
  obtain ⟨B, b0, b1⟩ := boxesA2 hW
  clear hW
  refine (awake_yes _ (HT.out.below B)).mono ?_
  rintro e w1 ⟨rfl, hb⟩
  replace b0 := b0.below' hb
  replace b1 := b1.below' hb
  replace B := B.trans (hb.mono B.size)
  have fb00 : w1.cell? ⟨w.heap.size, 0, none⟩ = some (.int .i64 a) := b0.at_ 0
  have fb01 : w1.cell? ⟨w.heap.size, 1, none⟩ = some (.int .i64 b) := b0.at_ 1
  have zb0 : w.heap.size < w1.heap.size := b0.lt
  have fb10 : w1.cell? ⟨w.heap.size + 1, 0, none⟩ = some (.int .i64 c) := b1.at_ 0
  have fb11 : w1.cell? ⟨w.heap.size + 1, 1, none⟩ = some (.int .i64 d) := b1.at_ 1
  have zb1 : w.heap.size + 1 < w1.heap.size := b1.lt
  clear hb
  go_wp2_with fail
  refine (rvalid_any a b _ true H1.out).mono ?_
  rintro e w2 ⟨rfl, hb⟩
  replace b0 := b0.below' hb
  replace b1 := b1.below' hb
  replace B := B.trans (hb.mono B.size)
  clear fb00 fb01 zb0 fb10 fb11 zb1
  have fb00 : w2.cell? ⟨w.heap.size, 0, none⟩ = some (.int .i64 a) := b0.at_ 0
  have fb01 : w2.cell? ⟨w.heap.size, 1, none⟩ = some (.int .i64 b) := b0.at_ 1
  have zb0 : w.heap.size < w2.heap.size := b0.lt
  have fb10 : w2.cell? ⟨w.heap.size + 1, 0, none⟩ = some (.int .i64 c) := b1.at_ 0
  have fb11 : w2.cell? ⟨w.heap.size + 1, 1, none⟩ = some (.int .i64 d) := b1.at_ 1
  have zb1 : w.heap.size + 1 < w2.heap.size := b1.lt
  clear hb
  go_wp2_with fail
  refine (rvalid_any c d _ true H2.out).mono ?_
  rintro e w3 ⟨rfl, hb⟩
  replace b0 := b0.below' hb
  replace b1 := b1.below' hb
  replace B := B.trans (hb.mono B.size)
  clear fb00 fb01 zb0 fb10 fb11 zb1
  have fb00 : w3.cell? ⟨w.heap.size, 0, none⟩ = some (.int .i64 a) := b0.at_ 0
  have fb01 : w3.cell? ⟨w.heap.size, 1, none⟩ = some (.int .i64 b) := b0.at_ 1
  have zb0 : w.heap.size < w3.heap.size := b0.lt
  have fb10 : w3.cell? ⟨w.heap.size + 1, 0, none⟩ = some (.int .i64 c) := b1.at_ 0
  have fb11 : w3.cell? ⟨w.heap.size + 1, 1, none⟩ = some (.int .i64 d) := b1.at_ 1
  have zb1 : w.heap.size + 1 < w3.heap.size := b1.lt
  clear hb
  go_wp2_with fail
  refine (MM.out _).mono ?_
  rintro e w4 ⟨rfl, hb⟩
  replace b0 := b0.below' hb
  replace b1 := b1.below' hb
  replace B := B.trans (hb.mono B.size)
  clear fb00 fb01 zb0 fb10 fb11 zb1
  have fb00 : w4.cell? ⟨w.heap.size, 0, none⟩ = some (.int .i64 a) := b0.at_ 0
  have fb01 : w4.cell? ⟨w.heap.size, 1, none⟩ = some (.int .i64 b) := b0.at_ 1
  have zb0 : w.heap.size < w4.heap.size := b0.lt
  have fb10 : w4.cell? ⟨w.heap.size + 1, 0, none⟩ = some (.int .i64 c) := b1.at_ 0
  have fb11 : w4.cell? ⟨w.heap.size + 1, 1, none⟩ = some (.int .i64 d) := b1.at_ 1
  have zb1 : w.heap.size + 1 < w4.heap.size := b1.lt
  clear hb
  go_wp2_with fail
  generalize hW : w4.alloc _ = V4
  obtain ⟨hb, bm⟩ := boxA hW
  replace b0 := b0.below' hb
  replace b1 := b1.below' hb
  replace B := B.trans (hb.mono B.size)
  clear fb00 fb01 zb0 fb10 fb11 zb1
  generalize w4.heap.size = gbm at *
  have fb00 : V4.cell? ⟨w.heap.size, 0, none⟩ = some (.int .i64 a) := b0.at_ 0
  have fb01 : V4.cell? ⟨w.heap.size, 1, none⟩ = some (.int .i64 b) := b0.at_ 1
  have zb0 : w.heap.size < V4.heap.size := b0.lt
  have fb10 : V4.cell? ⟨w.heap.size + 1, 0, none⟩ = some (.int .i64 c) := b1.at_ 0
  have fb11 : V4.cell? ⟨w.heap.size + 1, 1, none⟩ = some (.int .i64 d) := b1.at_ 1
  have zb1 : w.heap.size + 1 < V4.heap.size := b1.lt
  have fbm0 : V4.cell? ⟨gbm, 0, none⟩ = some (.int .i64 x) := bm.at_ 0
  have fbm1 : V4.cell? ⟨gbm, 1, none⟩ = some (.int .i64 y) := bm.at_ 1
  have zbm : gbm < V4.heap.size := bm.lt
  clear hW hb
  go_wp2_with fail
  refine (QH.out _).mono ?_
  rintro e w5 ⟨rfl, hb⟩
  replace b0 := b0.below' hb
  replace b1 := b1.below' hb
  replace bm := bm.below' hb
  replace B := B.trans (hb.mono B.size)
  clear fb00 fb01 zb0 fb10 fb11 zb1 fbm0 fbm1 zbm
  have fb00 : w5.cell? ⟨w.heap.size, 0, none⟩ = some (.int .i64 a) := b0.at_ 0
  have fb01 : w5.cell? ⟨w.heap.size, 1, none⟩ = some (.int .i64 b) := b0.at_ 1
  have zb0 : w.heap.size < w5.heap.size := b0.lt
  have fb10 : w5.cell? ⟨w.heap.size + 1, 0, none⟩ = some (.int .i64 c) := b1.at_ 0
  have fb11 : w5.cell? ⟨w.heap.size + 1, 1, none⟩ = some (.int .i64 d) := b1.at_ 1
  have zb1 : w.heap.size + 1 < w5.heap.size := b1.lt
  have fbm0 : w5.cell? ⟨gbm, 0, none⟩ = some (.int .i64 x) := bm.at_ 0
  have fbm1 : w5.cell? ⟨gbm, 1, none⟩ = some (.int .i64 y) := bm.at_ 1
  have zbm : gbm < w5.heap.size := bm.lt
  clear hb
  go_wp2_with fail
  generalize hW : w5.alloc _ = V5
  obtain ⟨hb, bh⟩ := boxA hW
  replace b0 := b0.below' hb
  replace b1 := b1.below' hb
  replace bm := bm.below' hb
  replace B := B.trans (hb.mono B.size)
  clear fb00 fb01 zb0 fb10 fb11 zb1 fbm0 fbm1 zbm
  generalize w5.heap.size = gbh at *
  have fb00 : V5.cell? ⟨w.heap.size, 0, none⟩ = some (.int .i64 a) := b0.at_ 0
  have fb01 : V5.cell? ⟨w.heap.size, 1, none⟩ = some (.int .i64 b) := b0.at_ 1
  have zb0 : w.heap.size < V5.heap.size := b0.lt
  have fb10 : V5.cell? ⟨w.heap.size + 1, 0, none⟩ = some (.int .i64 c) := b1.at_ 0
  have fb11 : V5.cell? ⟨w.heap.size + 1, 1, none⟩ = some (.int .i64 d) := b1.at_ 1
  have zb1 : w.heap.size + 1 < V5.heap.size := b1.lt
  have fbm0 : V5.cell? ⟨gbm, 0, none⟩ = some (.int .i64 x) := bm.at_ 0
  have fbm1 : V5.cell? ⟨gbm, 1, none⟩ = some (.int .i64 y) := bm.at_ 1
  have zbm : gbm < V5.heap.size := bm.lt
  have fbh0 : V5.cell? ⟨gbh, 0, none⟩ = some (.int .i64 u) := bh.at_ 0
  have fbh1 : V5.cell? ⟨gbh, 1, none⟩ = some (.int .i64 v) := bh.at_ 1
  have zbh : gbh < V5.heap.size := bh.lt
  clear hW hb
  go_wp2_with fail
  have KS : Hid (∀ w', Below V5.heap.size V5 w' → w'.cell? ⟨w.heap.size, 0, none⟩ = some (.int .i64 a) ∧ w'.cell? ⟨w.heap.size, 1, none⟩ = some (.int .i64 b) ∧ w'.cell? ⟨w.heap.size + 1, 0, none⟩ = some (.int .i64 c) ∧ w'.cell? ⟨w.heap.size + 1, 1, none⟩ = some (.int .i64 d) ∧ w'.cell? ⟨gbh, 0, none⟩ = some (.int .i64 u) ∧ w'.cell? ⟨gbh, 1, none⟩ = some (.int .i64 v)) := fun w' h => ⟨(b0.below' h).at_ 0, (b0.below' h).at_ 1, (b1.below' h).at_ 0, (b1.below' h).at_ 1, (bh.below' h).at_ 0, (bh.below' h).at_ 1⟩
  have P0 : Below V5.heap.size V5 V5.drew := (Below.refl _ _).drew
  refine wp_region_held_drew (S := (fun w' => w'.cell? ⟨w.heap.size, 0, none⟩ = some (.int .i64 a) ∧ w'.cell? ⟨w.heap.size, 1, none⟩ = some (.int .i64 b) ∧ w'.cell? ⟨w.heap.size + 1, 0, none⟩ = some (.int .i64 c) ∧ w'.cell? ⟨w.heap.size + 1, 1, none⟩ = some (.int .i64 d) ∧ w'.cell? ⟨gbh, 0, none⟩ = some (.int .i64 u) ∧ w'.cell? ⟨gbh, 1, none⟩ = some (.int .i64 v))) (by kernel_rfl) (KS.out _ P0) (fun hHeld => ?_)
  refine take_at 0 79 (v := ?v0) rfl rfl (by kernel_rfl) (by kernel_rfl) (by kernel_rfl) (fun _ _ _ h => h) (by rfl) ?y0 (by assumption) ?r0
  case y0 => (intro w hSw; (try dsimp only at hSw); (first | (go_simp; done) | (go_simp; with_reducible rfl)))
  try simp only [Act.put, List.setIfInBounds_toArray, List.set_cons_zero, List.set_cons_succ]
  refine take_at 1 80 (v := ?v1) rfl rfl (by kernel_rfl) (by kernel_rfl) (by kernel_rfl) (fun _ _ _ h => h) (by rfl) ?y1 (by assumption) ?r1
  case y1 => (intro w hSw; (try dsimp only at hSw); (first | (go_simp; done) | (go_simp; with_reducible rfl)))
  try simp only [Act.put, List.setIfInBounds_toArray, List.set_cons_zero, List.set_cons_succ]
  refine take_at 2 81 (v := ?v2) rfl rfl (by kernel_rfl) (by kernel_rfl) (by kernel_rfl) (fun _ _ _ h => h) (by rfl) ?y2 (by assumption) ?r2
  case y2 => (intro w hSw; (try dsimp only at hSw); (first | (go_simp; done) | (go_simp; with_reducible rfl)))
  try simp only [Act.put, List.setIfInBounds_toArray, List.set_cons_zero, List.set_cons_succ]
  refine take_at 3 82 (v := ?v3) rfl rfl (by kernel_rfl) (by kernel_rfl) (by kernel_rfl) (fun _ _ _ h => h) (by rfl) ?y3 (by assumption) ?r3
  case y3 => (intro w hSw; (try dsimp only at hSw); (first | (go_simp; done) | (go_simp; with_reducible rfl)))
  try simp only [Act.put, List.setIfInBounds_toArray, List.set_cons_zero, List.set_cons_succ]
  refine take_at 4 83 (v := ?v4) rfl rfl (by kernel_rfl) (by kernel_rfl) (by kernel_rfl) (fun _ _ _ h => h) (by rfl) ?y4 (by assumption) ?r4
  case y4 => (intro w hSw; (try dsimp only at hSw); (first | (go_simp; done) | (go_simp; with_reducible rfl)))
  try simp only [Act.put, List.setIfInBounds_toArray, List.set_cons_zero, List.set_cons_succ]
  refine take_at 5 84 (v := ?v5) rfl rfl (by kernel_rfl) (by kernel_rfl) (by kernel_rfl) (fun _ _ _ h => h) (by rfl) ?y5 (by assumption) ?r5
  case y5 => (intro w hSw; (try dsimp only at hSw); (first | (go_simp; done) | (go_simp; with_reducible rfl)))
  try simp only [Act.put, List.setIfInBounds_toArray, List.set_cons_zero, List.set_cons_succ]
  refine take_at 6 85 (v := ?v6) rfl rfl (by kernel_rfl) (by kernel_rfl) (by kernel_rfl) (fun _ _ _ h => h) (by rfl) ?y6 (by assumption) ?r6
  case y6 => (intro w hSw; (try dsimp only at hSw); (first | (go_simp; done) | (go_simp; with_reducible rfl)))
  try simp only [Act.put, List.setIfInBounds_toArray, List.set_cons_zero, List.set_cons_succ]
  refine take_at 7 86 (v := ?v7) rfl rfl (by kernel_rfl) (by kernel_rfl) (by kernel_rfl) (fun _ _ _ h => h) (by rfl) ?y7 (by assumption) ?r7
  case y7 => (intro w hSw; (try dsimp only at hSw); (first | (go_simp; done) | (go_simp; with_reducible rfl)))
  try simp only [Act.put, List.setIfInBounds_toArray, List.set_cons_zero, List.set_cons_succ]
  refine take_at 8 87 (v := ?v8) rfl rfl (by kernel_rfl) (by kernel_rfl) (by kernel_rfl) (fun _ _ _ h => h) (by rfl) ?y8 (by assumption) ?r8
  case y8 => (intro w hSw; (try dsimp only at hSw); (first | (go_simp; done) | (go_simp; with_reducible rfl)))
  try simp only [Act.put, List.setIfInBounds_toArray, List.set_cons_zero, List.set_cons_succ]
  refine take_at 9 88 (v := ?v9) rfl rfl (by kernel_rfl) (by kernel_rfl) (by kernel_rfl) (fun _ _ _ h => h) (by rfl) ?y9 (by assumption) ?r9
  case y9 => (intro w hSw; (try dsimp only at hSw); (first | (go_simp; done) | (go_simp; with_reducible rfl)))
  try simp only [Act.put, List.setIfInBounds_toArray, List.set_cons_zero, List.set_cons_succ]
  refine pass_at 10 89 rfl rfl (by kernel_rfl) (by kernel_rfl) (by kernel_rfl) (fun _ _ _ h => h) (by rfl) (by assumption) ?_
  try simp only [Act.put, List.setIfInBounds_toArray, List.set_cons_zero, List.set_cons_succ]
  refine pass_at 11 90 rfl rfl (by kernel_rfl) (by kernel_rfl) (by kernel_rfl) (fun _ _ _ h => h) (by rfl) (by assumption) ?_
  try simp only [Act.put, List.setIfInBounds_toArray, List.set_cons_zero, List.set_cons_succ]
  refine pass_at 12 91 rfl rfl (by kernel_rfl) (by kernel_rfl) (by kernel_rfl) (fun _ _ _ h => h) (by rfl) (by assumption) ?_
  try simp only [Act.put, List.setIfInBounds_toArray, List.set_cons_zero, List.set_cons_succ]
  refine pass_at 13 92 rfl rfl (by kernel_rfl) (by kernel_rfl) (by kernel_rfl) (fun _ _ _ h => h) (by rfl) (by assumption) ?_
  try simp only [Act.put, List.setIfInBounds_toArray, List.set_cons_zero, List.set_cons_succ]
  refine pass_at 14 93 rfl rfl (by kernel_rfl) (by kernel_rfl) (by kernel_rfl) (fun _ _ _ h => h) (by rfl) (by assumption) ?_
  try simp only [Act.put, List.setIfInBounds_toArray, List.set_cons_zero, List.set_cons_succ]
  refine pass_at 15 94 rfl rfl (by kernel_rfl) (by kernel_rfl) (by kernel_rfl) (fun _ _ _ h => h) (by rfl) (by assumption) ?_
  try simp only [Act.put, List.setIfInBounds_toArray, List.set_cons_zero, List.set_cons_succ]
  refine pass_at 16 95 rfl rfl (by kernel_rfl) (by kernel_rfl) (by kernel_rfl) (fun _ _ _ h => h) (by rfl) (by assumption) ?_
  try simp only [Act.put, List.setIfInBounds_toArray, List.set_cons_zero, List.set_cons_succ]
  refine pass_at 17 96 rfl rfl (by kernel_rfl) (by kernel_rfl) (by kernel_rfl) (fun _ _ _ h => h) (by rfl) (by assumption) ?_
  try simp only [Act.put, List.setIfInBounds_toArray, List.set_cons_zero, List.set_cons_succ]
  refine pass_at 18 97 rfl rfl (by kernel_rfl) (by kernel_rfl) (by kernel_rfl) (fun _ _ _ h => h) (by rfl) (by assumption) ?_
  try simp only [Act.put, List.setIfInBounds_toArray, List.set_cons_zero, List.set_cons_succ]
  refine pass_at 19 98 rfl rfl (by kernel_rfl) (by kernel_rfl) (by kernel_rfl) (fun _ _ _ h => h) (by rfl) (by assumption) ?_
  try simp only [Act.put, List.setIfInBounds_toArray, List.set_cons_zero, List.set_cons_succ]
  refine take_at 20 99 (v := ?v20) rfl rfl (by kernel_rfl) (by kernel_rfl) (by kernel_rfl) (fun _ _ _ h => h) (by rfl) ?y20 (by assumption) ?r20
  case y20 => (intro w hSw; (try dsimp only at hSw); (first | (go_simp; done) | (go_simp; with_reducible rfl)))
  try simp only [Act.put, List.setIfInBounds_toArray, List.set_cons_zero, List.set_cons_succ]
  refine take_at 21 100 (v := ?v21) rfl rfl (by kernel_rfl) (by kernel_rfl) (by kernel_rfl) (fun _ _ _ h => h) (by rfl) ?y21 (by assumption) ?r21
  case y21 => (intro w hSw; (try dsimp only at hSw); (first | (go_simp; done) | (go_simp; with_reducible rfl)))
  try simp only [Act.put, List.setIfInBounds_toArray, List.set_cons_zero, List.set_cons_succ]
  refine take_at 22 101 (v := ?v22) rfl rfl (by kernel_rfl) (by kernel_rfl) (by kernel_rfl) (fun _ _ _ h => h) (by rfl) ?y22 (by assumption) ?r22
  case y22 => (intro w hSw; (try dsimp only at hSw); (first | (go_simp; done) | (go_simp; with_reducible rfl)))
  try simp only [Act.put, List.setIfInBounds_toArray, List.set_cons_zero, List.set_cons_succ]
  refine take_at 23 102 (v := ?v23) rfl rfl (by kernel_rfl) (by kernel_rfl) (by kernel_rfl) (fun _ _ _ h => h) (by rfl) ?y23 (by assumption) ?r23
  case y23 => (intro w hSw; (try dsimp only at hSw); (first | (go_simp; done) | (go_simp; with_reducible rfl)))
  try simp only [Act.put, List.setIfInBounds_toArray, List.set_cons_zero, List.set_cons_succ]
  refine take_at 25 104 (v := ?v25) rfl rfl (by kernel_rfl) (by kernel_rfl) (by kernel_rfl) (fun _ _ _ h => h) (by rfl) ?y25 (by assumption) ?r25
  case y25 => (intro w hSw; (try dsimp only at hSw); (first | (go_simp; done) | (go_simp; with_reducible rfl)))
  try simp only [Act.put, List.setIfInBounds_toArray, List.set_cons_zero, List.set_cons_succ]
  refine take_at 27 106 (v := ?v27) rfl rfl (by kernel_rfl) (by kernel_rfl) (by kernel_rfl) (fun _ _ _ h => h) (by rfl) ?y27 (by assumption) ?r27
  case y27 => (intro w hSw; (try dsimp only at hSw); (first | (go_simp; done) | (go_simp; with_reducible rfl)))
  try simp only [Act.put, List.setIfInBounds_toArray, List.set_cons_zero, List.set_cons_succ]
  refine come_at 24 rfl (by kernel_rfl) (by rfl) (fun K hK => ?_)
  go_simp
  (with_reducible refine (L1.out _).mono ?_)
  rintro e u0 ⟨rfl, hx0⟩
  have E0 : Below V5.heap.size V5 u0 := P0.trans (hx0.mono P0.size)
  go_wp2_with fail
  refine hK.out _ _ (KS.out _ E0) (fun hHeld2 => ?_)
  clear hK K hHeld
  have hHeld := hHeld2
  clear hHeld2
  try simp only [Act.put, List.setIfInBounds_toArray, List.set_cons_zero, List.set_cons_succ]
  refine come_at 26 rfl (by kernel_rfl) (by rfl) (fun K hK => ?_)
  go_simp
  (with_reducible refine (L2.out _).mono ?_)
  rintro e u1 ⟨rfl, hx1⟩
  have E1 : Below V5.heap.size V5 u1 := E0.trans (hx1.mono E0.size)
  go_wp2_with fail
  refine hK.out _ _ (KS.out _ E1) (fun hHeld2 => ?_)
  clear hK K hHeld
  have hHeld := hHeld2
  clear hHeld2
  try simp only [Act.put, List.setIfInBounds_toArray, List.set_cons_zero, List.set_cons_succ]
  refine come_at 28 rfl (by kernel_rfl) (by rfl) (fun K hK => ?_)
  go_simp
  (with_reducible refine (L3.out _).mono ?_)
  rintro e u2 ⟨rfl, hx2⟩
  have E2 : Below V5.heap.size V5 u2 := E1.trans (hx2.mono E1.size)
  go_wp2_with fail
  refine hK.out _ _ (KS.out _ E2) (fun hHeld2 => ?_)
  clear hK K hHeld
  have hHeld := hHeld2
  clear hHeld2
  try simp only [Act.put, List.setIfInBounds_toArray, List.set_cons_zero, List.set_cons_succ]
  refine take_at 29 108 (v := ?v29) rfl rfl (by kernel_rfl) (by kernel_rfl) (by kernel_rfl) (fun _ _ _ h => h) (by rfl) ?y29 (by assumption) ?r29
  case y29 => (intro w hSw; (try dsimp only at hSw); (first | (go_simp; done) | (go_simp; with_reducible rfl)))
  try simp only [Act.put, List.setIfInBounds_toArray, List.set_cons_zero, List.set_cons_succ]
  refine take_at 30 109 (v := ?v30) rfl rfl (by kernel_rfl) (by kernel_rfl) (by kernel_rfl) (fun _ _ _ h => h) (by rfl) ?y30 (by assumption) ?r30
  case y30 => (intro w hSw; (try dsimp only at hSw); (first | (go_simp; done) | (go_simp; with_reducible rfl)))
  try simp only [Act.put, List.setIfInBounds_toArray, List.set_cons_zero, List.set_cons_succ]
  refine take_at 31 110 (v := ?v31) rfl rfl (by kernel_rfl) (by kernel_rfl) (by kernel_rfl) (fun _ _ _ h => h) (by rfl) ?y31 (by assumption) ?r31
  case y31 => (intro w hSw; (try dsimp only at hSw); (first | (go_simp; done) | (go_simp; with_reducible rfl)))
  try simp only [Act.put, List.setIfInBounds_toArray, List.set_cons_zero, List.set_cons_succ]
  refine take_at 32 6 (v := ?v32) rfl rfl (by kernel_rfl) (by kernel_rfl) (by kernel_rfl) (fun _ _ _ h => h) (by rfl) ?y32 (by assumption) ?r32
  case y32 => (intro w hSw; (try dsimp only at hSw); (first | (go_simp; done) | (go_simp; with_reducible rfl)))
  try simp only [Act.put, List.setIfInBounds_toArray, List.set_cons_zero, List.set_cons_succ]
  refine wpAnyH_done (by kernel_rfl) ?_ _
  go_wp2_with fail
  go_ret
  exact ⟨rfl, B.trans (E2.mono B.size)⟩
end Go.Proofs.YtihadabaehcmiaaDoor
