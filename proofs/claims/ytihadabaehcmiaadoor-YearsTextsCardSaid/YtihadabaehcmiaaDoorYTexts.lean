/- The body of YearsTexts. -/
import Derived.Test.YtihadabaehcmiaaDoorYLaw
import Derived.Test.YtihadabaehcmiaaDoorYRTxt
import Derived.Test.YtihadabaehcmiaaDoorYTxtM
namespace Go.Proofs.YtihadabaehcmiaaDoor
open Go Go.RowKit

theorem textL_len (a b : Int) (h : yB a b = true) : (textL a b).length ≤ 30 := by
  obtain ⟨h1, h2, h3⟩ := yB_true.1 h
  have n1 := numL_len a h1 (by omega)
  have n3 := nameL_len a h1 (by omega)
  have n4 := nameL_len b (by omega) h3
  unfold textL
  split
  · omega
  · split <;> (rw [List.length_append, List.length_cons]; omega)
theorem txt_size (a b : Int) : (txt a b).size ≤ 30 := by
  unfold txt
  split
  · rename_i h
    rw [strB_size]
    exact textL_len a b h
  · decide
set_option maxHeartbeats 4000000 in
set_option maxRecDepth 100000 in
theorem texts_1 (a b : Int) (w : World) (hT : Lw w) (h1 : yB a b = true) :
    Calls Tryd.prog 4 #[.agg #[.int .i64 a, .int .i64 b]] w fun e w' => e = .returned (.bool true) ∧ Below w.heap.size w w' := by
  have HT := hide hT
  have hp := prs_txt a b
  rw [if_pos h1] at hp
  have hz := txt_size a b
  have CP := hide (fun W hW => parse_v (txt a b) W hW (by omega) a b 0 hp)
  have CT := hide (fun W hW => text_v a b W hW _ rfl)
  have CR := hide (fun W => rtxt_v a b W _ rfl)
  generalize txt a b = S at *
  clear hp
  have H1 := hide h1
  clear hT h1
  go_enter Tryd.func4, Tryd.ntmps4
  go_wp2_with fail
  generalize hW : w.alloc _ = W
  obtain ⟨B, b0⟩ := boxA hW
  clear hW
  refine (awake_yes _ (HT.out.below B)).mono ?_
  rintro e w1 ⟨rfl, hb⟩
  replace b0 := b0.below' hb
  replace B := B.trans (hb.mono B.size)
  have fb00 : w1.cell? ⟨w.heap.size, 0, none⟩ = some (.int .i64 a) := b0.at_ 0
  have fb01 : w1.cell? ⟨w.heap.size, 1, none⟩ = some (.int .i64 b) := b0.at_ 1
  have zb0 : w.heap.size < w1.heap.size := b0.lt
  clear hb
  go_wp2_with fail
  refine (CT.out _ (HT.out.below B)).mono ?_
  rintro e w2 ⟨rfl, hb⟩
  replace b0 := b0.below' hb
  replace B := B.trans (hb.mono B.size)
  clear fb00 fb01 zb0
  have fb00 : w2.cell? ⟨w.heap.size, 0, none⟩ = some (.int .i64 a) := b0.at_ 0
  have fb01 : w2.cell? ⟨w.heap.size, 1, none⟩ = some (.int .i64 b) := b0.at_ 1
  have zb0 : w.heap.size < w2.heap.size := b0.lt
  clear hb
  go_wp2_with fail
  refine (CP.out _ (HT.out.below B)).mono ?_
  rintro e w3 ⟨rfl, hb⟩
  replace b0 := b0.below' hb
  replace B := B.trans (hb.mono B.size)
  clear fb00 fb01 zb0
  have fb00 : w3.cell? ⟨w.heap.size, 0, none⟩ = some (.int .i64 a) := b0.at_ 0
  have fb01 : w3.cell? ⟨w.heap.size, 1, none⟩ = some (.int .i64 b) := b0.at_ 1
  have zb0 : w.heap.size < w3.heap.size := b0.lt
  clear hb
  go_wp2_with fail
  generalize hW : w3.alloc _ = V3
  obtain ⟨hb, bx⟩ := boxA hW
  replace b0 := b0.below' hb
  replace B := B.trans (hb.mono B.size)
  clear fb00 fb01 zb0
  generalize w3.heap.size = gbx at *
  have fb00 : V3.cell? ⟨w.heap.size, 0, none⟩ = some (.int .i64 a) := b0.at_ 0
  have fb01 : V3.cell? ⟨w.heap.size, 1, none⟩ = some (.int .i64 b) := b0.at_ 1
  have zb0 : w.heap.size < V3.heap.size := b0.lt
  have fbx0 : V3.cell? ⟨gbx, 0, none⟩ = some (.int .i64 a) := bx.at_ 0
  have fbx1 : V3.cell? ⟨gbx, 1, none⟩ = some (.int .i64 b) := bx.at_ 1
  have zbx : gbx < V3.heap.size := bx.lt
  clear hW hb
  go_wp2_with fail
  refine (CR.out _).mono ?_
  rintro e w4 ⟨rfl, hb⟩
  replace b0 := b0.below' hb
  replace bx := bx.below' hb
  replace B := B.trans (hb.mono B.size)
  clear fb00 fb01 zb0 fbx0 fbx1 zbx
  have fb00 : w4.cell? ⟨w.heap.size, 0, none⟩ = some (.int .i64 a) := b0.at_ 0
  have fb01 : w4.cell? ⟨w.heap.size, 1, none⟩ = some (.int .i64 b) := b0.at_ 1
  have zb0 : w.heap.size < w4.heap.size := b0.lt
  have fbx0 : w4.cell? ⟨gbx, 0, none⟩ = some (.int .i64 a) := bx.at_ 0
  have fbx1 : w4.cell? ⟨gbx, 1, none⟩ = some (.int .i64 b) := bx.at_ 1
  have zbx : gbx < w4.heap.size := bx.lt
  clear hb
  go_wp2_with fail
  refine (rvalid_any a b _ true H1.out).mono ?_
  rintro e w5 ⟨rfl, hb⟩
  replace b0 := b0.below' hb
  replace bx := bx.below' hb
  replace B := B.trans (hb.mono B.size)
  clear fb00 fb01 zb0 fbx0 fbx1 zbx
  have fb00 : w5.cell? ⟨w.heap.size, 0, none⟩ = some (.int .i64 a) := b0.at_ 0
  have fb01 : w5.cell? ⟨w.heap.size, 1, none⟩ = some (.int .i64 b) := b0.at_ 1
  have zb0 : w.heap.size < w5.heap.size := b0.lt
  have fbx0 : w5.cell? ⟨gbx, 0, none⟩ = some (.int .i64 a) := bx.at_ 0
  have fbx1 : w5.cell? ⟨gbx, 1, none⟩ = some (.int .i64 b) := bx.at_ 1
  have zbx : gbx < w5.heap.size := bx.lt
  clear hb
  go_wp2_with fail
  try go_quiet (fail)
  go_wp2_with fail
  go_ret
  first | exact ⟨rfl, B⟩ | exact ⟨rfl, below_drewN B _⟩
set_option maxHeartbeats 4000000 in
set_option maxRecDepth 100000 in
theorem texts_2 (a b : Int) (w : World) (hT : Lw w) (h1 : yB a b = false) :
    Calls Tryd.prog 4 #[.agg #[.int .i64 a, .int .i64 b]] w fun e w' => e = .returned (.bool true) ∧ Below w.heap.size w w' := by
  have HT := hide hT
  have hp := prs_txt a b
  have he : txt a b = ⟨#[]⟩ := by unfold txt; rw [if_neg (by rw [h1]; decide)]
  rw [if_neg (by rw [h1]; decide), he] at hp
  have CP := hide (fun W hW => parse_v ⟨#[]⟩ W hW (by decide) 0 0 3 hp)
  have CT := hide (fun W hW => text_v a b W hW _ he)
  have CR := hide (fun W => rtxt_v a b W _ he)
  clear hp he
  have H1 := hide h1
  clear hT h1
  go_enter Tryd.func4, Tryd.ntmps4
  go_wp2_with fail
  generalize hW : w.alloc _ = W
  obtain ⟨B, b0⟩ := boxA hW
  clear hW
  refine (awake_yes _ (HT.out.below B)).mono ?_
  rintro e w1 ⟨rfl, hb⟩
  replace b0 := b0.below' hb
  replace B := B.trans (hb.mono B.size)
  have fb00 : w1.cell? ⟨w.heap.size, 0, none⟩ = some (.int .i64 a) := b0.at_ 0
  have fb01 : w1.cell? ⟨w.heap.size, 1, none⟩ = some (.int .i64 b) := b0.at_ 1
  have zb0 : w.heap.size < w1.heap.size := b0.lt
  clear hb
  go_wp2_with fail
  refine (CT.out _ (HT.out.below B)).mono ?_
  rintro e w2 ⟨rfl, hb⟩
  replace b0 := b0.below' hb
  replace B := B.trans (hb.mono B.size)
  clear fb00 fb01 zb0
  have fb00 : w2.cell? ⟨w.heap.size, 0, none⟩ = some (.int .i64 a) := b0.at_ 0
  have fb01 : w2.cell? ⟨w.heap.size, 1, none⟩ = some (.int .i64 b) := b0.at_ 1
  have zb0 : w.heap.size < w2.heap.size := b0.lt
  clear hb
  go_wp2_with fail
  refine (CP.out _ (HT.out.below B)).mono ?_
  rintro e w3 ⟨rfl, hb⟩
  replace b0 := b0.below' hb
  replace B := B.trans (hb.mono B.size)
  clear fb00 fb01 zb0
  have fb00 : w3.cell? ⟨w.heap.size, 0, none⟩ = some (.int .i64 a) := b0.at_ 0
  have fb01 : w3.cell? ⟨w.heap.size, 1, none⟩ = some (.int .i64 b) := b0.at_ 1
  have zb0 : w.heap.size < w3.heap.size := b0.lt
  clear hb
  go_wp2_with fail
  generalize hW : w3.alloc _ = V3
  obtain ⟨hb, bx⟩ := boxA hW
  replace b0 := b0.below' hb
  replace B := B.trans (hb.mono B.size)
  clear fb00 fb01 zb0
  generalize w3.heap.size = gbx at *
  have fb00 : V3.cell? ⟨w.heap.size, 0, none⟩ = some (.int .i64 a) := b0.at_ 0
  have fb01 : V3.cell? ⟨w.heap.size, 1, none⟩ = some (.int .i64 b) := b0.at_ 1
  have zb0 : w.heap.size < V3.heap.size := b0.lt
  have fbx0 : V3.cell? ⟨gbx, 0, none⟩ = some (.int .i64 0) := bx.at_ 0
  have fbx1 : V3.cell? ⟨gbx, 1, none⟩ = some (.int .i64 0) := bx.at_ 1
  have zbx : gbx < V3.heap.size := bx.lt
  clear hW hb
  go_wp2_with fail
  refine (CR.out _).mono ?_
  rintro e w4 ⟨rfl, hb⟩
  replace b0 := b0.below' hb
  replace bx := bx.below' hb
  replace B := B.trans (hb.mono B.size)
  clear fb00 fb01 zb0 fbx0 fbx1 zbx
  have fb00 : w4.cell? ⟨w.heap.size, 0, none⟩ = some (.int .i64 a) := b0.at_ 0
  have fb01 : w4.cell? ⟨w.heap.size, 1, none⟩ = some (.int .i64 b) := b0.at_ 1
  have zb0 : w.heap.size < w4.heap.size := b0.lt
  have fbx0 : w4.cell? ⟨gbx, 0, none⟩ = some (.int .i64 0) := bx.at_ 0
  have fbx1 : w4.cell? ⟨gbx, 1, none⟩ = some (.int .i64 0) := bx.at_ 1
  have zbx : gbx < w4.heap.size := bx.lt
  clear hb
  go_wp2_with fail
  refine (rvalid_any a b _ false H1.out).mono ?_
  rintro e w5 ⟨rfl, hb⟩
  replace b0 := b0.below' hb
  replace bx := bx.below' hb
  replace B := B.trans (hb.mono B.size)
  clear fb00 fb01 zb0 fbx0 fbx1 zbx
  have fb00 : w5.cell? ⟨w.heap.size, 0, none⟩ = some (.int .i64 a) := b0.at_ 0
  have fb01 : w5.cell? ⟨w.heap.size, 1, none⟩ = some (.int .i64 b) := b0.at_ 1
  have zb0 : w.heap.size < w5.heap.size := b0.lt
  have fbx0 : w5.cell? ⟨gbx, 0, none⟩ = some (.int .i64 0) := bx.at_ 0
  have fbx1 : w5.cell? ⟨gbx, 1, none⟩ = some (.int .i64 0) := bx.at_ 1
  have zbx : gbx < w5.heap.size := bx.lt
  clear hb
  go_wp2_with fail
  try go_quiet (fail)
  go_wp2_with fail
  go_ret
  first | exact ⟨rfl, B⟩ | exact ⟨rfl, below_drewN B _⟩
theorem texts_all (a b : Int) (w : World) (hT : Lw w) :
    Calls Tryd.prog 4 #[.agg #[.int .i64 a, .int .i64 b]] w fun e w' => e = .returned (.bool true) ∧ Below w.heap.size w w' := by
  rcases Bool.eq_false_or_eq_true (yB a b) with h1 | h1
  · exact texts_1 a b w hT h1
  · exact texts_2 a b w hT h1
end Go.Proofs.YtihadabaehcmiaaDoor
