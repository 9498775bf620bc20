/- The body of YearsParses. -/
import Derived.Test.YtihadabaehcmiaaDoorYLaw
import Derived.Test.YtihadabaehcmiaaDoorYRParZ
namespace Go.Proofs.YtihadabaehcmiaaDoor
open Go Go.RowKit

set_option maxHeartbeats 4000000 in
set_option maxRecDepth 100000 in
theorem parses_1 (s : ByteArray) (w : World) (hT : Lw w) (h0 : decide (100 < (s.size : Int)) = true) :
    Calls Tryd.prog 5 #[.string s] w fun e w' => e = .returned (.bool true) ∧ Below w.heap.size w w' := by
  have HT := hide hT
  clear hT 
  go_enter Tryd.func5, Tryd.ntmps5
  go_wp2_with fail
  refine (awake_yes _ HT.out).mono ?_
  rintro e w1 ⟨rfl, B⟩
  go_wp2_with fail
  refine (awake_yes _ (HT.out.below B)).mono ?_
  rintro e w2 ⟨rfl, hb⟩
  replace B := B.trans (hb.mono B.size)
  go_wp2_with fail
  go_ret
  exact ⟨rfl, B⟩
set_option maxHeartbeats 4000000 in
set_option maxRecDepth 100000 in
theorem parses_2 (s : ByteArray) (w : World) (hT : Lw w) (hs : s.size ≤ 100) (x y : Int) (hp : prs s.data.toList = (x, y, 0)) (ht : txt x y = s) :
    Calls Tryd.prog 5 #[.string s] w fun e w' => e = .returned (.bool true) ∧ Below w.heap.size w w' := by
  have HT := hide hT
  have h0 : decide (100 < (s.size : Int)) = false := by simp; omega
  have CP := hide (fun W hW => parse_v s W hW (by omega) x y 0 hp)
  have CR := hide (fun W => rparse_v s W (by omega) x y 0 hp)
  have CT := hide (fun W hW => text_v x y W hW s ht)
  clear hp ht
  clear hT 
  go_enter Tryd.func5, Tryd.ntmps5
  go_wp2_with fail
  refine (awake_yes _ HT.out).mono ?_
  rintro e w1 ⟨rfl, B⟩
  go_wp2_with fail
  refine (CP.out _ (HT.out.below B)).mono ?_
  rintro e w2 ⟨rfl, hb⟩
  replace B := B.trans (hb.mono B.size)
  clear hb
  go_wp2_with fail
  generalize hW : w2.alloc _ = V2
  obtain ⟨hb, bx⟩ := boxA hW
  replace B := B.trans (hb.mono B.size)
  generalize w2.heap.size = gbx at *
  have fbx0 : V2.cell? ⟨gbx, 0, none⟩ = some (.int .i64 x) := bx.at_ 0
  have fbx1 : V2.cell? ⟨gbx, 1, none⟩ = some (.int .i64 y) := bx.at_ 1
  have zbx : gbx < V2.heap.size := bx.lt
  clear hW hb
  go_wp2_with fail
  refine (CR.out _).mono ?_
  rintro e w3 ⟨rfl, hb⟩
  replace bx := bx.below' hb
  replace B := B.trans (hb.mono B.size)
  clear fbx0 fbx1 zbx
  have fbx0 : w3.cell? ⟨gbx, 0, none⟩ = some (.int .i64 x) := bx.at_ 0
  have fbx1 : w3.cell? ⟨gbx, 1, none⟩ = some (.int .i64 y) := bx.at_ 1
  have zbx : gbx < w3.heap.size := bx.lt
  clear hb
  go_wp2_with fail
  generalize hW : w3.alloc _ = V3
  obtain ⟨hb, bz⟩ := boxA hW
  replace bx := bx.below' hb
  replace B := B.trans (hb.mono B.size)
  clear fbx0 fbx1 zbx
  generalize w3.heap.size = gbz at *
  have fbx0 : V3.cell? ⟨gbx, 0, none⟩ = some (.int .i64 x) := bx.at_ 0
  have fbx1 : V3.cell? ⟨gbx, 1, none⟩ = some (.int .i64 y) := bx.at_ 1
  have zbx : gbx < V3.heap.size := bx.lt
  have fbz0 : V3.cell? ⟨gbz, 0, none⟩ = some (.int .i64 x) := bz.at_ 0
  have fbz1 : V3.cell? ⟨gbz, 1, none⟩ = some (.int .i64 y) := bz.at_ 1
  have zbz : gbz < V3.heap.size := bz.lt
  clear hW hb
  go_wp2_with fail
  refine (CT.out _ (HT.out.below B)).mono ?_
  rintro e w4 ⟨rfl, hb⟩
  replace bx := bx.below' hb
  replace bz := bz.below' hb
  replace B := B.trans (hb.mono B.size)
  clear fbx0 fbx1 zbx fbz0 fbz1 zbz
  have fbx0 : w4.cell? ⟨gbx, 0, none⟩ = some (.int .i64 x) := bx.at_ 0
  have fbx1 : w4.cell? ⟨gbx, 1, none⟩ = some (.int .i64 y) := bx.at_ 1
  have zbx : gbx < w4.heap.size := bx.lt
  have fbz0 : w4.cell? ⟨gbz, 0, none⟩ = some (.int .i64 x) := bz.at_ 0
  have fbz1 : w4.cell? ⟨gbz, 1, none⟩ = some (.int .i64 y) := bz.at_ 1
  have zbz : gbz < w4.heap.size := bz.lt
  clear hb
  go_wp2_with fail
  go_ret
  exact ⟨rfl, B⟩
set_option maxHeartbeats 4000000 in
set_option maxRecDepth 100000 in
theorem parses_3 (s : ByteArray) (w : World) (hT : Lw w) (hs : s.size ≤ 100) (hp : prs s.data.toList = (0, 0, 3)) :
    Calls Tryd.prog 5 #[.string s] w fun e w' => e = .returned (.bool true) ∧ Below w.heap.size w w' := by
  have HT := hide hT
  have h0 : decide (100 < (s.size : Int)) = false := by simp; omega
  have CP := hide (fun W hW => parse_v s W hW (by omega) 0 0 3 hp)
  have CR := hide (fun W => rparse_v s W (by omega) 0 0 3 hp)
  clear hp
  clear hT 
  go_enter Tryd.func5, Tryd.ntmps5
  go_wp2_with fail
  refine (awake_yes _ HT.out).mono ?_
  rintro e w1 ⟨rfl, B⟩
  go_wp2_with fail
  refine (CP.out _ (HT.out.below B)).mono ?_
  rintro e w2 ⟨rfl, hb⟩
  replace B := B.trans (hb.mono B.size)
  clear hb
  go_wp2_with fail
  generalize hW : w2.alloc _ = V2
  obtain ⟨hb, bx⟩ := boxA hW
  replace B := B.trans (hb.mono B.size)
  generalize w2.heap.size = gbx at *
  have fbx0 : V2.cell? ⟨gbx, 0, none⟩ = some (.int .i64 0) := bx.at_ 0
  have fbx1 : V2.cell? ⟨gbx, 1, none⟩ = some (.int .i64 0) := bx.at_ 1
  have zbx : gbx < V2.heap.size := bx.lt
  clear hW hb
  go_wp2_with fail
  refine (CR.out _).mono ?_
  rintro e w3 ⟨rfl, hb⟩
  replace bx := bx.below' hb
  replace B := B.trans (hb.mono B.size)
  clear fbx0 fbx1 zbx
  have fbx0 : w3.cell? ⟨gbx, 0, none⟩ = some (.int .i64 0) := bx.at_ 0
  have fbx1 : w3.cell? ⟨gbx, 1, none⟩ = some (.int .i64 0) := bx.at_ 1
  have zbx : gbx < w3.heap.size := bx.lt
  clear hb
  go_wp2_with fail
  generalize hW : w3.alloc _ = V3
  obtain ⟨hb, bz⟩ := boxA hW
  replace bx := bx.below' hb
  replace B := B.trans (hb.mono B.size)
  clear fbx0 fbx1 zbx
  generalize w3.heap.size = gbz at *
  have fbx0 : V3.cell? ⟨gbx, 0, none⟩ = some (.int .i64 0) := bx.at_ 0
  have fbx1 : V3.cell? ⟨gbx, 1, none⟩ = some (.int .i64 0) := bx.at_ 1
  have zbx : gbx < V3.heap.size := bx.lt
  have fbz0 : V3.cell? ⟨gbz, 0, none⟩ = some (.int .i64 0) := bz.at_ 0
  have fbz1 : V3.cell? ⟨gbz, 1, none⟩ = some (.int .i64 0) := bz.at_ 1
  have zbz : gbz < V3.heap.size := bz.lt
  clear hW hb
  go_wp2_with fail
  go_ret
  exact ⟨rfl, B⟩
theorem parses_all (s : ByteArray) (w : World) (hT : Lw w) :
    Calls Tryd.prog 5 #[.string s] w fun e w' => e = .returned (.bool true) ∧ Below w.heap.size w w' := by
  by_cases h0 : 100 < s.size
  · exact parses_1 s w hT (by simp; omega)
  · rcases h : parseL s.data.toList with _ | ⟨x, y⟩
    · exact parses_3 s w hT (by omega) (by unfold prs; rw [h])
    · exact parses_2 s w hT (by omega) x y (by unfold prs; rw [h]) (parseL_ok h).2
end Go.Proofs.YtihadabaehcmiaaDoor
