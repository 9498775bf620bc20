/- The body of LabelParses. -/
import Derived.Test.YtdoknlodnpeeoaaDoorLBCmp
namespace Go.Proofs.YtdoknlodnpeeoaaDoor
open Go Go.RowKit Go.Lib

theorem parR_cases (l : List UInt8) : (∃ x y z, parR l = (x, y, z, 0) ∧ IsLab l x y z) ∨ parR l = (0, 0, 0, 3) := by
  unfold parR
  rcases h : parL l with _ | ⟨x, y, z⟩
  · exact .inr rfl
  · exact .inl ⟨x, y, z, rfl, parL_some.1 h⟩
theorem isLab_text {s : ByteArray} {x y z : Int} (h : IsLab s.data.toList x y z) : labT x y z = s := by
  unfold labT
  rw [if_pos h.1, h.2, strB_data]
set_option maxRecDepth 100000 in
set_option maxHeartbeats 16000000 in
theorem par_big (s : ByteArray) (w : World) (hT : Lw w) (h : 100 < s.size) :
    Calls Tryd.prog 4 #[.string s] w fun e w' => e = .returned (.bool true) ∧ Below w.heap.size w w' := by
  have HT := hide hT
  have d1 : decide (100 < (s.size : Int)) = true := decide_eq_true (by omega)
  clear hT
  go_enter Tryd.func4, Tryd.ntmps4
  have B := Below.refl w.heap.size w
  go_wp2_with fail
  refine (awake_yes _ HT.out).mono ?_
  rintro e w1 ⟨rfl, hb⟩
  replace B := B.trans (hb.mono B.size)
  clear hb
  go_wp2_with fail
  refine (awake_yes _ (HT.out.below B)).mono ?_
  rintro e w2 ⟨rfl, hb⟩
  replace B := B.trans (hb.mono B.size)
  clear hb
  go_wp2_with fail
  go_ret
  exact ⟨rfl, B⟩
set_option maxRecDepth 100000 in
set_option maxHeartbeats 16000000 in
theorem par_l (s : ByteArray) (x y z : Int) (w : World) (hT : Lw w) (h : s.size ≤ 100) (hp : parR s.data.toList = (x, y, z, 0)) (hl : labT x y z = s) :
    Calls Tryd.prog 4 #[.string s] w fun e w' => e = .returned (.bool true) ∧ Below w.heap.size w w' := by
  have HT := hide hT
  have d1 : decide (100 < (s.size : Int)) = false := decide_eq_false (by omega)
  have HP := hide hp
  have HL := hide hl
  clear hp hl
  clear hT
  go_enter Tryd.func4, Tryd.ntmps4
  have B := Below.refl w.heap.size w
  go_wp2_with fail
  refine (awake_yes _ HT.out).mono ?_
  rintro e w1 ⟨rfl, hb⟩
  replace B := B.trans (hb.mono B.size)
  clear hb
  go_wp2_with fail
  refine (parse_any s _ (HT.out.below B) (by omega) x y z 0 HP.out).mono ?_
  rintro e w2 ⟨rfl, hb⟩
  replace B := B.trans (hb.mono B.size)
  clear hb
  go_wp2_with fail
  generalize hW : w2.alloc _ = V0
  obtain ⟨hb, bx, -⟩ := boxC hW
  clear hW
  replace B := B.trans (hb.mono B.size)
  clear hb
  generalize w2.heap.size = g0 at *
  have lbx := bx.lt
  have zbx0 : V0.cell? ⟨g0, 0, none⟩ = some (.int .i64 x) := bx.at_ 0
  have zbx1 : V0.cell? ⟨g0, 1, none⟩ = some (.int .i64 y) := bx.at_ 1
  have zbx2 : V0.cell? ⟨g0, 2, none⟩ = some (.int .i64 z) := bx.at_ 2
  go_wp2_with fail
  refine (rparse_any s _ (HT.out.below B) (by omega) x y z 0 HP.out).mono ?_
  rintro e w3 ⟨rfl, hb⟩
  clear zbx0 zbx1 zbx2
  replace B := B.trans (hb.mono B.size)
  replace bx := bx.below' hb
  clear hb
  have lbx := bx.lt
  have zbx0 : w3.cell? ⟨g0, 0, none⟩ = some (.int .i64 x) := bx.at_ 0
  have zbx1 : w3.cell? ⟨g0, 1, none⟩ = some (.int .i64 y) := bx.at_ 1
  have zbx2 : w3.cell? ⟨g0, 2, none⟩ = some (.int .i64 z) := bx.at_ 2
  go_wp2_with fail
  generalize hW : w3.alloc _ = V1
  obtain ⟨hb, bu, -⟩ := boxC hW
  clear hW
  clear zbx0 zbx1 zbx2
  replace B := B.trans (hb.mono B.size)
  replace bx := bx.below' hb
  clear hb
  generalize w3.heap.size = g1 at *
  have lbx := bx.lt
  have zbx0 : V1.cell? ⟨g0, 0, none⟩ = some (.int .i64 x) := bx.at_ 0
  have zbx1 : V1.cell? ⟨g0, 1, none⟩ = some (.int .i64 y) := bx.at_ 1
  have zbx2 : V1.cell? ⟨g0, 2, none⟩ = some (.int .i64 z) := bx.at_ 2
  have lbu := bu.lt
  have zbu0 : V1.cell? ⟨g1, 0, none⟩ = some (.int .i64 x) := bu.at_ 0
  have zbu1 : V1.cell? ⟨g1, 1, none⟩ = some (.int .i64 y) := bu.at_ 1
  have zbu2 : V1.cell? ⟨g1, 2, none⟩ = some (.int .i64 z) := bu.at_ 2
  go_wp2_with fail
  refine (text_any x y z _ (HT.out.below B) s HL.out).mono ?_
  rintro e w4 ⟨rfl, hb⟩
  clear zbx0 zbx1 zbx2 zbu0 zbu1 zbu2
  replace B := B.trans (hb.mono B.size)
  replace bx := bx.below' hb
  replace bu := bu.below' hb
  clear hb
  have lbx := bx.lt
  have zbx0 : w4.cell? ⟨g0, 0, none⟩ = some (.int .i64 x) := bx.at_ 0
  have zbx1 : w4.cell? ⟨g0, 1, none⟩ = some (.int .i64 y) := bx.at_ 1
  have zbx2 : w4.cell? ⟨g0, 2, none⟩ = some (.int .i64 z) := bx.at_ 2
  have lbu := bu.lt
  have zbu0 : w4.cell? ⟨g1, 0, none⟩ = some (.int .i64 x) := bu.at_ 0
  have zbu1 : w4.cell? ⟨g1, 1, none⟩ = some (.int .i64 y) := bu.at_ 1
  have zbu2 : w4.cell? ⟨g1, 2, none⟩ = some (.int .i64 z) := bu.at_ 2
  go_wp2_with fail
  go_ret
  exact ⟨rfl, B⟩
set_option maxRecDepth 100000 in
set_option maxHeartbeats 16000000 in
theorem par_n (s : ByteArray) (w : World) (hT : Lw w) (h : s.size ≤ 100) (hp : parR s.data.toList = (0, 0, 0, 3)) :
    Calls Tryd.prog 4 #[.string s] w fun e w' => e = .returned (.bool true) ∧ Below w.heap.size w w' := by
  have HT := hide hT
  have d1 : decide (100 < (s.size : Int)) = false := decide_eq_false (by omega)
  have HP := hide hp
  clear hp
  clear hT
  go_enter Tryd.func4, Tryd.ntmps4
  have B := Below.refl w.heap.size w
  go_wp2_with fail
  refine (awake_yes _ HT.out).mono ?_
  rintro e w1 ⟨rfl, hb⟩
  replace B := B.trans (hb.mono B.size)
  clear hb
  go_wp2_with fail
  refine (parse_any s _ (HT.out.below B) (by omega) 0 0 0 3 HP.out).mono ?_
  rintro e w2 ⟨rfl, hb⟩
  replace B := B.trans (hb.mono B.size)
  clear hb
  go_wp2_with fail
  generalize hW : w2.alloc _ = V0
  obtain ⟨hb, bx, -⟩ := boxC hW
  clear hW
  replace B := B.trans (hb.mono B.size)
  clear hb
  generalize w2.heap.size = g0 at *
  have lbx := bx.lt
  have zbx0 : V0.cell? ⟨g0, 0, none⟩ = some (.int .i64 0) := bx.at_ 0
  have zbx1 : V0.cell? ⟨g0, 1, none⟩ = some (.int .i64 0) := bx.at_ 1
  have zbx2 : V0.cell? ⟨g0, 2, none⟩ = some (.int .i64 0) := bx.at_ 2
  go_wp2_with fail
  refine (rparse_any s _ (HT.out.below B) (by omega) 0 0 0 3 HP.out).mono ?_
  rintro e w3 ⟨rfl, hb⟩
  clear zbx0 zbx1 zbx2
  replace B := B.trans (hb.mono B.size)
  replace bx := bx.below' hb
  clear hb
  have lbx := bx.lt
  have zbx0 : w3.cell? ⟨g0, 0, none⟩ = some (.int .i64 0) := bx.at_ 0
  have zbx1 : w3.cell? ⟨g0, 1, none⟩ = some (.int .i64 0) := bx.at_ 1
  have zbx2 : w3.cell? ⟨g0, 2, none⟩ = some (.int .i64 0) := bx.at_ 2
  go_wp2_with fail
  generalize hW : w3.alloc _ = V1
  obtain ⟨hb, bu, -⟩ := boxC hW
  clear hW
  clear zbx0 zbx1 zbx2
  replace B := B.trans (hb.mono B.size)
  replace bx := bx.below' hb
  clear hb
  generalize w3.heap.size = g1 at *
  have lbx := bx.lt
  have zbx0 : V1.cell? ⟨g0, 0, none⟩ = some (.int .i64 0) := bx.at_ 0
  have zbx1 : V1.cell? ⟨g0, 1, none⟩ = some (.int .i64 0) := bx.at_ 1
  have zbx2 : V1.cell? ⟨g0, 2, none⟩ = some (.int .i64 0) := bx.at_ 2
  have lbu := bu.lt
  have zbu0 : V1.cell? ⟨g1, 0, none⟩ = some (.int .i64 0) := bu.at_ 0
  have zbu1 : V1.cell? ⟨g1, 1, none⟩ = some (.int .i64 0) := bu.at_ 1
  have zbu2 : V1.cell? ⟨g1, 2, none⟩ = some (.int .i64 0) := bu.at_ 2
  go_wp2_with fail
  go_ret
  exact ⟨rfl, B⟩
theorem parses_all (s : ByteArray) (w : World) (hT : Lw w) :
    Calls Tryd.prog 4 #[.string s] w fun e w' => e = .returned (.bool true) ∧ Below w.heap.size w w' := by
  by_cases h : s.size ≤ 100
  · rcases parR_cases s.data.toList with ⟨x, y, z, hp, hl⟩ | hp
    · exact par_l s x y z w hT h hp (isLab_text hl)
    · exact par_n s w hT h hp
  · exact par_big s w hT (by omega)
end Go.Proofs.YtdoknlodnpeeoaaDoor
