/- The body of LabelPairings. -/
import Derived.Test.YtdoknlodnpeeoaaDoorLPC
namespace Go.Proofs.YtdoknlodnpeeoaaDoor
open Go Go.RowKit Go.Lib

set_option maxRecDepth 100000 in
set_option maxHeartbeats 16000000 in
theorem pai_big (a b c x y z : Int) (s : ByteArray) (w : World) (hT : Lw w) (h : 100 < s.size) :
    Calls Tryd.prog 10 #[.agg #[.int .i64 a, .int .i64 b, .int .i64 c], .agg #[.int .i64 x, .int .i64 y, .int .i64 z], .string s] w fun e w' => e = .returned (.bool true) ∧ Below w.heap.size w w' := by
  have HT := hide hT
  have d1 : decide (100 < (s.size : Int)) = true := decide_eq_true (by omega)
  clear hT
  go_enter Tryd.func10, Tryd.ntmps10
  go_wp2_with fail
  generalize hW : (w.alloc _).alloc _ = W0
  obtain ⟨B, ba, bb⟩ := boxD hW
  clear hW
  have lba := ba.lt
  have zba0 : W0.cell? ⟨w.heap.size, 0, none⟩ = some (.int .i64 a) := ba.at_ 0
  have zba1 : W0.cell? ⟨w.heap.size, 1, none⟩ = some (.int .i64 b) := ba.at_ 1
  have zba2 : W0.cell? ⟨w.heap.size, 2, none⟩ = some (.int .i64 c) := ba.at_ 2
  have lbb := bb.lt
  have zbb0 : W0.cell? ⟨w.heap.size + 1, 0, none⟩ = some (.int .i64 x) := bb.at_ 0
  have zbb1 : W0.cell? ⟨w.heap.size + 1, 1, none⟩ = some (.int .i64 y) := bb.at_ 1
  have zbb2 : W0.cell? ⟨w.heap.size + 1, 2, none⟩ = some (.int .i64 z) := bb.at_ 2
  go_wp2_with fail
  refine (awake_yes _ (HT.out.below B)).mono ?_
  rintro e w1 ⟨rfl, hb⟩
  clear zba0 zba1 zba2 zbb0 zbb1 zbb2
  replace B := B.trans (hb.mono B.size)
  replace ba := ba.below' hb
  replace bb := bb.below' hb
  clear hb
  have lba := ba.lt
  have zba0 : w1.cell? ⟨w.heap.size, 0, none⟩ = some (.int .i64 a) := ba.at_ 0
  have zba1 : w1.cell? ⟨w.heap.size, 1, none⟩ = some (.int .i64 b) := ba.at_ 1
  have zba2 : w1.cell? ⟨w.heap.size, 2, none⟩ = some (.int .i64 c) := ba.at_ 2
  have lbb := bb.lt
  have zbb0 : w1.cell? ⟨w.heap.size + 1, 0, none⟩ = some (.int .i64 x) := bb.at_ 0
  have zbb1 : w1.cell? ⟨w.heap.size + 1, 1, none⟩ = some (.int .i64 y) := bb.at_ 1
  have zbb2 : w1.cell? ⟨w.heap.size + 1, 2, none⟩ = some (.int .i64 z) := bb.at_ 2
  go_wp2_with fail
  refine (awake_yes _ (HT.out.below B)).mono ?_
  rintro e w2 ⟨rfl, hb⟩
  clear zba0 zba1 zba2 zbb0 zbb1 zbb2
  replace B := B.trans (hb.mono B.size)
  replace ba := ba.below' hb
  replace bb := bb.below' hb
  clear hb
  go_wp2_with fail
  go_ret
  exact ⟨rfl, B⟩
set_option maxRecDepth 100000 in
set_option maxHeartbeats 16000000 in
theorem pai_y (a b c x y z : Int) (s : ByteArray) (w : World) (hT : Lw w) (h : pB a b c x y z) (hs : s.size ≤ 100) :
    Calls Tryd.prog 10 #[.agg #[.int .i64 a, .int .i64 b, .int .i64 c], .agg #[.int .i64 x, .int .i64 y, .int .i64 z], .string s] w fun e w' => e = .returned (.bool true) ∧ Below w.heap.size w w' := by
  have HT := hide hT
  have d1 : decide (100 < (s.size : Int)) = false := decide_eq_false (by omega)
  have H1 := hide h
  obtain ⟨S, hS⟩ : ∃ S, labT a b c ++ ⟨#[47]⟩ ++ labT x y z = S := ⟨_, rfl⟩
  have HS := hide hS
  have HPS := hide (show ppR S.data.toList = ((a, b, c), (x, y, z), 0) from by rw [← hS]; exact ppR_text h)
  have HZ := hide (show S.size ≤ 1000 from by rw [← hS, ByteArray.size_append, ByteArray.size_append]; have h1 := labT_size a b c; have h2 := labT_size x y z; have h3 : (⟨#[47]⟩ : ByteArray).size = 1 := rfl; omega)
  obtain ⟨a1, b1, c1, x1, y1, z1, er, hpp⟩ : ∃ a1 b1 c1 x1 y1 z1 er, ppR s.data.toList = ((a1, b1, c1), (x1, y1, z1), er) := ⟨_, _, _, _, _, _, _, rfl⟩
  have HQ := hide hpp
  have HSZ := hide hs
  clear h hs hpp hS
  clear hT
  go_enter Tryd.func10, Tryd.ntmps10
  go_wp2_with fail
  generalize hW : (w.alloc _).alloc _ = W0
  obtain ⟨B, ba, bb⟩ := boxD hW
  clear hW
  have lba := ba.lt
  have zba0 : W0.cell? ⟨w.heap.size, 0, none⟩ = some (.int .i64 a) := ba.at_ 0
  have zba1 : W0.cell? ⟨w.heap.size, 1, none⟩ = some (.int .i64 b) := ba.at_ 1
  have zba2 : W0.cell? ⟨w.heap.size, 2, none⟩ = some (.int .i64 c) := ba.at_ 2
  have lbb := bb.lt
  have zbb0 : W0.cell? ⟨w.heap.size + 1, 0, none⟩ = some (.int .i64 x) := bb.at_ 0
  have zbb1 : W0.cell? ⟨w.heap.size + 1, 1, none⟩ = some (.int .i64 y) := bb.at_ 1
  have zbb2 : W0.cell? ⟨w.heap.size + 1, 2, none⟩ = some (.int .i64 z) := bb.at_ 2
  go_wp2_with fail
  refine (awake_yes _ (HT.out.below B)).mono ?_
  rintro e w1 ⟨rfl, hb⟩
  clear zba0 zba1 zba2 zbb0 zbb1 zbb2
  replace B := B.trans (hb.mono B.size)
  replace ba := ba.below' hb
  replace bb := bb.below' hb
  clear hb
  have lba := ba.lt
  have zba0 : w1.cell? ⟨w.heap.size, 0, none⟩ = some (.int .i64 a) := ba.at_ 0
  have zba1 : w1.cell? ⟨w.heap.size, 1, none⟩ = some (.int .i64 b) := ba.at_ 1
  have zba2 : w1.cell? ⟨w.heap.size, 2, none⟩ = some (.int .i64 c) := ba.at_ 2
  have lbb := bb.lt
  have zbb0 : w1.cell? ⟨w.heap.size + 1, 0, none⟩ = some (.int .i64 x) := bb.at_ 0
  have zbb1 : w1.cell? ⟨w.heap.size + 1, 1, none⟩ = some (.int .i64 y) := bb.at_ 1
  have zbb2 : w1.cell? ⟨w.heap.size + 1, 2, none⟩ = some (.int .i64 z) := bb.at_ 2
  go_wp2_with fail
  refine (pair_y a b c x y z _ (HT.out.below B) H1.out S HS.out).mono ?_
  rintro e w2 ⟨rfl, hb⟩
  clear zba0 zba1 zba2 zbb0 zbb1 zbb2
  replace B := B.trans (hb.mono B.size)
  replace ba := ba.below' hb
  replace bb := bb.below' hb
  clear hb
  have lba := ba.lt
  have zba0 : w2.cell? ⟨w.heap.size, 0, none⟩ = some (.int .i64 a) := ba.at_ 0
  have zba1 : w2.cell? ⟨w.heap.size, 1, none⟩ = some (.int .i64 b) := ba.at_ 1
  have zba2 : w2.cell? ⟨w.heap.size, 2, none⟩ = some (.int .i64 c) := ba.at_ 2
  have lbb := bb.lt
  have zbb0 : w2.cell? ⟨w.heap.size + 1, 0, none⟩ = some (.int .i64 x) := bb.at_ 0
  have zbb1 : w2.cell? ⟨w.heap.size + 1, 1, none⟩ = some (.int .i64 y) := bb.at_ 1
  have zbb2 : w2.cell? ⟨w.heap.size + 1, 2, none⟩ = some (.int .i64 z) := bb.at_ 2
  go_wp2_with fail
  refine (rpair_y a b c x y z _ (HT.out.below B) H1.out S HS.out).mono ?_
  rintro e w3 ⟨rfl, hb⟩
  clear zba0 zba1 zba2 zbb0 zbb1 zbb2
  replace B := B.trans (hb.mono B.size)
  replace ba := ba.below' hb
  replace bb := bb.below' hb
  clear hb
  have lba := ba.lt
  have zba0 : w3.cell? ⟨w.heap.size, 0, none⟩ = some (.int .i64 a) := ba.at_ 0
  have zba1 : w3.cell? ⟨w.heap.size, 1, none⟩ = some (.int .i64 b) := ba.at_ 1
  have zba2 : w3.cell? ⟨w.heap.size, 2, none⟩ = some (.int .i64 c) := ba.at_ 2
  have lbb := bb.lt
  have zbb0 : w3.cell? ⟨w.heap.size + 1, 0, none⟩ = some (.int .i64 x) := bb.at_ 0
  have zbb1 : w3.cell? ⟨w.heap.size + 1, 1, none⟩ = some (.int .i64 y) := bb.at_ 1
  have zbb2 : w3.cell? ⟨w.heap.size + 1, 2, none⟩ = some (.int .i64 z) := bb.at_ 2
  go_wp2_with fail
  refine (ppair_any s _ (HT.out.below B) (by have := HSZ.out; omega) a1 b1 c1 x1 y1 z1 er HQ.out).mono ?_
  rintro e w4 ⟨rfl, hb⟩
  clear zba0 zba1 zba2 zbb0 zbb1 zbb2
  replace B := B.trans (hb.mono B.size)
  replace ba := ba.below' hb
  replace bb := bb.below' hb
  clear hb
  have lba := ba.lt
  have zba0 : w4.cell? ⟨w.heap.size, 0, none⟩ = some (.int .i64 a) := ba.at_ 0
  have zba1 : w4.cell? ⟨w.heap.size, 1, none⟩ = some (.int .i64 b) := ba.at_ 1
  have zba2 : w4.cell? ⟨w.heap.size, 2, none⟩ = some (.int .i64 c) := ba.at_ 2
  have lbb := bb.lt
  have zbb0 : w4.cell? ⟨w.heap.size + 1, 0, none⟩ = some (.int .i64 x) := bb.at_ 0
  have zbb1 : w4.cell? ⟨w.heap.size + 1, 1, none⟩ = some (.int .i64 y) := bb.at_ 1
  have zbb2 : w4.cell? ⟨w.heap.size + 1, 2, none⟩ = some (.int .i64 z) := bb.at_ 2
  go_wp2_with fail
  generalize hW : (w4.alloc _).alloc _ = V0
  obtain ⟨hb, p0, q0⟩ := boxD hW
  clear hW
  clear zba0 zba1 zba2 zbb0 zbb1 zbb2
  replace B := B.trans (hb.mono B.size)
  replace ba := ba.below' hb
  replace bb := bb.below' hb
  clear hb
  generalize w4.heap.size = g0 at *
  have lba := ba.lt
  have zba0 : V0.cell? ⟨w.heap.size, 0, none⟩ = some (.int .i64 a) := ba.at_ 0
  have zba1 : V0.cell? ⟨w.heap.size, 1, none⟩ = some (.int .i64 b) := ba.at_ 1
  have zba2 : V0.cell? ⟨w.heap.size, 2, none⟩ = some (.int .i64 c) := ba.at_ 2
  have lbb := bb.lt
  have zbb0 : V0.cell? ⟨w.heap.size + 1, 0, none⟩ = some (.int .i64 x) := bb.at_ 0
  have zbb1 : V0.cell? ⟨w.heap.size + 1, 1, none⟩ = some (.int .i64 y) := bb.at_ 1
  have zbb2 : V0.cell? ⟨w.heap.size + 1, 2, none⟩ = some (.int .i64 z) := bb.at_ 2
  have lp0 := p0.lt
  have zp00 : V0.cell? ⟨g0, 0, none⟩ = some (.int .i64 a1) := p0.at_ 0
  have zp01 : V0.cell? ⟨g0, 1, none⟩ = some (.int .i64 b1) := p0.at_ 1
  have zp02 : V0.cell? ⟨g0, 2, none⟩ = some (.int .i64 c1) := p0.at_ 2
  have lq0 := q0.lt
  have zq00 : V0.cell? ⟨g0 + 1, 0, none⟩ = some (.int .i64 x1) := q0.at_ 0
  have zq01 : V0.cell? ⟨g0 + 1, 1, none⟩ = some (.int .i64 y1) := q0.at_ 1
  have zq02 : V0.cell? ⟨g0 + 1, 2, none⟩ = some (.int .i64 z1) := q0.at_ 2
  go_wp2_with fail
  refine (rppair_any s _ (HT.out.below B) (by have := HSZ.out; omega) a1 b1 c1 x1 y1 z1 er HQ.out).mono ?_
  rintro e w5 ⟨rfl, hb⟩
  clear zba0 zba1 zba2 zbb0 zbb1 zbb2 zp00 zp01 zp02 zq00 zq01 zq02
  replace B := B.trans (hb.mono B.size)
  replace ba := ba.below' hb
  replace bb := bb.below' hb
  replace p0 := p0.below' hb
  replace q0 := q0.below' hb
  clear hb
  have lba := ba.lt
  have zba0 : w5.cell? ⟨w.heap.size, 0, none⟩ = some (.int .i64 a) := ba.at_ 0
  have zba1 : w5.cell? ⟨w.heap.size, 1, none⟩ = some (.int .i64 b) := ba.at_ 1
  have zba2 : w5.cell? ⟨w.heap.size, 2, none⟩ = some (.int .i64 c) := ba.at_ 2
  have lbb := bb.lt
  have zbb0 : w5.cell? ⟨w.heap.size + 1, 0, none⟩ = some (.int .i64 x) := bb.at_ 0
  have zbb1 : w5.cell? ⟨w.heap.size + 1, 1, none⟩ = some (.int .i64 y) := bb.at_ 1
  have zbb2 : w5.cell? ⟨w.heap.size + 1, 2, none⟩ = some (.int .i64 z) := bb.at_ 2
  have lp0 := p0.lt
  have zp00 : w5.cell? ⟨g0, 0, none⟩ = some (.int .i64 a1) := p0.at_ 0
  have zp01 : w5.cell? ⟨g0, 1, none⟩ = some (.int .i64 b1) := p0.at_ 1
  have zp02 : w5.cell? ⟨g0, 2, none⟩ = some (.int .i64 c1) := p0.at_ 2
  have lq0 := q0.lt
  have zq00 : w5.cell? ⟨g0 + 1, 0, none⟩ = some (.int .i64 x1) := q0.at_ 0
  have zq01 : w5.cell? ⟨g0 + 1, 1, none⟩ = some (.int .i64 y1) := q0.at_ 1
  have zq02 : w5.cell? ⟨g0 + 1, 2, none⟩ = some (.int .i64 z1) := q0.at_ 2
  go_wp2_with fail
  generalize hW : (w5.alloc _).alloc _ = V1
  obtain ⟨hb, p1, q1⟩ := boxD hW
  clear hW
  clear zba0 zba1 zba2 zbb0 zbb1 zbb2 zp00 zp01 zp02 zq00 zq01 zq02
  replace B := B.trans (hb.mono B.size)
  replace ba := ba.below' hb
  replace bb := bb.below' hb
  replace p0 := p0.below' hb
  replace q0 := q0.below' hb
  clear hb
  generalize w5.heap.size = g1 at *
  have lba := ba.lt
  have zba0 : V1.cell? ⟨w.heap.size, 0, none⟩ = some (.int .i64 a) := ba.at_ 0
  have zba1 : V1.cell? ⟨w.heap.size, 1, none⟩ = some (.int .i64 b) := ba.at_ 1
  have zba2 : V1.cell? ⟨w.heap.size, 2, none⟩ = some (.int .i64 c) := ba.at_ 2
  have lbb := bb.lt
  have zbb0 : V1.cell? ⟨w.heap.size + 1, 0, none⟩ = some (.int .i64 x) := bb.at_ 0
  have zbb1 : V1.cell? ⟨w.heap.size + 1, 1, none⟩ = some (.int .i64 y) := bb.at_ 1
  have zbb2 : V1.cell? ⟨w.heap.size + 1, 2, none⟩ = some (.int .i64 z) := bb.at_ 2
  have lp0 := p0.lt
  have zp00 : V1.cell? ⟨g0, 0, none⟩ = some (.int .i64 a1) := p0.at_ 0
  have zp01 : V1.cell? ⟨g0, 1, none⟩ = some (.int .i64 b1) := p0.at_ 1
  have zp02 : V1.cell? ⟨g0, 2, none⟩ = some (.int .i64 c1) := p0.at_ 2
  have lq0 := q0.lt
  have zq00 : V1.cell? ⟨g0 + 1, 0, none⟩ = some (.int .i64 x1) := q0.at_ 0
  have zq01 : V1.cell? ⟨g0 + 1, 1, none⟩ = some (.int .i64 y1) := q0.at_ 1
  have zq02 : V1.cell? ⟨g0 + 1, 2, none⟩ = some (.int .i64 z1) := q0.at_ 2
  have lp1 := p1.lt
  have zp10 : V1.cell? ⟨g1, 0, none⟩ = some (.int .i64 a1) := p1.at_ 0
  have zp11 : V1.cell? ⟨g1, 1, none⟩ = some (.int .i64 b1) := p1.at_ 1
  have zp12 : V1.cell? ⟨g1, 2, none⟩ = some (.int .i64 c1) := p1.at_ 2
  have lq1 := q1.lt
  have zq10 : V1.cell? ⟨g1 + 1, 0, none⟩ = some (.int .i64 x1) := q1.at_ 0
  have zq11 : V1.cell? ⟨g1 + 1, 1, none⟩ = some (.int .i64 y1) := q1.at_ 1
  have zq12 : V1.cell? ⟨g1 + 1, 2, none⟩ = some (.int .i64 z1) := q1.at_ 2
  go_wp2_with fail
  refine (ppair_any S _ (HT.out.below B) HZ.out a b c x y z 0 HPS.out).mono ?_
  rintro e w6 ⟨rfl, hb⟩
  clear zba0 zba1 zba2 zbb0 zbb1 zbb2 zp00 zp01 zp02 zq00 zq01 zq02 zp10 zp11 zp12 zq10 zq11 zq12
  replace B := B.trans (hb.mono B.size)
  replace ba := ba.below' hb
  replace bb := bb.below' hb
  replace p0 := p0.below' hb
  replace q0 := q0.below' hb
  replace p1 := p1.below' hb
  replace q1 := q1.below' hb
  clear hb
  have lba := ba.lt
  have zba0 : w6.cell? ⟨w.heap.size, 0, none⟩ = some (.int .i64 a) := ba.at_ 0
  have zba1 : w6.cell? ⟨w.heap.size, 1, none⟩ = some (.int .i64 b) := ba.at_ 1
  have zba2 : w6.cell? ⟨w.heap.size, 2, none⟩ = some (.int .i64 c) := ba.at_ 2
  have lbb := bb.lt
  have zbb0 : w6.cell? ⟨w.heap.size + 1, 0, none⟩ = some (.int .i64 x) := bb.at_ 0
  have zbb1 : w6.cell? ⟨w.heap.size + 1, 1, none⟩ = some (.int .i64 y) := bb.at_ 1
  have zbb2 : w6.cell? ⟨w.heap.size + 1, 2, none⟩ = some (.int .i64 z) := bb.at_ 2
  have lp0 := p0.lt
  have zp00 : w6.cell? ⟨g0, 0, none⟩ = some (.int .i64 a1) := p0.at_ 0
  have zp01 : w6.cell? ⟨g0, 1, none⟩ = some (.int .i64 b1) := p0.at_ 1
  have zp02 : w6.cell? ⟨g0, 2, none⟩ = some (.int .i64 c1) := p0.at_ 2
  have lq0 := q0.lt
  have zq00 : w6.cell? ⟨g0 + 1, 0, none⟩ = some (.int .i64 x1) := q0.at_ 0
  have zq01 : w6.cell? ⟨g0 + 1, 1, none⟩ = some (.int .i64 y1) := q0.at_ 1
  have zq02 : w6.cell? ⟨g0 + 1, 2, none⟩ = some (.int .i64 z1) := q0.at_ 2
  have lp1 := p1.lt
  have zp10 : w6.cell? ⟨g1, 0, none⟩ = some (.int .i64 a1) := p1.at_ 0
  have zp11 : w6.cell? ⟨g1, 1, none⟩ = some (.int .i64 b1) := p1.at_ 1
  have zp12 : w6.cell? ⟨g1, 2, none⟩ = some (.int .i64 c1) := p1.at_ 2
  have lq1 := q1.lt
  have zq10 : w6.cell? ⟨g1 + 1, 0, none⟩ = some (.int .i64 x1) := q1.at_ 0
  have zq11 : w6.cell? ⟨g1 + 1, 1, none⟩ = some (.int .i64 y1) := q1.at_ 1
  have zq12 : w6.cell? ⟨g1 + 1, 2, none⟩ = some (.int .i64 z1) := q1.at_ 2
  go_wp2_with fail
  generalize hW : (w6.alloc _).alloc _ = V2
  obtain ⟨hb, p2, q2⟩ := boxD hW
  clear hW
  clear zba0 zba1 zba2 zbb0 zbb1 zbb2 zp00 zp01 zp02 zq00 zq01 zq02 zp10 zp11 zp12 zq10 zq11 zq12
  replace B := B.trans (hb.mono B.size)
  replace ba := ba.below' hb
  replace bb := bb.below' hb
  replace p0 := p0.below' hb
  replace q0 := q0.below' hb
  replace p1 := p1.below' hb
  replace q1 := q1.below' hb
  clear hb
  generalize w6.heap.size = g2 at *
  have lba := ba.lt
  have zba0 : V2.cell? ⟨w.heap.size, 0, none⟩ = some (.int .i64 a) := ba.at_ 0
  have zba1 : V2.cell? ⟨w.heap.size, 1, none⟩ = some (.int .i64 b) := ba.at_ 1
  have zba2 : V2.cell? ⟨w.heap.size, 2, none⟩ = some (.int .i64 c) := ba.at_ 2
  have lbb := bb.lt
  have zbb0 : V2.cell? ⟨w.heap.size + 1, 0, none⟩ = some (.int .i64 x) := bb.at_ 0
  have zbb1 : V2.cell? ⟨w.heap.size + 1, 1, none⟩ = some (.int .i64 y) := bb.at_ 1
  have zbb2 : V2.cell? ⟨w.heap.size + 1, 2, none⟩ = some (.int .i64 z) := bb.at_ 2
  have lp0 := p0.lt
  have zp00 : V2.cell? ⟨g0, 0, none⟩ = some (.int .i64 a1) := p0.at_ 0
  have zp01 : V2.cell? ⟨g0, 1, none⟩ = some (.int .i64 b1) := p0.at_ 1
  have zp02 : V2.cell? ⟨g0, 2, none⟩ = some (.int .i64 c1) := p0.at_ 2
  have lq0 := q0.lt
  have zq00 : V2.cell? ⟨g0 + 1, 0, none⟩ = some (.int .i64 x1) := q0.at_ 0
  have zq01 : V2.cell? ⟨g0 + 1, 1, none⟩ = some (.int .i64 y1) := q0.at_ 1
  have zq02 : V2.cell? ⟨g0 + 1, 2, none⟩ = some (.int .i64 z1) := q0.at_ 2
  have lp1 := p1.lt
  have zp10 : V2.cell? ⟨g1, 0, none⟩ = some (.int .i64 a1) := p1.at_ 0
  have zp11 : V2.cell? ⟨g1, 1, none⟩ = some (.int .i64 b1) := p1.at_ 1
  have zp12 : V2.cell? ⟨g1, 2, none⟩ = some (.int .i64 c1) := p1.at_ 2
  have lq1 := q1.lt
  have zq10 : V2.cell? ⟨g1 + 1, 0, none⟩ = some (.int .i64 x1) := q1.at_ 0
  have zq11 : V2.cell? ⟨g1 + 1, 1, none⟩ = some (.int .i64 y1) := q1.at_ 1
  have zq12 : V2.cell? ⟨g1 + 1, 2, none⟩ = some (.int .i64 z1) := q1.at_ 2
  have lp2 := p2.lt
  have zp20 : V2.cell? ⟨g2, 0, none⟩ = some (.int .i64 a) := p2.at_ 0
  have zp21 : V2.cell? ⟨g2, 1, none⟩ = some (.int .i64 b) := p2.at_ 1
  have zp22 : V2.cell? ⟨g2, 2, none⟩ = some (.int .i64 c) := p2.at_ 2
  have lq2 := q2.lt
  have zq20 : V2.cell? ⟨g2 + 1, 0, none⟩ = some (.int .i64 x) := q2.at_ 0
  have zq21 : V2.cell? ⟨g2 + 1, 1, none⟩ = some (.int .i64 y) := q2.at_ 1
  have zq22 : V2.cell? ⟨g2 + 1, 2, none⟩ = some (.int .i64 z) := q2.at_ 2
  go_wp2_with fail
  go_ret
  exact ⟨rfl, B⟩
set_option maxRecDepth 100000 in
set_option maxHeartbeats 16000000 in
theorem pai_n (a b c x y z : Int) (s : ByteArray) (w : World) (hT : Lw w) (h : ¬pB a b c x y z) (hs : s.size ≤ 100) :
    Calls Tryd.prog 10 #[.agg #[.int .i64 a, .int .i64 b, .int .i64 c], .agg #[.int .i64 x, .int .i64 y, .int .i64 z], .string s] w fun e w' => e = .returned (.bool true) ∧ Below w.heap.size w w' := by
  have HT := hide hT
  have d1 : decide (100 < (s.size : Int)) = false := decide_eq_false (by omega)
  have H1 := hide h
  obtain ⟨a1, b1, c1, x1, y1, z1, er, hpp⟩ : ∃ a1 b1 c1 x1 y1 z1 er, ppR s.data.toList = ((a1, b1, c1), (x1, y1, z1), er) := ⟨_, _, _, _, _, _, _, rfl⟩
  have HQ := hide hpp
  have HSZ := hide hs
  clear h hs hpp
  clear hT
  go_enter Tryd.func10, Tryd.ntmps10
  go_wp2_with fail
  generalize hW : (w.alloc _).alloc _ = W0
  obtain ⟨B, ba, bb⟩ := boxD hW
  clear hW
  have lba := ba.lt
  have zba0 : W0.cell? ⟨w.heap.size, 0, none⟩ = some (.int .i64 a) := ba.at_ 0
  have zba1 : W0.cell? ⟨w.heap.size, 1, none⟩ = some (.int .i64 b) := ba.at_ 1
  have zba2 : W0.cell? ⟨w.heap.size, 2, none⟩ = some (.int .i64 c) := ba.at_ 2
  have lbb := bb.lt
  have zbb0 : W0.cell? ⟨w.heap.size + 1, 0, none⟩ = some (.int .i64 x) := bb.at_ 0
  have zbb1 : W0.cell? ⟨w.heap.size + 1, 1, none⟩ = some (.int .i64 y) := bb.at_ 1
  have zbb2 : W0.cell? ⟨w.heap.size + 1, 2, none⟩ = some (.int .i64 z) := bb.at_ 2
  go_wp2_with fail
  refine (awake_yes _ (HT.out.below B)).mono ?_
  rintro e w1 ⟨rfl, hb⟩
  clear zba0 zba1 zba2 zbb0 zbb1 zbb2
  replace B := B.trans (hb.mono B.size)
  replace ba := ba.below' hb
  replace bb := bb.below' hb
  clear hb
  have lba := ba.lt
  have zba0 : w1.cell? ⟨w.heap.size, 0, none⟩ = some (.int .i64 a) := ba.at_ 0
  have zba1 : w1.cell? ⟨w.heap.size, 1, none⟩ = some (.int .i64 b) := ba.at_ 1
  have zba2 : w1.cell? ⟨w.heap.size, 2, none⟩ = some (.int .i64 c) := ba.at_ 2
  have lbb := bb.lt
  have zbb0 : w1.cell? ⟨w.heap.size + 1, 0, none⟩ = some (.int .i64 x) := bb.at_ 0
  have zbb1 : w1.cell? ⟨w.heap.size + 1, 1, none⟩ = some (.int .i64 y) := bb.at_ 1
  have zbb2 : w1.cell? ⟨w.heap.size + 1, 2, none⟩ = some (.int .i64 z) := bb.at_ 2
  go_wp2_with fail
  refine (pair_n a b c x y z _ (HT.out.below B) H1.out).mono ?_
  rintro e w2 ⟨rfl, hb⟩
  clear zba0 zba1 zba2 zbb0 zbb1 zbb2
  replace B := B.trans (hb.mono B.size)
  replace ba := ba.below' hb
  replace bb := bb.below' hb
  clear hb
  have lba := ba.lt
  have zba0 : w2.cell? ⟨w.heap.size, 0, none⟩ = some (.int .i64 a) := ba.at_ 0
  have zba1 : w2.cell? ⟨w.heap.size, 1, none⟩ = some (.int .i64 b) := ba.at_ 1
  have zba2 : w2.cell? ⟨w.heap.size, 2, none⟩ = some (.int .i64 c) := ba.at_ 2
  have lbb := bb.lt
  have zbb0 : w2.cell? ⟨w.heap.size + 1, 0, none⟩ = some (.int .i64 x) := bb.at_ 0
  have zbb1 : w2.cell? ⟨w.heap.size + 1, 1, none⟩ = some (.int .i64 y) := bb.at_ 1
  have zbb2 : w2.cell? ⟨w.heap.size + 1, 2, none⟩ = some (.int .i64 z) := bb.at_ 2
  go_wp2_with fail
  refine (rpair_n a b c x y z _ (HT.out.below B) H1.out).mono ?_
  rintro e w3 ⟨rfl, hb⟩
  clear zba0 zba1 zba2 zbb0 zbb1 zbb2
  replace B := B.trans (hb.mono B.size)
  replace ba := ba.below' hb
  replace bb := bb.below' hb
  clear hb
  have lba := ba.lt
  have zba0 : w3.cell? ⟨w.heap.size, 0, none⟩ = some (.int .i64 a) := ba.at_ 0
  have zba1 : w3.cell? ⟨w.heap.size, 1, none⟩ = some (.int .i64 b) := ba.at_ 1
  have zba2 : w3.cell? ⟨w.heap.size, 2, none⟩ = some (.int .i64 c) := ba.at_ 2
  have lbb := bb.lt
  have zbb0 : w3.cell? ⟨w.heap.size + 1, 0, none⟩ = some (.int .i64 x) := bb.at_ 0
  have zbb1 : w3.cell? ⟨w.heap.size + 1, 1, none⟩ = some (.int .i64 y) := bb.at_ 1
  have zbb2 : w3.cell? ⟨w.heap.size + 1, 2, none⟩ = some (.int .i64 z) := bb.at_ 2
  go_wp2_with fail
  refine (ppair_any s _ (HT.out.below B) (by have := HSZ.out; omega) a1 b1 c1 x1 y1 z1 er HQ.out).mono ?_
  rintro e w4 ⟨rfl, hb⟩
  clear zba0 zba1 zba2 zbb0 zbb1 zbb2
  replace B := B.trans (hb.mono B.size)
  replace ba := ba.below' hb
  replace bb := bb.below' hb
  clear hb
  have lba := ba.lt
  have zba0 : w4.cell? ⟨w.heap.size, 0, none⟩ = some (.int .i64 a) := ba.at_ 0
  have zba1 : w4.cell? ⟨w.heap.size, 1, none⟩ = some (.int .i64 b) := ba.at_ 1
  have zba2 : w4.cell? ⟨w.heap.size, 2, none⟩ = some (.int .i64 c) := ba.at_ 2
  have lbb := bb.lt
  have zbb0 : w4.cell? ⟨w.heap.size + 1, 0, none⟩ = some (.int .i64 x) := bb.at_ 0
  have zbb1 : w4.cell? ⟨w.heap.size + 1, 1, none⟩ = some (.int .i64 y) := bb.at_ 1
  have zbb2 : w4.cell? ⟨w.heap.size + 1, 2, none⟩ = some (.int .i64 z) := bb.at_ 2
  go_wp2_with fail
  generalize hW : (w4.alloc _).alloc _ = V0
  obtain ⟨hb, p0, q0⟩ := boxD hW
  clear hW
  clear zba0 zba1 zba2 zbb0 zbb1 zbb2
  replace B := B.trans (hb.mono B.size)
  replace ba := ba.below' hb
  replace bb := bb.below' hb
  clear hb
  generalize w4.heap.size = g0 at *
  have lba := ba.lt
  have zba0 : V0.cell? ⟨w.heap.size, 0, none⟩ = some (.int .i64 a) := ba.at_ 0
  have zba1 : V0.cell? ⟨w.heap.size, 1, none⟩ = some (.int .i64 b) := ba.at_ 1
  have zba2 : V0.cell? ⟨w.heap.size, 2, none⟩ = some (.int .i64 c) := ba.at_ 2
  have lbb := bb.lt
  have zbb0 : V0.cell? ⟨w.heap.size + 1, 0, none⟩ = some (.int .i64 x) := bb.at_ 0
  have zbb1 : V0.cell? ⟨w.heap.size + 1, 1, none⟩ = some (.int .i64 y) := bb.at_ 1
  have zbb2 : V0.cell? ⟨w.heap.size + 1, 2, none⟩ = some (.int .i64 z) := bb.at_ 2
  have lp0 := p0.lt
  have zp00 : V0.cell? ⟨g0, 0, none⟩ = some (.int .i64 a1) := p0.at_ 0
  have zp01 : V0.cell? ⟨g0, 1, none⟩ = some (.int .i64 b1) := p0.at_ 1
  have zp02 : V0.cell? ⟨g0, 2, none⟩ = some (.int .i64 c1) := p0.at_ 2
  have lq0 := q0.lt
  have zq00 : V0.cell? ⟨g0 + 1, 0, none⟩ = some (.int .i64 x1) := q0.at_ 0
  have zq01 : V0.cell? ⟨g0 + 1, 1, none⟩ = some (.int .i64 y1) := q0.at_ 1
  have zq02 : V0.cell? ⟨g0 + 1, 2, none⟩ = some (.int .i64 z1) := q0.at_ 2
  go_wp2_with fail
  refine (rppair_any s _ (HT.out.below B) (by have := HSZ.out; omega) a1 b1 c1 x1 y1 z1 er HQ.out).mono ?_
  rintro e w5 ⟨rfl, hb⟩
  clear zba0 zba1 zba2 zbb0 zbb1 zbb2 zp00 zp01 zp02 zq00 zq01 zq02
  replace B := B.trans (hb.mono B.size)
  replace ba := ba.below' hb
  replace bb := bb.below' hb
  replace p0 := p0.below' hb
  replace q0 := q0.below' hb
  clear hb
  have lba := ba.lt
  have zba0 : w5.cell? ⟨w.heap.size, 0, none⟩ = some (.int .i64 a) := ba.at_ 0
  have zba1 : w5.cell? ⟨w.heap.size, 1, none⟩ = some (.int .i64 b) := ba.at_ 1
  have zba2 : w5.cell? ⟨w.heap.size, 2, none⟩ = some (.int .i64 c) := ba.at_ 2
  have lbb := bb.lt
  have zbb0 : w5.cell? ⟨w.heap.size + 1, 0, none⟩ = some (.int .i64 x) := bb.at_ 0
  have zbb1 : w5.cell? ⟨w.heap.size + 1, 1, none⟩ = some (.int .i64 y) := bb.at_ 1
  have zbb2 : w5.cell? ⟨w.heap.size + 1, 2, none⟩ = some (.int .i64 z) := bb.at_ 2
  have lp0 := p0.lt
  have zp00 : w5.cell? ⟨g0, 0, none⟩ = some (.int .i64 a1) := p0.at_ 0
  have zp01 : w5.cell? ⟨g0, 1, none⟩ = some (.int .i64 b1) := p0.at_ 1
  have zp02 : w5.cell? ⟨g0, 2, none⟩ = some (.int .i64 c1) := p0.at_ 2
  have lq0 := q0.lt
  have zq00 : w5.cell? ⟨g0 + 1, 0, none⟩ = some (.int .i64 x1) := q0.at_ 0
  have zq01 : w5.cell? ⟨g0 + 1, 1, none⟩ = some (.int .i64 y1) := q0.at_ 1
  have zq02 : w5.cell? ⟨g0 + 1, 2, none⟩ = some (.int .i64 z1) := q0.at_ 2
  go_wp2_with fail
  generalize hW : (w5.alloc _).alloc _ = V1
  obtain ⟨hb, p1, q1⟩ := boxD hW
  clear hW
  clear zba0 zba1 zba2 zbb0 zbb1 zbb2 zp00 zp01 zp02 zq00 zq01 zq02
  replace B := B.trans (hb.mono B.size)
  replace ba := ba.below' hb
  replace bb := bb.below' hb
  replace p0 := p0.below' hb
  replace q0 := q0.below' hb
  clear hb
  generalize w5.heap.size = g1 at *
  have lba := ba.lt
  have zba0 : V1.cell? ⟨w.heap.size, 0, none⟩ = some (.int .i64 a) := ba.at_ 0
  have zba1 : V1.cell? ⟨w.heap.size, 1, none⟩ = some (.int .i64 b) := ba.at_ 1
  have zba2 : V1.cell? ⟨w.heap.size, 2, none⟩ = some (.int .i64 c) := ba.at_ 2
  have lbb := bb.lt
  have zbb0 : V1.cell? ⟨w.heap.size + 1, 0, none⟩ = some (.int .i64 x) := bb.at_ 0
  have zbb1 : V1.cell? ⟨w.heap.size + 1, 1, none⟩ = some (.int .i64 y) := bb.at_ 1
  have zbb2 : V1.cell? ⟨w.heap.size + 1, 2, none⟩ = some (.int .i64 z) := bb.at_ 2
  have lp0 := p0.lt
  have zp00 : V1.cell? ⟨g0, 0, none⟩ = some (.int .i64 a1) := p0.at_ 0
  have zp01 : V1.cell? ⟨g0, 1, none⟩ = some (.int .i64 b1) := p0.at_ 1
  have zp02 : V1.cell? ⟨g0, 2, none⟩ = some (.int .i64 c1) := p0.at_ 2
  have lq0 := q0.lt
  have zq00 : V1.cell? ⟨g0 + 1, 0, none⟩ = some (.int .i64 x1) := q0.at_ 0
  have zq01 : V1.cell? ⟨g0 + 1, 1, none⟩ = some (.int .i64 y1) := q0.at_ 1
  have zq02 : V1.cell? ⟨g0 + 1, 2, none⟩ = some (.int .i64 z1) := q0.at_ 2
  have lp1 := p1.lt
  have zp10 : V1.cell? ⟨g1, 0, none⟩ = some (.int .i64 a1) := p1.at_ 0
  have zp11 : V1.cell? ⟨g1, 1, none⟩ = some (.int .i64 b1) := p1.at_ 1
  have zp12 : V1.cell? ⟨g1, 2, none⟩ = some (.int .i64 c1) := p1.at_ 2
  have lq1 := q1.lt
  have zq10 : V1.cell? ⟨g1 + 1, 0, none⟩ = some (.int .i64 x1) := q1.at_ 0
  have zq11 : V1.cell? ⟨g1 + 1, 1, none⟩ = some (.int .i64 y1) := q1.at_ 1
  have zq12 : V1.cell? ⟨g1 + 1, 2, none⟩ = some (.int .i64 z1) := q1.at_ 2
  go_wp2_with fail
  refine (ppair_any ⟨#[]⟩ _ (HT.out.below B) (by decide) 0 0 0 0 0 0 3 ppR_nil).mono ?_
  rintro e w6 ⟨rfl, hb⟩
  clear zba0 zba1 zba2 zbb0 zbb1 zbb2 zp00 zp01 zp02 zq00 zq01 zq02 zp10 zp11 zp12 zq10 zq11 zq12
  replace B := B.trans (hb.mono B.size)
  replace ba := ba.below' hb
  replace bb := bb.below' hb
  replace p0 := p0.below' hb
  replace q0 := q0.below' hb
  replace p1 := p1.below' hb
  replace q1 := q1.below' hb
  clear hb
  go_wp2_with fail
  go_ret
  exact ⟨rfl, (B.alloc B.size _).alloc (Nat.le_trans B.size (by simp)) _⟩
theorem pairings_all (a b c x y z : Int) (s : ByteArray) (w : World) (hT : Lw w) :
    Calls Tryd.prog 10 #[.agg #[.int .i64 a, .int .i64 b, .int .i64 c], .agg #[.int .i64 x, .int .i64 y, .int .i64 z], .string s] w fun e w' => e = .returned (.bool true) ∧ Below w.heap.size w w' := by
  by_cases h : s.size ≤ 100
  · by_cases hp : pB a b c x y z
    · exact pai_y a b c x y z s w hT hp h
    · exact pai_n a b c x y z s w hT hp h
  · exact pai_big a b c x y z s w hT (by omega)
end Go.Proofs.YtdoknlodnpeeoaaDoor
