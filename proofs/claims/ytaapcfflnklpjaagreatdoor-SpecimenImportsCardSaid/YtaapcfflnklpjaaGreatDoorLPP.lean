/- ParsePairing. -/
import Derived.Test.YtaapcfflnklpjaaGreatDoorLRPar
import Derived.Deep.RegionLaw
namespace Go.Proofs.YtaapcfflnklpjaaGreatDoor
open Go Go.RowKit Go.Lib

theorem cut_hit {l : List UInt8} {i : Nat} (h : ∀ (j : Nat) c, j < i → l[j]? = some c → c ≠ 47) (hi : l[i]? = some 47) : Lib.cut l [47] = (l.take i, l.drop (i + 1), true) := by
  have hil := (List.getElem?_eq_some_iff.1 hi).1
  have e : Lib.index l [47] = (i : Int) := Lib.index_first (Nat.le_of_lt hil) (by
    unfold Lib.occAt
    rw [List.drop_eq_getElem_cons hil, (List.getElem?_eq_some_iff.1 hi).2]
    rfl) fun j hj => by
    unfold Lib.occAt
    have hjl : j < l.length := by omega
    rw [List.drop_eq_getElem_cons hjl]
    have := h j _ hj (List.getElem?_eq_getElem hjl)
    simp [List.isPrefixOf]
    exact fun h => this h.symm
  unfold Lib.cut
  rw [e, if_pos (by omega), Int.toNat_natCast]; rfl
theorem cut_miss {l : List UInt8} (h : ∀ c ∈ l, c ≠ 47) : Lib.cut l [47] = (l, [], false) := by
  have e : Lib.index l [47] = -1 := Lib.index_none fun j hj => by
    unfold Lib.occAt
    rcases Nat.lt_or_ge j l.length with h1 | h1
    · rw [List.drop_eq_getElem_cons h1]
      have := h _ (List.getElem_mem h1)
      simp [List.isPrefixOf]
      exact fun h => this h.symm
    · rw [List.drop_of_length_le h1]; rfl
  unfold Lib.cut
  rw [e, if_neg (by decide)]
theorem cut_le47 (l : List UInt8) : (Lib.cut l [47]).1.length ≤ l.length ∧ (Lib.cut l [47]).2.1.length ≤ l.length := by
  unfold Lib.cut
  split
  · exact ⟨by simp only [List.length_take]; omega, by simp only [List.length_drop]; omega⟩
  · exact ⟨Nat.le_refl _, by simp⟩
/-- two labels and an error's number -/
def GivesPP (a b c x y z er : Int) (w : World) (e : Ending) (w' : World) : Prop := e = .returned (.tuple #[.agg #[.int .i64 a, .int .i64 b, .int .i64 c], .agg #[.int .i64 x, .int .i64 y, .int .i64 z], .int .i64 er]) ∧ Below w.heap.size w w'
/-- what ParsePairing reads -/
def ppR (l : List UInt8) : (Int × Int × Int) × (Int × Int × Int) × Int :=
  if (parR (Lib.cut l [47]).1).2.2.2 = 0 ∧ (parR (Lib.cut l [47]).2.1).2.2.2 = 0 ∧ (parR (Lib.cut l [47]).1).1 = 0 ∧ (parR (Lib.cut l [47]).2.1).1 = 1 then
    (((parR (Lib.cut l [47]).1).1, (parR (Lib.cut l [47]).1).2.1, (parR (Lib.cut l [47]).1).2.2.1), ((parR (Lib.cut l [47]).2.1).1, (parR (Lib.cut l [47]).2.1).2.1, (parR (Lib.cut l [47]).2.1).2.2.1), 0)
  else ((0, 0, 0), (0, 0, 0), 3)
theorem boxT4 {w W : World} {c0 c1 : Array Value} {t0 t1 : TypeId} (hW : (w.alloc (.cells c0 t0)).alloc (.cells c1 t1) = W) :
    Below w.heap.size w W ∧ Box W w.heap.size c0 t0 ∧ Box W (w.heap.size + 1) c1 t1 := boxD hW
theorem below_two {w W : World} (h : Below w.heap.size w W) (a b c x y z : Value) : Below w.heap.size w ((((((W.setCell ⟨w.heap.size, 0, none⟩ a).setCell ⟨w.heap.size, 1, none⟩ b).setCell ⟨w.heap.size, 2, none⟩ c).setCell ⟨w.heap.size + 1, 0, none⟩ x).setCell ⟨w.heap.size + 1, 1, none⟩ y).setCell ⟨w.heap.size + 1, 2, none⟩ z) :=
  (((((h.setCell (Nat.le_refl _) _).setCell (Nat.le_refl _) _).setCell (Nat.le_refl _) _).setCell (Nat.le_succ _) _).setCell (Nat.le_succ _) _).setCell (Nat.le_succ _) _
set_option maxRecDepth 100000 in
set_option maxHeartbeats 16000000 in
theorem pp_ok (s : ByteArray) (b c y z : Int) (w : World) (hT : Lw w) (X Y : ByteArray) (hX : X.size ≤ 5000) (hY : Y.size ≤ 5000) (hp : parR X.data.toList = (0, b, c, 0)) (hq : parR Y.data.toList = (1, y, z, 0)) (f : Bool) (hC : ∀ W, Lw W → Calls Tryz.prog 84 #[.string s, .string ⟨#[47]⟩] W fun e w' => e = .returned (.tuple #[.string X, .string Y, .bool f]) ∧ Below W.heap.size W w') :
    Calls Tryz.prog 50 #[.string s] w (GivesPP 0 b c 1 y z 0 w) := by
  have HT := hide hT
  have HX := hide hX
  have HY := hide hY
  have HP := hide hp
  have HQ := hide hq
  have HC := hide hC
  clear hC
  clear hX hY hp hq
  clear hT
  go_enter Tryz.func50, Tryz.ntmps50
  go_wp2_with fail
  generalize hW : (w.alloc _).alloc _ = W0
  obtain ⟨B, r0, r1⟩ := boxT4 hW
  clear hW
  have lr0 := r0.lt
  have zr00 : W0.cell? ⟨w.heap.size, 0, none⟩ = some (.int .i64 0) := r0.at_ 0
  have zr01 : W0.cell? ⟨w.heap.size, 1, none⟩ = some (.int .i64 0) := r0.at_ 1
  have zr02 : W0.cell? ⟨w.heap.size, 2, none⟩ = some (.int .i64 0) := r0.at_ 2
  have fr00 := r0.frozen 0
  have fr01 := r0.frozen 1
  have fr02 := r0.frozen 2
  have lr1 := r1.lt
  have zr10 : W0.cell? ⟨w.heap.size + 1, 0, none⟩ = some (.int .i64 0) := r1.at_ 0
  have zr11 : W0.cell? ⟨w.heap.size + 1, 1, none⟩ = some (.int .i64 0) := r1.at_ 1
  have zr12 : W0.cell? ⟨w.heap.size + 1, 2, none⟩ = some (.int .i64 0) := r1.at_ 2
  have fr10 := r1.frozen 0
  have fr11 := r1.frozen 1
  have fr12 := r1.frozen 2
  go_wp2_with fail
  refine (HC.out _ (HT.out.below B)).mono ?_
  rintro e w1 ⟨rfl, hb⟩
  clear zr00 zr01 zr02 fr00 fr01 fr02 zr10 zr11 zr12 fr10 fr11 fr12
  replace B := B.trans (hb.mono B.size)
  replace r0 := r0.below' hb
  replace r1 := r1.below' hb
  clear hb
  have lr0 := r0.lt
  have zr00 : w1.cell? ⟨w.heap.size, 0, none⟩ = some (.int .i64 0) := r0.at_ 0
  have zr01 : w1.cell? ⟨w.heap.size, 1, none⟩ = some (.int .i64 0) := r0.at_ 1
  have zr02 : w1.cell? ⟨w.heap.size, 2, none⟩ = some (.int .i64 0) := r0.at_ 2
  have fr00 := r0.frozen 0
  have fr01 := r0.frozen 1
  have fr02 := r0.frozen 2
  have lr1 := r1.lt
  have zr10 : w1.cell? ⟨w.heap.size + 1, 0, none⟩ = some (.int .i64 0) := r1.at_ 0
  have zr11 : w1.cell? ⟨w.heap.size + 1, 1, none⟩ = some (.int .i64 0) := r1.at_ 1
  have zr12 : w1.cell? ⟨w.heap.size + 1, 2, none⟩ = some (.int .i64 0) := r1.at_ 2
  have fr10 := r1.frozen 0
  have fr11 := r1.frozen 1
  have fr12 := r1.frozen 2
  go_wp2_with fail
  refine (parse_any X _ (HT.out.below B) HX.out 0 b c 0 HP.out).mono ?_
  rintro e w2 ⟨rfl, hb⟩
  clear zr00 zr01 zr02 fr00 fr01 fr02 zr10 zr11 zr12 fr10 fr11 fr12
  replace B := B.trans (hb.mono B.size)
  replace r0 := r0.below' hb
  replace r1 := r1.below' hb
  clear hb
  have lr0 := r0.lt
  have zr00 : w2.cell? ⟨w.heap.size, 0, none⟩ = some (.int .i64 0) := r0.at_ 0
  have zr01 : w2.cell? ⟨w.heap.size, 1, none⟩ = some (.int .i64 0) := r0.at_ 1
  have zr02 : w2.cell? ⟨w.heap.size, 2, none⟩ = some (.int .i64 0) := r0.at_ 2
  have fr00 := r0.frozen 0
  have fr01 := r0.frozen 1
  have fr02 := r0.frozen 2
  have lr1 := r1.lt
  have zr10 : w2.cell? ⟨w.heap.size + 1, 0, none⟩ = some (.int .i64 0) := r1.at_ 0
  have zr11 : w2.cell? ⟨w.heap.size + 1, 1, none⟩ = some (.int .i64 0) := r1.at_ 1
  have zr12 : w2.cell? ⟨w.heap.size + 1, 2, none⟩ = some (.int .i64 0) := r1.at_ 2
  have fr10 := r1.frozen 0
  have fr11 := r1.frozen 1
  have fr12 := r1.frozen 2
  go_wp2_with fail
  generalize hW : w2.alloc _ = V0
  obtain ⟨hb, b0, -⟩ := boxC hW
  clear hW
  have hg0 := B.size
  clear zr00 zr01 zr02 fr00 fr01 fr02 zr10 zr11 zr12 fr10 fr11 fr12
  replace B := B.trans (hb.mono B.size)
  replace r0 := r0.below' hb
  replace r1 := r1.below' hb
  clear hb
  generalize w2.heap.size = g0 at *
  have lr0 := r0.lt
  have zr00 : V0.cell? ⟨w.heap.size, 0, none⟩ = some (.int .i64 0) := r0.at_ 0
  have zr01 : V0.cell? ⟨w.heap.size, 1, none⟩ = some (.int .i64 0) := r0.at_ 1
  have zr02 : V0.cell? ⟨w.heap.size, 2, none⟩ = some (.int .i64 0) := r0.at_ 2
  have fr00 := r0.frozen 0
  have fr01 := r0.frozen 1
  have fr02 := r0.frozen 2
  have lr1 := r1.lt
  have zr10 : V0.cell? ⟨w.heap.size + 1, 0, none⟩ = some (.int .i64 0) := r1.at_ 0
  have zr11 : V0.cell? ⟨w.heap.size + 1, 1, none⟩ = some (.int .i64 0) := r1.at_ 1
  have zr12 : V0.cell? ⟨w.heap.size + 1, 2, none⟩ = some (.int .i64 0) := r1.at_ 2
  have fr10 := r1.frozen 0
  have fr11 := r1.frozen 1
  have fr12 := r1.frozen 2
  have lb0 := b0.lt
  have zb00 : V0.cell? ⟨g0, 0, none⟩ = some (.int .i64 0) := b0.at_ 0
  have zb01 : V0.cell? ⟨g0, 1, none⟩ = some (.int .i64 b) := b0.at_ 1
  have zb02 : V0.cell? ⟨g0, 2, none⟩ = some (.int .i64 c) := b0.at_ 2
  go_wp2_with fail
  refine (parse_any Y _ (HT.out.below B) HY.out 1 y z 0 HQ.out).mono ?_
  rintro e w3 ⟨rfl, hb⟩
  clear zr00 zr01 zr02 fr00 fr01 fr02 zr10 zr11 zr12 fr10 fr11 fr12 zb00 zb01 zb02
  replace B := B.trans (hb.mono B.size)
  replace r0 := r0.below' hb
  replace r1 := r1.below' hb
  replace b0 := b0.below' hb
  clear hb
  have lr0 := r0.lt
  have zr00 : w3.cell? ⟨w.heap.size, 0, none⟩ = some (.int .i64 0) := r0.at_ 0
  have zr01 : w3.cell? ⟨w.heap.size, 1, none⟩ = some (.int .i64 0) := r0.at_ 1
  have zr02 : w3.cell? ⟨w.heap.size, 2, none⟩ = some (.int .i64 0) := r0.at_ 2
  have fr00 := r0.frozen 0
  have fr01 := r0.frozen 1
  have fr02 := r0.frozen 2
  have lr1 := r1.lt
  have zr10 : w3.cell? ⟨w.heap.size + 1, 0, none⟩ = some (.int .i64 0) := r1.at_ 0
  have zr11 : w3.cell? ⟨w.heap.size + 1, 1, none⟩ = some (.int .i64 0) := r1.at_ 1
  have zr12 : w3.cell? ⟨w.heap.size + 1, 2, none⟩ = some (.int .i64 0) := r1.at_ 2
  have fr10 := r1.frozen 0
  have fr11 := r1.frozen 1
  have fr12 := r1.frozen 2
  have lb0 := b0.lt
  have zb00 : w3.cell? ⟨g0, 0, none⟩ = some (.int .i64 0) := b0.at_ 0
  have zb01 : w3.cell? ⟨g0, 1, none⟩ = some (.int .i64 b) := b0.at_ 1
  have zb02 : w3.cell? ⟨g0, 2, none⟩ = some (.int .i64 c) := b0.at_ 2
  go_wp2_with fail
  generalize hW : w3.alloc _ = V1
  obtain ⟨hb, b1, -⟩ := boxC hW
  clear hW
  have hg1 := B.size
  clear zr00 zr01 zr02 fr00 fr01 fr02 zr10 zr11 zr12 fr10 fr11 fr12 zb00 zb01 zb02
  replace B := B.trans (hb.mono B.size)
  replace r0 := r0.below' hb
  replace r1 := r1.below' hb
  replace b0 := b0.below' hb
  clear hb
  generalize w3.heap.size = g1 at *
  have lr0 := r0.lt
  have zr00 : V1.cell? ⟨w.heap.size, 0, none⟩ = some (.int .i64 0) := r0.at_ 0
  have zr01 : V1.cell? ⟨w.heap.size, 1, none⟩ = some (.int .i64 0) := r0.at_ 1
  have zr02 : V1.cell? ⟨w.heap.size, 2, none⟩ = some (.int .i64 0) := r0.at_ 2
  have fr00 := r0.frozen 0
  have fr01 := r0.frozen 1
  have fr02 := r0.frozen 2
  have lr1 := r1.lt
  have zr10 : V1.cell? ⟨w.heap.size + 1, 0, none⟩ = some (.int .i64 0) := r1.at_ 0
  have zr11 : V1.cell? ⟨w.heap.size + 1, 1, none⟩ = some (.int .i64 0) := r1.at_ 1
  have zr12 : V1.cell? ⟨w.heap.size + 1, 2, none⟩ = some (.int .i64 0) := r1.at_ 2
  have fr10 := r1.frozen 0
  have fr11 := r1.frozen 1
  have fr12 := r1.frozen 2
  have lb0 := b0.lt
  have zb00 : V1.cell? ⟨g0, 0, none⟩ = some (.int .i64 0) := b0.at_ 0
  have zb01 : V1.cell? ⟨g0, 1, none⟩ = some (.int .i64 b) := b0.at_ 1
  have zb02 : V1.cell? ⟨g0, 2, none⟩ = some (.int .i64 c) := b0.at_ 2
  have lb1 := b1.lt
  have zb10 : V1.cell? ⟨g1, 0, none⟩ = some (.int .i64 1) := b1.at_ 0
  have zb11 : V1.cell? ⟨g1, 1, none⟩ = some (.int .i64 y) := b1.at_ 1
  have zb12 : V1.cell? ⟨g1, 2, none⟩ = some (.int .i64 z) := b1.at_ 2
  go_wp2_with fail
  go_region
  all_goals
    go_wp2_with fail
    refine bodyPost_ret (v := .tuple #[.agg #[.int .i64 0, .int .i64 b, .int .i64 c], .agg #[.int .i64 1, .int .i64 y, .int .i64 z], .int .i64 0]) (by simp [results, Tryz.results50, go_sem, *]) rfl ?_
    exact ⟨rfl, by first | exact below_two B _ _ _ _ _ _ | exact (below_two B _ _ _ _ _ _).drew | exact below_two B.drew _ _ _ _ _ _⟩
set_option maxRecDepth 100000 in
set_option maxHeartbeats 16000000 in
theorem pp_e1 (s : ByteArray) (a b c x y z e2 : Int) (w : World) (hT : Lw w) (X Y : ByteArray) (hX : X.size ≤ 5000) (hY : Y.size ≤ 5000) (hp : parR X.data.toList = (a, b, c, 3)) (hq : parR Y.data.toList = (x, y, z, e2)) (f : Bool) (hC : ∀ W, Lw W → Calls Tryz.prog 84 #[.string s, .string ⟨#[47]⟩] W fun e w' => e = .returned (.tuple #[.string X, .string Y, .bool f]) ∧ Below W.heap.size W w') :
    Calls Tryz.prog 50 #[.string s] w (GivesPP 0 0 0 0 0 0 3 w) := by
  have HT := hide hT
  have HX := hide hX
  have HY := hide hY
  have HP := hide hp
  have HQ := hide hq
  have HC := hide hC
  clear hC
  clear hX hY hp hq
  clear hT
  go_enter Tryz.func50, Tryz.ntmps50
  go_wp2_with fail
  generalize hW : (w.alloc _).alloc _ = W0
  obtain ⟨B, r0, r1⟩ := boxT4 hW
  clear hW
  have lr0 := r0.lt
  have zr00 : W0.cell? ⟨w.heap.size, 0, none⟩ = some (.int .i64 0) := r0.at_ 0
  have zr01 : W0.cell? ⟨w.heap.size, 1, none⟩ = some (.int .i64 0) := r0.at_ 1
  have zr02 : W0.cell? ⟨w.heap.size, 2, none⟩ = some (.int .i64 0) := r0.at_ 2
  have fr00 := r0.frozen 0
  have fr01 := r0.frozen 1
  have fr02 := r0.frozen 2
  have lr1 := r1.lt
  have zr10 : W0.cell? ⟨w.heap.size + 1, 0, none⟩ = some (.int .i64 0) := r1.at_ 0
  have zr11 : W0.cell? ⟨w.heap.size + 1, 1, none⟩ = some (.int .i64 0) := r1.at_ 1
  have zr12 : W0.cell? ⟨w.heap.size + 1, 2, none⟩ = some (.int .i64 0) := r1.at_ 2
  have fr10 := r1.frozen 0
  have fr11 := r1.frozen 1
  have fr12 := r1.frozen 2
  go_wp2_with fail
  refine (HC.out _ (HT.out.below B)).mono ?_
  rintro e w1 ⟨rfl, hb⟩
  clear zr00 zr01 zr02 fr00 fr01 fr02 zr10 zr11 zr12 fr10 fr11 fr12
  replace B := B.trans (hb.mono B.size)
  replace r0 := r0.below' hb
  replace r1 := r1.below' hb
  clear hb
  have lr0 := r0.lt
  have zr00 : w1.cell? ⟨w.heap.size, 0, none⟩ = some (.int .i64 0) := r0.at_ 0
  have zr01 : w1.cell? ⟨w.heap.size, 1, none⟩ = some (.int .i64 0) := r0.at_ 1
  have zr02 : w1.cell? ⟨w.heap.size, 2, none⟩ = some (.int .i64 0) := r0.at_ 2
  have fr00 := r0.frozen 0
  have fr01 := r0.frozen 1
  have fr02 := r0.frozen 2
  have lr1 := r1.lt
  have zr10 : w1.cell? ⟨w.heap.size + 1, 0, none⟩ = some (.int .i64 0) := r1.at_ 0
  have zr11 : w1.cell? ⟨w.heap.size + 1, 1, none⟩ = some (.int .i64 0) := r1.at_ 1
  have zr12 : w1.cell? ⟨w.heap.size + 1, 2, none⟩ = some (.int .i64 0) := r1.at_ 2
  have fr10 := r1.frozen 0
  have fr11 := r1.frozen 1
  have fr12 := r1.frozen 2
  go_wp2_with fail
  refine (parse_any X _ (HT.out.below B) HX.out a b c 3 HP.out).mono ?_
  rintro e w2 ⟨rfl, hb⟩
  clear zr00 zr01 zr02 fr00 fr01 fr02 zr10 zr11 zr12 fr10 fr11 fr12
  replace B := B.trans (hb.mono B.size)
  replace r0 := r0.below' hb
  replace r1 := r1.below' hb
  clear hb
  have lr0 := r0.lt
  have zr00 : w2.cell? ⟨w.heap.size, 0, none⟩ = some (.int .i64 0) := r0.at_ 0
  have zr01 : w2.cell? ⟨w.heap.size, 1, none⟩ = some (.int .i64 0) := r0.at_ 1
  have zr02 : w2.cell? ⟨w.heap.size, 2, none⟩ = some (.int .i64 0) := r0.at_ 2
  have fr00 := r0.frozen 0
  have fr01 := r0.frozen 1
  have fr02 := r0.frozen 2
  have lr1 := r1.lt
  have zr10 : w2.cell? ⟨w.heap.size + 1, 0, none⟩ = some (.int .i64 0) := r1.at_ 0
  have zr11 : w2.cell? ⟨w.heap.size + 1, 1, none⟩ = some (.int .i64 0) := r1.at_ 1
  have zr12 : w2.cell? ⟨w.heap.size + 1, 2, none⟩ = some (.int .i64 0) := r1.at_ 2
  have fr10 := r1.frozen 0
  have fr11 := r1.frozen 1
  have fr12 := r1.frozen 2
  go_wp2_with fail
  generalize hW : w2.alloc _ = V0
  obtain ⟨hb, b0, -⟩ := boxC hW
  clear hW
  have hg0 := B.size
  clear zr00 zr01 zr02 fr00 fr01 fr02 zr10 zr11 zr12 fr10 fr11 fr12
  replace B := B.trans (hb.mono B.size)
  replace r0 := r0.below' hb
  replace r1 := r1.below' hb
  clear hb
  generalize w2.heap.size = g0 at *
  have lr0 := r0.lt
  have zr00 : V0.cell? ⟨w.heap.size, 0, none⟩ = some (.int .i64 0) := r0.at_ 0
  have zr01 : V0.cell? ⟨w.heap.size, 1, none⟩ = some (.int .i64 0) := r0.at_ 1
  have zr02 : V0.cell? ⟨w.heap.size, 2, none⟩ = some (.int .i64 0) := r0.at_ 2
  have fr00 := r0.frozen 0
  have fr01 := r0.frozen 1
  have fr02 := r0.frozen 2
  have lr1 := r1.lt
  have zr10 : V0.cell? ⟨w.heap.size + 1, 0, none⟩ = some (.int .i64 0) := r1.at_ 0
  have zr11 : V0.cell? ⟨w.heap.size + 1, 1, none⟩ = some (.int .i64 0) := r1.at_ 1
  have zr12 : V0.cell? ⟨w.heap.size + 1, 2, none⟩ = some (.int .i64 0) := r1.at_ 2
  have fr10 := r1.frozen 0
  have fr11 := r1.frozen 1
  have fr12 := r1.frozen 2
  have lb0 := b0.lt
  have zb00 : V0.cell? ⟨g0, 0, none⟩ = some (.int .i64 a) := b0.at_ 0
  have zb01 : V0.cell? ⟨g0, 1, none⟩ = some (.int .i64 b) := b0.at_ 1
  have zb02 : V0.cell? ⟨g0, 2, none⟩ = some (.int .i64 c) := b0.at_ 2
  go_wp2_with fail
  refine (parse_any Y _ (HT.out.below B) HY.out x y z e2 HQ.out).mono ?_
  rintro e w3 ⟨rfl, hb⟩
  clear zr00 zr01 zr02 fr00 fr01 fr02 zr10 zr11 zr12 fr10 fr11 fr12 zb00 zb01 zb02
  replace B := B.trans (hb.mono B.size)
  replace r0 := r0.below' hb
  replace r1 := r1.below' hb
  replace b0 := b0.below' hb
  clear hb
  have lr0 := r0.lt
  have zr00 : w3.cell? ⟨w.heap.size, 0, none⟩ = some (.int .i64 0) := r0.at_ 0
  have zr01 : w3.cell? ⟨w.heap.size, 1, none⟩ = some (.int .i64 0) := r0.at_ 1
  have zr02 : w3.cell? ⟨w.heap.size, 2, none⟩ = some (.int .i64 0) := r0.at_ 2
  have fr00 := r0.frozen 0
  have fr01 := r0.frozen 1
  have fr02 := r0.frozen 2
  have lr1 := r1.lt
  have zr10 : w3.cell? ⟨w.heap.size + 1, 0, none⟩ = some (.int .i64 0) := r1.at_ 0
  have zr11 : w3.cell? ⟨w.heap.size + 1, 1, none⟩ = some (.int .i64 0) := r1.at_ 1
  have zr12 : w3.cell? ⟨w.heap.size + 1, 2, none⟩ = some (.int .i64 0) := r1.at_ 2
  have fr10 := r1.frozen 0
  have fr11 := r1.frozen 1
  have fr12 := r1.frozen 2
  have lb0 := b0.lt
  have zb00 : w3.cell? ⟨g0, 0, none⟩ = some (.int .i64 a) := b0.at_ 0
  have zb01 : w3.cell? ⟨g0, 1, none⟩ = some (.int .i64 b) := b0.at_ 1
  have zb02 : w3.cell? ⟨g0, 2, none⟩ = some (.int .i64 c) := b0.at_ 2
  go_wp2_with fail
  refine bodyPost_ret (v := .tuple #[.agg #[.int .i64 0, .int .i64 0, .int .i64 0], .agg #[.int .i64 0, .int .i64 0, .int .i64 0], .int .i64 3]) (by simp [results, Tryz.results50, go_sem, *]) rfl ?_
  exact ⟨rfl, Below.alloc (below_two B _ _ _ _ _ _) (Nat.le_trans B.size (by simp)) _⟩
set_option maxRecDepth 100000 in
set_option maxHeartbeats 16000000 in
theorem pp_e2 (s : ByteArray) (a b c x y z : Int) (w : World) (hT : Lw w) (X Y : ByteArray) (hX : X.size ≤ 5000) (hY : Y.size ≤ 5000) (hp : parR X.data.toList = (a, b, c, 0)) (hq : parR Y.data.toList = (x, y, z, 3)) (f : Bool) (hC : ∀ W, Lw W → Calls Tryz.prog 84 #[.string s, .string ⟨#[47]⟩] W fun e w' => e = .returned (.tuple #[.string X, .string Y, .bool f]) ∧ Below W.heap.size W w') :
    Calls Tryz.prog 50 #[.string s] w (GivesPP 0 0 0 0 0 0 3 w) := by
  have HT := hide hT
  have HX := hide hX
  have HY := hide hY
  have HP := hide hp
  have HQ := hide hq
  have HC := hide hC
  clear hC
  clear hX hY hp hq
  clear hT
  go_enter Tryz.func50, Tryz.ntmps50
  go_wp2_with fail
  generalize hW : (w.alloc _).alloc _ = W0
  obtain ⟨B, r0, r1⟩ := boxT4 hW
  clear hW
  have lr0 := r0.lt
  have zr00 : W0.cell? ⟨w.heap.size, 0, none⟩ = some (.int .i64 0) := r0.at_ 0
  have zr01 : W0.cell? ⟨w.heap.size, 1, none⟩ = some (.int .i64 0) := r0.at_ 1
  have zr02 : W0.cell? ⟨w.heap.size, 2, none⟩ = some (.int .i64 0) := r0.at_ 2
  have fr00 := r0.frozen 0
  have fr01 := r0.frozen 1
  have fr02 := r0.frozen 2
  have lr1 := r1.lt
  have zr10 : W0.cell? ⟨w.heap.size + 1, 0, none⟩ = some (.int .i64 0) := r1.at_ 0
  have zr11 : W0.cell? ⟨w.heap.size + 1, 1, none⟩ = some (.int .i64 0) := r1.at_ 1
  have zr12 : W0.cell? ⟨w.heap.size + 1, 2, none⟩ = some (.int .i64 0) := r1.at_ 2
  have fr10 := r1.frozen 0
  have fr11 := r1.frozen 1
  have fr12 := r1.frozen 2
  go_wp2_with fail
  refine (HC.out _ (HT.out.below B)).mono ?_
  rintro e w1 ⟨rfl, hb⟩
  clear zr00 zr01 zr02 fr00 fr01 fr02 zr10 zr11 zr12 fr10 fr11 fr12
  replace B := B.trans (hb.mono B.size)
  replace r0 := r0.below' hb
  replace r1 := r1.below' hb
  clear hb
  have lr0 := r0.lt
  have zr00 : w1.cell? ⟨w.heap.size, 0, none⟩ = some (.int .i64 0) := r0.at_ 0
  have zr01 : w1.cell? ⟨w.heap.size, 1, none⟩ = some (.int .i64 0) := r0.at_ 1
  have zr02 : w1.cell? ⟨w.heap.size, 2, none⟩ = some (.int .i64 0) := r0.at_ 2
  have fr00 := r0.frozen 0
  have fr01 := r0.frozen 1
  have fr02 := r0.frozen 2
  have lr1 := r1.lt
  have zr10 : w1.cell? ⟨w.heap.size + 1, 0, none⟩ = some (.int .i64 0) := r1.at_ 0
  have zr11 : w1.cell? ⟨w.heap.size + 1, 1, none⟩ = some (.int .i64 0) := r1.at_ 1
  have zr12 : w1.cell? ⟨w.heap.size + 1, 2, none⟩ = some (.int .i64 0) := r1.at_ 2
  have fr10 := r1.frozen 0
  have fr11 := r1.frozen 1
  have fr12 := r1.frozen 2
  go_wp2_with fail
  refine (parse_any X _ (HT.out.below B) HX.out a b c 0 HP.out).mono ?_
  rintro e w2 ⟨rfl, hb⟩
  clear zr00 zr01 zr02 fr00 fr01 fr02 zr10 zr11 zr12 fr10 fr11 fr12
  replace B := B.trans (hb.mono B.size)
  replace r0 := r0.below' hb
  replace r1 := r1.below' hb
  clear hb
  have lr0 := r0.lt
  have zr00 : w2.cell? ⟨w.heap.size, 0, none⟩ = some (.int .i64 0) := r0.at_ 0
  have zr01 : w2.cell? ⟨w.heap.size, 1, none⟩ = some (.int .i64 0) := r0.at_ 1
  have zr02 : w2.cell? ⟨w.heap.size, 2, none⟩ = some (.int .i64 0) := r0.at_ 2
  have fr00 := r0.frozen 0
  have fr01 := r0.frozen 1
  have fr02 := r0.frozen 2
  have lr1 := r1.lt
  have zr10 : w2.cell? ⟨w.heap.size + 1, 0, none⟩ = some (.int .i64 0) := r1.at_ 0
  have zr11 : w2.cell? ⟨w.heap.size + 1, 1, none⟩ = some (.int .i64 0) := r1.at_ 1
  have zr12 : w2.cell? ⟨w.heap.size + 1, 2, none⟩ = some (.int .i64 0) := r1.at_ 2
  have fr10 := r1.frozen 0
  have fr11 := r1.frozen 1
  have fr12 := r1.frozen 2
  go_wp2_with fail
  generalize hW : w2.alloc _ = V0
  obtain ⟨hb, b0, -⟩ := boxC hW
  clear hW
  have hg0 := B.size
  clear zr00 zr01 zr02 fr00 fr01 fr02 zr10 zr11 zr12 fr10 fr11 fr12
  replace B := B.trans (hb.mono B.size)
  replace r0 := r0.below' hb
  replace r1 := r1.below' hb
  clear hb
  generalize w2.heap.size = g0 at *
  have lr0 := r0.lt
  have zr00 : V0.cell? ⟨w.heap.size, 0, none⟩ = some (.int .i64 0) := r0.at_ 0
  have zr01 : V0.cell? ⟨w.heap.size, 1, none⟩ = some (.int .i64 0) := r0.at_ 1
  have zr02 : V0.cell? ⟨w.heap.size, 2, none⟩ = some (.int .i64 0) := r0.at_ 2
  have fr00 := r0.frozen 0
  have fr01 := r0.frozen 1
  have fr02 := r0.frozen 2
  have lr1 := r1.lt
  have zr10 : V0.cell? ⟨w.heap.size + 1, 0, none⟩ = some (.int .i64 0) := r1.at_ 0
  have zr11 : V0.cell? ⟨w.heap.size + 1, 1, none⟩ = some (.int .i64 0) := r1.at_ 1
  have zr12 : V0.cell? ⟨w.heap.size + 1, 2, none⟩ = some (.int .i64 0) := r1.at_ 2
  have fr10 := r1.frozen 0
  have fr11 := r1.frozen 1
  have fr12 := r1.frozen 2
  have lb0 := b0.lt
  have zb00 : V0.cell? ⟨g0, 0, none⟩ = some (.int .i64 a) := b0.at_ 0
  have zb01 : V0.cell? ⟨g0, 1, none⟩ = some (.int .i64 b) := b0.at_ 1
  have zb02 : V0.cell? ⟨g0, 2, none⟩ = some (.int .i64 c) := b0.at_ 2
  go_wp2_with fail
  refine (parse_any Y _ (HT.out.below B) HY.out x y z 3 HQ.out).mono ?_
  rintro e w3 ⟨rfl, hb⟩
  clear zr00 zr01 zr02 fr00 fr01 fr02 zr10 zr11 zr12 fr10 fr11 fr12 zb00 zb01 zb02
  replace B := B.trans (hb.mono B.size)
  replace r0 := r0.below' hb
  replace r1 := r1.below' hb
  replace b0 := b0.below' hb
  clear hb
  have lr0 := r0.lt
  have zr00 : w3.cell? ⟨w.heap.size, 0, none⟩ = some (.int .i64 0) := r0.at_ 0
  have zr01 : w3.cell? ⟨w.heap.size, 1, none⟩ = some (.int .i64 0) := r0.at_ 1
  have zr02 : w3.cell? ⟨w.heap.size, 2, none⟩ = some (.int .i64 0) := r0.at_ 2
  have fr00 := r0.frozen 0
  have fr01 := r0.frozen 1
  have fr02 := r0.frozen 2
  have lr1 := r1.lt
  have zr10 : w3.cell? ⟨w.heap.size + 1, 0, none⟩ = some (.int .i64 0) := r1.at_ 0
  have zr11 : w3.cell? ⟨w.heap.size + 1, 1, none⟩ = some (.int .i64 0) := r1.at_ 1
  have zr12 : w3.cell? ⟨w.heap.size + 1, 2, none⟩ = some (.int .i64 0) := r1.at_ 2
  have fr10 := r1.frozen 0
  have fr11 := r1.frozen 1
  have fr12 := r1.frozen 2
  have lb0 := b0.lt
  have zb00 : w3.cell? ⟨g0, 0, none⟩ = some (.int .i64 a) := b0.at_ 0
  have zb01 : w3.cell? ⟨g0, 1, none⟩ = some (.int .i64 b) := b0.at_ 1
  have zb02 : w3.cell? ⟨g0, 2, none⟩ = some (.int .i64 c) := b0.at_ 2
  go_wp2_with fail
  refine bodyPost_ret (v := .tuple #[.agg #[.int .i64 0, .int .i64 0, .int .i64 0], .agg #[.int .i64 0, .int .i64 0, .int .i64 0], .int .i64 3]) (by simp [results, Tryz.results50, go_sem, *]) rfl ?_
  exact ⟨rfl, Below.alloc (below_two B _ _ _ _ _ _) (Nat.le_trans B.size (by simp)) _⟩
set_option maxRecDepth 100000 in
set_option maxHeartbeats 16000000 in
theorem pp_x (s : ByteArray) (a b c x y z : Int) (w : World) (hT : Lw w) (X Y : ByteArray) (hX : X.size ≤ 5000) (hY : Y.size ≤ 5000) (hp : parR X.data.toList = (a, b, c, 0)) (hq : parR Y.data.toList = (x, y, z, 0)) (hx : a ≠ 0) (f : Bool) (hC : ∀ W, Lw W → Calls Tryz.prog 84 #[.string s, .string ⟨#[47]⟩] W fun e w' => e = .returned (.tuple #[.string X, .string Y, .bool f]) ∧ Below W.heap.size W w') :
    Calls Tryz.prog 50 #[.string s] w (GivesPP 0 0 0 0 0 0 3 w) := by
  have HT := hide hT
  have HX := hide hX
  have HY := hide hY
  have HP := hide hp
  have HQ := hide hq
  have q1 : (a == 0) = false := beq_eq_false_iff_ne.2 hx
  have q1' : (a != 0) = true := by simp [hx]
  have HC := hide hC
  clear hC
  clear hX hY hp hq
  clear hT
  go_enter Tryz.func50, Tryz.ntmps50
  go_wp2_with fail
  generalize hW : (w.alloc _).alloc _ = W0
  obtain ⟨B, r0, r1⟩ := boxT4 hW
  clear hW
  have lr0 := r0.lt
  have zr00 : W0.cell? ⟨w.heap.size, 0, none⟩ = some (.int .i64 0) := r0.at_ 0
  have zr01 : W0.cell? ⟨w.heap.size, 1, none⟩ = some (.int .i64 0) := r0.at_ 1
  have zr02 : W0.cell? ⟨w.heap.size, 2, none⟩ = some (.int .i64 0) := r0.at_ 2
  have fr00 := r0.frozen 0
  have fr01 := r0.frozen 1
  have fr02 := r0.frozen 2
  have lr1 := r1.lt
  have zr10 : W0.cell? ⟨w.heap.size + 1, 0, none⟩ = some (.int .i64 0) := r1.at_ 0
  have zr11 : W0.cell? ⟨w.heap.size + 1, 1, none⟩ = some (.int .i64 0) := r1.at_ 1
  have zr12 : W0.cell? ⟨w.heap.size + 1, 2, none⟩ = some (.int .i64 0) := r1.at_ 2
  have fr10 := r1.frozen 0
  have fr11 := r1.frozen 1
  have fr12 := r1.frozen 2
  go_wp2_with fail
  refine (HC.out _ (HT.out.below B)).mono ?_
  rintro e w1 ⟨rfl, hb⟩
  clear zr00 zr01 zr02 fr00 fr01 fr02 zr10 zr11 zr12 fr10 fr11 fr12
  replace B := B.trans (hb.mono B.size)
  replace r0 := r0.below' hb
  replace r1 := r1.below' hb
  clear hb
  have lr0 := r0.lt
  have zr00 : w1.cell? ⟨w.heap.size, 0, none⟩ = some (.int .i64 0) := r0.at_ 0
  have zr01 : w1.cell? ⟨w.heap.size, 1, none⟩ = some (.int .i64 0) := r0.at_ 1
  have zr02 : w1.cell? ⟨w.heap.size, 2, none⟩ = some (.int .i64 0) := r0.at_ 2
  have fr00 := r0.frozen 0
  have fr01 := r0.frozen 1
  have fr02 := r0.frozen 2
  have lr1 := r1.lt
  have zr10 : w1.cell? ⟨w.heap.size + 1, 0, none⟩ = some (.int .i64 0) := r1.at_ 0
  have zr11 : w1.cell? ⟨w.heap.size + 1, 1, none⟩ = some (.int .i64 0) := r1.at_ 1
  have zr12 : w1.cell? ⟨w.heap.size + 1, 2, none⟩ = some (.int .i64 0) := r1.at_ 2
  have fr10 := r1.frozen 0
  have fr11 := r1.frozen 1
  have fr12 := r1.frozen 2
  go_wp2_with fail
  refine (parse_any X _ (HT.out.below B) HX.out a b c 0 HP.out).mono ?_
  rintro e w2 ⟨rfl, hb⟩
  clear zr00 zr01 zr02 fr00 fr01 fr02 zr10 zr11 zr12 fr10 fr11 fr12
  replace B := B.trans (hb.mono B.size)
  replace r0 := r0.below' hb
  replace r1 := r1.below' hb
  clear hb
  have lr0 := r0.lt
  have zr00 : w2.cell? ⟨w.heap.size, 0, none⟩ = some (.int .i64 0) := r0.at_ 0
  have zr01 : w2.cell? ⟨w.heap.size, 1, none⟩ = some (.int .i64 0) := r0.at_ 1
  have zr02 : w2.cell? ⟨w.heap.size, 2, none⟩ = some (.int .i64 0) := r0.at_ 2
  have fr00 := r0.frozen 0
  have fr01 := r0.frozen 1
  have fr02 := r0.frozen 2
  have lr1 := r1.lt
  have zr10 : w2.cell? ⟨w.heap.size + 1, 0, none⟩ = some (.int .i64 0) := r1.at_ 0
  have zr11 : w2.cell? ⟨w.heap.size + 1, 1, none⟩ = some (.int .i64 0) := r1.at_ 1
  have zr12 : w2.cell? ⟨w.heap.size + 1, 2, none⟩ = some (.int .i64 0) := r1.at_ 2
  have fr10 := r1.frozen 0
  have fr11 := r1.frozen 1
  have fr12 := r1.frozen 2
  go_wp2_with fail
  generalize hW : w2.alloc _ = V0
  obtain ⟨hb, b0, -⟩ := boxC hW
  clear hW
  have hg0 := B.size
  clear zr00 zr01 zr02 fr00 fr01 fr02 zr10 zr11 zr12 fr10 fr11 fr12
  replace B := B.trans (hb.mono B.size)
  replace r0 := r0.below' hb
  replace r1 := r1.below' hb
  clear hb
  generalize w2.heap.size = g0 at *
  have lr0 := r0.lt
  have zr00 : V0.cell? ⟨w.heap.size, 0, none⟩ = some (.int .i64 0) := r0.at_ 0
  have zr01 : V0.cell? ⟨w.heap.size, 1, none⟩ = some (.int .i64 0) := r0.at_ 1
  have zr02 : V0.cell? ⟨w.heap.size, 2, none⟩ = some (.int .i64 0) := r0.at_ 2
  have fr00 := r0.frozen 0
  have fr01 := r0.frozen 1
  have fr02 := r0.frozen 2
  have lr1 := r1.lt
  have zr10 : V0.cell? ⟨w.heap.size + 1, 0, none⟩ = some (.int .i64 0) := r1.at_ 0
  have zr11 : V0.cell? ⟨w.heap.size + 1, 1, none⟩ = some (.int .i64 0) := r1.at_ 1
  have zr12 : V0.cell? ⟨w.heap.size + 1, 2, none⟩ = some (.int .i64 0) := r1.at_ 2
  have fr10 := r1.frozen 0
  have fr11 := r1.frozen 1
  have fr12 := r1.frozen 2
  have lb0 := b0.lt
  have zb00 : V0.cell? ⟨g0, 0, none⟩ = some (.int .i64 a) := b0.at_ 0
  have zb01 : V0.cell? ⟨g0, 1, none⟩ = some (.int .i64 b) := b0.at_ 1
  have zb02 : V0.cell? ⟨g0, 2, none⟩ = some (.int .i64 c) := b0.at_ 2
  go_wp2_with fail
  refine (parse_any Y _ (HT.out.below B) HY.out x y z 0 HQ.out).mono ?_
  rintro e w3 ⟨rfl, hb⟩
  clear zr00 zr01 zr02 fr00 fr01 fr02 zr10 zr11 zr12 fr10 fr11 fr12 zb00 zb01 zb02
  replace B := B.trans (hb.mono B.size)
  replace r0 := r0.below' hb
  replace r1 := r1.below' hb
  replace b0 := b0.below' hb
  clear hb
  have lr0 := r0.lt
  have zr00 : w3.cell? ⟨w.heap.size, 0, none⟩ = some (.int .i64 0) := r0.at_ 0
  have zr01 : w3.cell? ⟨w.heap.size, 1, none⟩ = some (.int .i64 0) := r0.at_ 1
  have zr02 : w3.cell? ⟨w.heap.size, 2, none⟩ = some (.int .i64 0) := r0.at_ 2
  have fr00 := r0.frozen 0
  have fr01 := r0.frozen 1
  have fr02 := r0.frozen 2
  have lr1 := r1.lt
  have zr10 : w3.cell? ⟨w.heap.size + 1, 0, none⟩ = some (.int .i64 0) := r1.at_ 0
  have zr11 : w3.cell? ⟨w.heap.size + 1, 1, none⟩ = some (.int .i64 0) := r1.at_ 1
  have zr12 : w3.cell? ⟨w.heap.size + 1, 2, none⟩ = some (.int .i64 0) := r1.at_ 2
  have fr10 := r1.frozen 0
  have fr11 := r1.frozen 1
  have fr12 := r1.frozen 2
  have lb0 := b0.lt
  have zb00 : w3.cell? ⟨g0, 0, none⟩ = some (.int .i64 a) := b0.at_ 0
  have zb01 : w3.cell? ⟨g0, 1, none⟩ = some (.int .i64 b) := b0.at_ 1
  have zb02 : w3.cell? ⟨g0, 2, none⟩ = some (.int .i64 c) := b0.at_ 2
  go_wp2_with fail
  refine bodyPost_ret (v := .tuple #[.agg #[.int .i64 0, .int .i64 0, .int .i64 0], .agg #[.int .i64 0, .int .i64 0, .int .i64 0], .int .i64 3]) (by simp [results, Tryz.results50, go_sem, *]) rfl ?_
  exact ⟨rfl, Below.alloc (below_two B _ _ _ _ _ _) (Nat.le_trans B.size (by simp)) _⟩
set_option maxRecDepth 100000 in
set_option maxHeartbeats 16000000 in
theorem pp_y (s : ByteArray) (b c x y z : Int) (w : World) (hT : Lw w) (X Y : ByteArray) (hX : X.size ≤ 5000) (hY : Y.size ≤ 5000) (hp : parR X.data.toList = (0, b, c, 0)) (hq : parR Y.data.toList = (x, y, z, 0)) (hy : x ≠ 1) (f : Bool) (hC : ∀ W, Lw W → Calls Tryz.prog 84 #[.string s, .string ⟨#[47]⟩] W fun e w' => e = .returned (.tuple #[.string X, .string Y, .bool f]) ∧ Below W.heap.size W w') :
    Calls Tryz.prog 50 #[.string s] w (GivesPP 0 0 0 0 0 0 3 w) := by
  have HT := hide hT
  have HX := hide hX
  have HY := hide hY
  have HP := hide hp
  have HQ := hide hq
  have q1 : (x == 1) = false := beq_eq_false_iff_ne.2 hy
  have q1' : (x != 1) = true := by simp [hy]
  have HC := hide hC
  clear hC
  clear hX hY hp hq
  clear hT
  go_enter Tryz.func50, Tryz.ntmps50
  go_wp2_with fail
  generalize hW : (w.alloc _).alloc _ = W0
  obtain ⟨B, r0, r1⟩ := boxT4 hW
  clear hW
  have lr0 := r0.lt
  have zr00 : W0.cell? ⟨w.heap.size, 0, none⟩ = some (.int .i64 0) := r0.at_ 0
  have zr01 : W0.cell? ⟨w.heap.size, 1, none⟩ = some (.int .i64 0) := r0.at_ 1
  have zr02 : W0.cell? ⟨w.heap.size, 2, none⟩ = some (.int .i64 0) := r0.at_ 2
  have fr00 := r0.frozen 0
  have fr01 := r0.frozen 1
  have fr02 := r0.frozen 2
  have lr1 := r1.lt
  have zr10 : W0.cell? ⟨w.heap.size + 1, 0, none⟩ = some (.int .i64 0) := r1.at_ 0
  have zr11 : W0.cell? ⟨w.heap.size + 1, 1, none⟩ = some (.int .i64 0) := r1.at_ 1
  have zr12 : W0.cell? ⟨w.heap.size + 1, 2, none⟩ = some (.int .i64 0) := r1.at_ 2
  have fr10 := r1.frozen 0
  have fr11 := r1.frozen 1
  have fr12 := r1.frozen 2
  go_wp2_with fail
  refine (HC.out _ (HT.out.below B)).mono ?_
  rintro e w1 ⟨rfl, hb⟩
  clear zr00 zr01 zr02 fr00 fr01 fr02 zr10 zr11 zr12 fr10 fr11 fr12
  replace B := B.trans (hb.mono B.size)
  replace r0 := r0.below' hb
  replace r1 := r1.below' hb
  clear hb
  have lr0 := r0.lt
  have zr00 : w1.cell? ⟨w.heap.size, 0, none⟩ = some (.int .i64 0) := r0.at_ 0
  have zr01 : w1.cell? ⟨w.heap.size, 1, none⟩ = some (.int .i64 0) := r0.at_ 1
  have zr02 : w1.cell? ⟨w.heap.size, 2, none⟩ = some (.int .i64 0) := r0.at_ 2
  have fr00 := r0.frozen 0
  have fr01 := r0.frozen 1
  have fr02 := r0.frozen 2
  have lr1 := r1.lt
  have zr10 : w1.cell? ⟨w.heap.size + 1, 0, none⟩ = some (.int .i64 0) := r1.at_ 0
  have zr11 : w1.cell? ⟨w.heap.size + 1, 1, none⟩ = some (.int .i64 0) := r1.at_ 1
  have zr12 : w1.cell? ⟨w.heap.size + 1, 2, none⟩ = some (.int .i64 0) := r1.at_ 2
  have fr10 := r1.frozen 0
  have fr11 := r1.frozen 1
  have fr12 := r1.frozen 2
  go_wp2_with fail
  refine (parse_any X _ (HT.out.below B) HX.out 0 b c 0 HP.out).mono ?_
  rintro e w2 ⟨rfl, hb⟩
  clear zr00 zr01 zr02 fr00 fr01 fr02 zr10 zr11 zr12 fr10 fr11 fr12
  replace B := B.trans (hb.mono B.size)
  replace r0 := r0.below' hb
  replace r1 := r1.below' hb
  clear hb
  have lr0 := r0.lt
  have zr00 : w2.cell? ⟨w.heap.size, 0, none⟩ = some (.int .i64 0) := r0.at_ 0
  have zr01 : w2.cell? ⟨w.heap.size, 1, none⟩ = some (.int .i64 0) := r0.at_ 1
  have zr02 : w2.cell? ⟨w.heap.size, 2, none⟩ = some (.int .i64 0) := r0.at_ 2
  have fr00 := r0.frozen 0
  have fr01 := r0.frozen 1
  have fr02 := r0.frozen 2
  have lr1 := r1.lt
  have zr10 : w2.cell? ⟨w.heap.size + 1, 0, none⟩ = some (.int .i64 0) := r1.at_ 0
  have zr11 : w2.cell? ⟨w.heap.size + 1, 1, none⟩ = some (.int .i64 0) := r1.at_ 1
  have zr12 : w2.cell? ⟨w.heap.size + 1, 2, none⟩ = some (.int .i64 0) := r1.at_ 2
  have fr10 := r1.frozen 0
  have fr11 := r1.frozen 1
  have fr12 := r1.frozen 2
  go_wp2_with fail
  generalize hW : w2.alloc _ = V0
  obtain ⟨hb, b0, -⟩ := boxC hW
  clear hW
  have hg0 := B.size
  clear zr00 zr01 zr02 fr00 fr01 fr02 zr10 zr11 zr12 fr10 fr11 fr12
  replace B := B.trans (hb.mono B.size)
  replace r0 := r0.below' hb
  replace r1 := r1.below' hb
  clear hb
  generalize w2.heap.size = g0 at *
  have lr0 := r0.lt
  have zr00 : V0.cell? ⟨w.heap.size, 0, none⟩ = some (.int .i64 0) := r0.at_ 0
  have zr01 : V0.cell? ⟨w.heap.size, 1, none⟩ = some (.int .i64 0) := r0.at_ 1
  have zr02 : V0.cell? ⟨w.heap.size, 2, none⟩ = some (.int .i64 0) := r0.at_ 2
  have fr00 := r0.frozen 0
  have fr01 := r0.frozen 1
  have fr02 := r0.frozen 2
  have lr1 := r1.lt
  have zr10 : V0.cell? ⟨w.heap.size + 1, 0, none⟩ = some (.int .i64 0) := r1.at_ 0
  have zr11 : V0.cell? ⟨w.heap.size + 1, 1, none⟩ = some (.int .i64 0) := r1.at_ 1
  have zr12 : V0.cell? ⟨w.heap.size + 1, 2, none⟩ = some (.int .i64 0) := r1.at_ 2
  have fr10 := r1.frozen 0
  have fr11 := r1.frozen 1
  have fr12 := r1.frozen 2
  have lb0 := b0.lt
  have zb00 : V0.cell? ⟨g0, 0, none⟩ = some (.int .i64 0) := b0.at_ 0
  have zb01 : V0.cell? ⟨g0, 1, none⟩ = some (.int .i64 b) := b0.at_ 1
  have zb02 : V0.cell? ⟨g0, 2, none⟩ = some (.int .i64 c) := b0.at_ 2
  go_wp2_with fail
  refine (parse_any Y _ (HT.out.below B) HY.out x y z 0 HQ.out).mono ?_
  rintro e w3 ⟨rfl, hb⟩
  clear zr00 zr01 zr02 fr00 fr01 fr02 zr10 zr11 zr12 fr10 fr11 fr12 zb00 zb01 zb02
  replace B := B.trans (hb.mono B.size)
  replace r0 := r0.below' hb
  replace r1 := r1.below' hb
  replace b0 := b0.below' hb
  clear hb
  have lr0 := r0.lt
  have zr00 : w3.cell? ⟨w.heap.size, 0, none⟩ = some (.int .i64 0) := r0.at_ 0
  have zr01 : w3.cell? ⟨w.heap.size, 1, none⟩ = some (.int .i64 0) := r0.at_ 1
  have zr02 : w3.cell? ⟨w.heap.size, 2, none⟩ = some (.int .i64 0) := r0.at_ 2
  have fr00 := r0.frozen 0
  have fr01 := r0.frozen 1
  have fr02 := r0.frozen 2
  have lr1 := r1.lt
  have zr10 : w3.cell? ⟨w.heap.size + 1, 0, none⟩ = some (.int .i64 0) := r1.at_ 0
  have zr11 : w3.cell? ⟨w.heap.size + 1, 1, none⟩ = some (.int .i64 0) := r1.at_ 1
  have zr12 : w3.cell? ⟨w.heap.size + 1, 2, none⟩ = some (.int .i64 0) := r1.at_ 2
  have fr10 := r1.frozen 0
  have fr11 := r1.frozen 1
  have fr12 := r1.frozen 2
  have lb0 := b0.lt
  have zb00 : w3.cell? ⟨g0, 0, none⟩ = some (.int .i64 0) := b0.at_ 0
  have zb01 : w3.cell? ⟨g0, 1, none⟩ = some (.int .i64 b) := b0.at_ 1
  have zb02 : w3.cell? ⟨g0, 2, none⟩ = some (.int .i64 c) := b0.at_ 2
  go_wp2_with fail
  refine bodyPost_ret (v := .tuple #[.agg #[.int .i64 0, .int .i64 0, .int .i64 0], .agg #[.int .i64 0, .int .i64 0, .int .i64 0], .int .i64 3]) (by simp [results, Tryz.results50, go_sem, *]) rfl ?_
  exact ⟨rfl, Below.alloc (below_two B _ _ _ _ _ _) (Nat.le_trans B.size (by simp)) _⟩
end Go.Proofs.YtaapcfflnklpjaaGreatDoor
