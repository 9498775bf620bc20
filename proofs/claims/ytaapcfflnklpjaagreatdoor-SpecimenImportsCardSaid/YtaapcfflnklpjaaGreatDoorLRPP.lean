/- The reference's ParsePairing. -/
import Derived.Test.YtaapcfflnklpjaaGreatDoorLPP
namespace Go.Proofs.YtaapcfflnklpjaaGreatDoor
open Go Go.RowKit Go.Lib

set_option maxRecDepth 100000 in
set_option maxHeartbeats 16000000 in
theorem rpp_ok (s : ByteArray) (b c y z : Int) (w : World) (hT : Lw w) (X Y : ByteArray) (hX : X.size ≤ 5000) (hY : Y.size ≤ 5000) (hp : parR X.data.toList = (0, b, c, 0)) (hq : parR Y.data.toList = (1, y, z, 0)) (hs : s.size ≤ 5000) (i : Nat) (hi : i < s.size) (h47 : s[i].toNat = 47) (hno : ∀ (j : Nat) c, j < i → s.data.toList[j]? = some c → c ≠ 47) (hXe : s.extract 0 i = X) (hYe : s.extract (i + 1) s.size = Y) :
    Calls Tryz.prog 54 #[.string s] w (GivesPP 0 b c 1 y z 0 w) := by
  have HT := hide hT
  have HX := hide hX
  have HY := hide hY
  have HP := hide hp
  have HQ := hide hq
  have HNO := hide hno
  have HI := hide h47
  have HXE := hide hXe
  have HYE := hide hYe
  clear hno h47 hXe hYe
  clear hX hY hp hq
  clear hT
  go_enter Tryz.func54, Tryz.ntmps54
  go_wp2_with fail
  generalize hW : (w.alloc _).alloc _ = W0
  obtain ⟨B, r0, r1⟩ := boxT4 hW
  clear hW
  have lr0 := r0.lt
  have zr00 : W0.cell? ⟨w.heap.size, 0, none⟩ = some (.int .i64 0) := r0.at_ 0
  have zr01 : W0.cell? ⟨w.heap.size, 1, none⟩ = some (.int .i64 0) := r0.at_ 1
  have zr02 : W0.cell? ⟨w.heap.size, 2, none⟩ = some (.int .i64 0) := r0.at_ 2
  have fr00 := r0.frozen 0
  have fr01 := r0.frozen 1
  have fr02 := r0.frozen 2
  have lr1 := r1.lt
  have zr10 : W0.cell? ⟨w.heap.size + 1, 0, none⟩ = some (.int .i64 0) := r1.at_ 0
  have zr11 : W0.cell? ⟨w.heap.size + 1, 1, none⟩ = some (.int .i64 0) := r1.at_ 1
  have zr12 : W0.cell? ⟨w.heap.size + 1, 2, none⟩ = some (.int .i64 0) := r1.at_ 2
  have fr10 := r1.frozen 0
  have fr11 := r1.frozen 1
  have fr12 := r1.frozen 2
  go_loop [5] (fun v5 => ∃ (j : Nat), j ≤ i ∧ v5 = .int .i64 ((j : Nat) : Int)) (fun v5 => i - (RowKit.intOf v5).toNat)
  case atStart => exact ⟨0, by omega, rfl⟩
  case round =>
    obtain ⟨j, hj, rfl⟩ := hrel
    have i1 : (0 : Int) ≤ (j : Int) := by omega
    have d0 : decide ((j : Int) < (s.size : Int)) = true := decide_eq_true (by omega)
    have hjs : j < s.size := by omega
    by_cases hlt : j < i
    · have hc := HNO.out j _ hlt (at_some s j hjs)
      have hc2 : ((s[j].toNat : Int) == 47) = false := beq_eq_false_iff_ne.2 fun h => hc (UInt8.toNat_inj.1 (by show s[j].toNat = 47; omega))
      have hc3 : ((s[j].toNat : Int) != 47) = true := by simp at hc2 ⊢; exact hc2
      clear hc
      go_wp2_with fail
      go_round
      case rel => exact ⟨j + 1, by omega, by go_num⟩
      case measure => simp [RowKit.intOf]; omega
    · obtain rfl : j = i := by omega
      have hc2 : ((s[j].toNat : Int) == 47) = true := beq_iff_eq.2 (by have := HI.out; omega)
      have hc3 : ((s[j].toNat : Int) != 47) = false := by simp at hc2 ⊢; exact hc2
      have e5 : ((j : Int) == (s.size : Int)) = false := beq_eq_false_iff_ne.2 (by omega)
      have e6 : (j == s.size) = false := beq_eq_false_iff_ne.2 (by omega)
      have i2 : (j : Int) ≤ (s.size : Int) := by omega
      have i3 : (j : Int) + 1 ≤ (s.size : Int) := by omega
      go_wp2_with fail
      refine (rparse_any _ _ (HT.out.below B) (by rw [HXE.out]; exact HX.out) 0 b c 0 (by rw [HXE.out]; exact HP.out)).mono ?_
      rintro e w1 ⟨rfl, hb⟩
      clear zr00 zr01 zr02 fr00 fr01 fr02 zr10 zr11 zr12 fr10 fr11 fr12
      replace B := B.trans (hb.mono B.size)
      replace r0 := r0.below' hb
      replace r1 := r1.below' hb
      clear hb
      have lr0 := r0.lt
      have zr00 : w1.cell? ⟨w.heap.size, 0, none⟩ = some (.int .i64 0) := r0.at_ 0
      have zr01 : w1.cell? ⟨w.heap.size, 1, none⟩ = some (.int .i64 0) := r0.at_ 1
      have zr02 : w1.cell? ⟨w.heap.size, 2, none⟩ = some (.int .i64 0) := r0.at_ 2
      have fr00 := r0.frozen 0
      have fr01 := r0.frozen 1
      have fr02 := r0.frozen 2
      have lr1 := r1.lt
      have zr10 : w1.cell? ⟨w.heap.size + 1, 0, none⟩ = some (.int .i64 0) := r1.at_ 0
      have zr11 : w1.cell? ⟨w.heap.size + 1, 1, none⟩ = some (.int .i64 0) := r1.at_ 1
      have zr12 : w1.cell? ⟨w.heap.size + 1, 2, none⟩ = some (.int .i64 0) := r1.at_ 2
      have fr10 := r1.frozen 0
      have fr11 := r1.frozen 1
      have fr12 := r1.frozen 2
      go_wp2_with fail
      generalize hW : w1.alloc _ = V0
      obtain ⟨hb, b0, -⟩ := boxC hW
      clear hW
      have hg0 := B.size
      clear zr00 zr01 zr02 fr00 fr01 fr02 zr10 zr11 zr12 fr10 fr11 fr12
      replace B := B.trans (hb.mono B.size)
      replace r0 := r0.below' hb
      replace r1 := r1.below' hb
      clear hb
      generalize w1.heap.size = g0 at *
      have lr0 := r0.lt
      have zr00 : V0.cell? ⟨w.heap.size, 0, none⟩ = some (.int .i64 0) := r0.at_ 0
      have zr01 : V0.cell? ⟨w.heap.size, 1, none⟩ = some (.int .i64 0) := r0.at_ 1
      have zr02 : V0.cell? ⟨w.heap.size, 2, none⟩ = some (.int .i64 0) := r0.at_ 2
      have fr00 := r0.frozen 0
      have fr01 := r0.frozen 1
      have fr02 := r0.frozen 2
      have lr1 := r1.lt
      have zr10 : V0.cell? ⟨w.heap.size + 1, 0, none⟩ = some (.int .i64 0) := r1.at_ 0
      have zr11 : V0.cell? ⟨w.heap.size + 1, 1, none⟩ = some (.int .i64 0) := r1.at_ 1
      have zr12 : V0.cell? ⟨w.heap.size + 1, 2, none⟩ = some (.int .i64 0) := r1.at_ 2
      have fr10 := r1.frozen 0
      have fr11 := r1.frozen 1
      have fr12 := r1.frozen 2
      have lb0 := b0.lt
      have zb00 : V0.cell? ⟨g0, 0, none⟩ = some (.int .i64 0) := b0.at_ 0
      have zb01 : V0.cell? ⟨g0, 1, none⟩ = some (.int .i64 b) := b0.at_ 1
      have zb02 : V0.cell? ⟨g0, 2, none⟩ = some (.int .i64 c) := b0.at_ 2
      go_wp2_with fail
      refine (rparse_any _ _ (HT.out.below B) (by rw [HYE.out]; exact HY.out) 1 y z 0 (by rw [HYE.out]; exact HQ.out)).mono ?_
      rintro e w2 ⟨rfl, hb⟩
      clear zr00 zr01 zr02 fr00 fr01 fr02 zr10 zr11 zr12 fr10 fr11 fr12 zb00 zb01 zb02
      replace B := B.trans (hb.mono B.size)
      replace r0 := r0.below' hb
      replace r1 := r1.below' hb
      replace b0 := b0.below' hb
      clear hb
      have lr0 := r0.lt
      have zr00 : w2.cell? ⟨w.heap.size, 0, none⟩ = some (.int .i64 0) := r0.at_ 0
      have zr01 : w2.cell? ⟨w.heap.size, 1, none⟩ = some (.int .i64 0) := r0.at_ 1
      have zr02 : w2.cell? ⟨w.heap.size, 2, none⟩ = some (.int .i64 0) := r0.at_ 2
      have fr00 := r0.frozen 0
      have fr01 := r0.frozen 1
      have fr02 := r0.frozen 2
      have lr1 := r1.lt
      have zr10 : w2.cell? ⟨w.heap.size + 1, 0, none⟩ = some (.int .i64 0) := r1.at_ 0
      have zr11 : w2.cell? ⟨w.heap.size + 1, 1, none⟩ = some (.int .i64 0) := r1.at_ 1
      have zr12 : w2.cell? ⟨w.heap.size + 1, 2, none⟩ = some (.int .i64 0) := r1.at_ 2
      have fr10 := r1.frozen 0
      have fr11 := r1.frozen 1
      have fr12 := r1.frozen 2
      have lb0 := b0.lt
      have zb00 : w2.cell? ⟨g0, 0, none⟩ = some (.int .i64 0) := b0.at_ 0
      have zb01 : w2.cell? ⟨g0, 1, none⟩ = some (.int .i64 b) := b0.at_ 1
      have zb02 : w2.cell? ⟨g0, 2, none⟩ = some (.int .i64 c) := b0.at_ 2
      go_wp2_with fail
      generalize hW : w2.alloc _ = V1
      obtain ⟨hb, b1, -⟩ := boxC hW
      clear hW
      have hg1 := B.size
      clear zr00 zr01 zr02 fr00 fr01 fr02 zr10 zr11 zr12 fr10 fr11 fr12 zb00 zb01 zb02
      replace B := B.trans (hb.mono B.size)
      replace r0 := r0.below' hb
      replace r1 := r1.below' hb
      replace b0 := b0.below' hb
      clear hb
      generalize w2.heap.size = g1 at *
      have lr0 := r0.lt
      have zr00 : V1.cell? ⟨w.heap.size, 0, none⟩ = some (.int .i64 0) := r0.at_ 0
      have zr01 : V1.cell? ⟨w.heap.size, 1, none⟩ = some (.int .i64 0) := r0.at_ 1
      have zr02 : V1.cell? ⟨w.heap.size, 2, none⟩ = some (.int .i64 0) := r0.at_ 2
      have fr00 := r0.frozen 0
      have fr01 := r0.frozen 1
      have fr02 := r0.frozen 2
      have lr1 := r1.lt
      have zr10 : V1.cell? ⟨w.heap.size + 1, 0, none⟩ = some (.int .i64 0) := r1.at_ 0
      have zr11 : V1.cell? ⟨w.heap.size + 1, 1, none⟩ = some (.int .i64 0) := r1.at_ 1
      have zr12 : V1.cell? ⟨w.heap.size + 1, 2, none⟩ = some (.int .i64 0) := r1.at_ 2
      have fr10 := r1.frozen 0
      have fr11 := r1.frozen 1
      have fr12 := r1.frozen 2
      have lb0 := b0.lt
      have zb00 : V1.cell? ⟨g0, 0, none⟩ = some (.int .i64 0) := b0.at_ 0
      have zb01 : V1.cell? ⟨g0, 1, none⟩ = some (.int .i64 b) := b0.at_ 1
      have zb02 : V1.cell? ⟨g0, 2, none⟩ = some (.int .i64 c) := b0.at_ 2
      have lb1 := b1.lt
      have zb10 : V1.cell? ⟨g1, 0, none⟩ = some (.int .i64 1) := b1.at_ 0
      have zb11 : V1.cell? ⟨g1, 1, none⟩ = some (.int .i64 y) := b1.at_ 1
      have zb12 : V1.cell? ⟨g1, 2, none⟩ = some (.int .i64 z) := b1.at_ 2
      go_wp2_with fail
      go_region
      all_goals
        go_wp2_with fail
        refine bodyPost_ret (v := .tuple #[.agg #[.int .i64 0, .int .i64 b, .int .i64 c], .agg #[.int .i64 1, .int .i64 y, .int .i64 z], .int .i64 0]) (by simp [results, Tryz.results54, go_sem, *]) rfl ?_
        exact ⟨rfl, by first | exact below_two B _ _ _ _ _ _ | exact (below_two B _ _ _ _ _ _).drew | exact below_two B.drew _ _ _ _ _ _⟩
set_option maxRecDepth 100000 in
set_option maxHeartbeats 16000000 in
theorem rpp_e1 (s : ByteArray) (a b c x y z e2 : Int) (w : World) (hT : Lw w) (X Y : ByteArray) (hX : X.size ≤ 5000) (hY : Y.size ≤ 5000) (hp : parR X.data.toList = (a, b, c, 3)) (hq : parR Y.data.toList = (x, y, z, e2)) (hs : s.size ≤ 5000) (i : Nat) (hi : i < s.size) (h47 : s[i].toNat = 47) (hno : ∀ (j : Nat) c, j < i → s.data.toList[j]? = some c → c ≠ 47) (hXe : s.extract 0 i = X) (hYe : s.extract (i + 1) s.size = Y) :
    Calls Tryz.prog 54 #[.string s] w (GivesPP 0 0 0 0 0 0 3 w) := by
  have HT := hide hT
  have HX := hide hX
  have HY := hide hY
  have HP := hide hp
  have HQ := hide hq
  have HNO := hide hno
  have HI := hide h47
  have HXE := hide hXe
  have HYE := hide hYe
  clear hno h47 hXe hYe
  clear hX hY hp hq
  clear hT
  go_enter Tryz.func54, Tryz.ntmps54
  go_wp2_with fail
  generalize hW : (w.alloc _).alloc _ = W0
  obtain ⟨B, r0, r1⟩ := boxT4 hW
  clear hW
  have lr0 := r0.lt
  have zr00 : W0.cell? ⟨w.heap.size, 0, none⟩ = some (.int .i64 0) := r0.at_ 0
  have zr01 : W0.cell? ⟨w.heap.size, 1, none⟩ = some (.int .i64 0) := r0.at_ 1
  have zr02 : W0.cell? ⟨w.heap.size, 2, none⟩ = some (.int .i64 0) := r0.at_ 2
  have fr00 := r0.frozen 0
  have fr01 := r0.frozen 1
  have fr02 := r0.frozen 2
  have lr1 := r1.lt
  have zr10 : W0.cell? ⟨w.heap.size + 1, 0, none⟩ = some (.int .i64 0) := r1.at_ 0
  have zr11 : W0.cell? ⟨w.heap.size + 1, 1, none⟩ = some (.int .i64 0) := r1.at_ 1
  have zr12 : W0.cell? ⟨w.heap.size + 1, 2, none⟩ = some (.int .i64 0) := r1.at_ 2
  have fr10 := r1.frozen 0
  have fr11 := r1.frozen 1
  have fr12 := r1.frozen 2
  go_loop [5] (fun v5 => ∃ (j : Nat), j ≤ i ∧ v5 = .int .i64 ((j : Nat) : Int)) (fun v5 => i - (RowKit.intOf v5).toNat)
  case atStart => exact ⟨0, by omega, rfl⟩
  case round =>
    obtain ⟨j, hj, rfl⟩ := hrel
    have i1 : (0 : Int) ≤ (j : Int) := by omega
    have d0 : decide ((j : Int) < (s.size : Int)) = true := decide_eq_true (by omega)
    have hjs : j < s.size := by omega
    by_cases hlt : j < i
    · have hc := HNO.out j _ hlt (at_some s j hjs)
      have hc2 : ((s[j].toNat : Int) == 47) = false := beq_eq_false_iff_ne.2 fun h => hc (UInt8.toNat_inj.1 (by show s[j].toNat = 47; omega))
      have hc3 : ((s[j].toNat : Int) != 47) = true := by simp at hc2 ⊢; exact hc2
      clear hc
      go_wp2_with fail
      go_round
      case rel => exact ⟨j + 1, by omega, by go_num⟩
      case measure => simp [RowKit.intOf]; omega
    · obtain rfl : j = i := by omega
      have hc2 : ((s[j].toNat : Int) == 47) = true := beq_iff_eq.2 (by have := HI.out; omega)
      have hc3 : ((s[j].toNat : Int) != 47) = false := by simp at hc2 ⊢; exact hc2
      have e5 : ((j : Int) == (s.size : Int)) = false := beq_eq_false_iff_ne.2 (by omega)
      have e6 : (j == s.size) = false := beq_eq_false_iff_ne.2 (by omega)
      have i2 : (j : Int) ≤ (s.size : Int) := by omega
      have i3 : (j : Int) + 1 ≤ (s.size : Int) := by omega
      go_wp2_with fail
      refine (rparse_any _ _ (HT.out.below B) (by rw [HXE.out]; exact HX.out) a b c 3 (by rw [HXE.out]; exact HP.out)).mono ?_
      rintro e w1 ⟨rfl, hb⟩
      clear zr00 zr01 zr02 fr00 fr01 fr02 zr10 zr11 zr12 fr10 fr11 fr12
      replace B := B.trans (hb.mono B.size)
      replace r0 := r0.below' hb
      replace r1 := r1.below' hb
      clear hb
      have lr0 := r0.lt
      have zr00 : w1.cell? ⟨w.heap.size, 0, none⟩ = some (.int .i64 0) := r0.at_ 0
      have zr01 : w1.cell? ⟨w.heap.size, 1, none⟩ = some (.int .i64 0) := r0.at_ 1
      have zr02 : w1.cell? ⟨w.heap.size, 2, none⟩ = some (.int .i64 0) := r0.at_ 2
      have fr00 := r0.frozen 0
      have fr01 := r0.frozen 1
      have fr02 := r0.frozen 2
      have lr1 := r1.lt
      have zr10 : w1.cell? ⟨w.heap.size + 1, 0, none⟩ = some (.int .i64 0) := r1.at_ 0
      have zr11 : w1.cell? ⟨w.heap.size + 1, 1, none⟩ = some (.int .i64 0) := r1.at_ 1
      have zr12 : w1.cell? ⟨w.heap.size + 1, 2, none⟩ = some (.int .i64 0) := r1.at_ 2
      have fr10 := r1.frozen 0
      have fr11 := r1.frozen 1
      have fr12 := r1.frozen 2
      go_wp2_with fail
      generalize hW : w1.alloc _ = V0
      obtain ⟨hb, b0, -⟩ := boxC hW
      clear hW
      have hg0 := B.size
      clear zr00 zr01 zr02 fr00 fr01 fr02 zr10 zr11 zr12 fr10 fr11 fr12
      replace B := B.trans (hb.mono B.size)
      replace r0 := r0.below' hb
      replace r1 := r1.below' hb
      clear hb
      generalize w1.heap.size = g0 at *
      have lr0 := r0.lt
      have zr00 : V0.cell? ⟨w.heap.size, 0, none⟩ = some (.int .i64 0) := r0.at_ 0
      have zr01 : V0.cell? ⟨w.heap.size, 1, none⟩ = some (.int .i64 0) := r0.at_ 1
      have zr02 : V0.cell? ⟨w.heap.size, 2, none⟩ = some (.int .i64 0) := r0.at_ 2
      have fr00 := r0.frozen 0
      have fr01 := r0.frozen 1
      have fr02 := r0.frozen 2
      have lr1 := r1.lt
      have zr10 : V0.cell? ⟨w.heap.size + 1, 0, none⟩ = some (.int .i64 0) := r1.at_ 0
      have zr11 : V0.cell? ⟨w.heap.size + 1, 1, none⟩ = some (.int .i64 0) := r1.at_ 1
      have zr12 : V0.cell? ⟨w.heap.size + 1, 2, none⟩ = some (.int .i64 0) := r1.at_ 2
      have fr10 := r1.frozen 0
      have fr11 := r1.frozen 1
      have fr12 := r1.frozen 2
      have lb0 := b0.lt
      have zb00 : V0.cell? ⟨g0, 0, none⟩ = some (.int .i64 a) := b0.at_ 0
      have zb01 : V0.cell? ⟨g0, 1, none⟩ = some (.int .i64 b) := b0.at_ 1
      have zb02 : V0.cell? ⟨g0, 2, none⟩ = some (.int .i64 c) := b0.at_ 2
      go_wp2_with fail
      refine (rparse_any _ _ (HT.out.below B) (by rw [HYE.out]; exact HY.out) x y z e2 (by rw [HYE.out]; exact HQ.out)).mono ?_
      rintro e w2 ⟨rfl, hb⟩
      clear zr00 zr01 zr02 fr00 fr01 fr02 zr10 zr11 zr12 fr10 fr11 fr12 zb00 zb01 zb02
      replace B := B.trans (hb.mono B.size)
      replace r0 := r0.below' hb
      replace r1 := r1.below' hb
      replace b0 := b0.below' hb
      clear hb
      have lr0 := r0.lt
      have zr00 : w2.cell? ⟨w.heap.size, 0, none⟩ = some (.int .i64 0) := r0.at_ 0
      have zr01 : w2.cell? ⟨w.heap.size, 1, none⟩ = some (.int .i64 0) := r0.at_ 1
      have zr02 : w2.cell? ⟨w.heap.size, 2, none⟩ = some (.int .i64 0) := r0.at_ 2
      have fr00 := r0.frozen 0
      have fr01 := r0.frozen 1
      have fr02 := r0.frozen 2
      have lr1 := r1.lt
      have zr10 : w2.cell? ⟨w.heap.size + 1, 0, none⟩ = some (.int .i64 0) := r1.at_ 0
      have zr11 : w2.cell? ⟨w.heap.size + 1, 1, none⟩ = some (.int .i64 0) := r1.at_ 1
      have zr12 : w2.cell? ⟨w.heap.size + 1, 2, none⟩ = some (.int .i64 0) := r1.at_ 2
      have fr10 := r1.frozen 0
      have fr11 := r1.frozen 1
      have fr12 := r1.frozen 2
      have lb0 := b0.lt
      have zb00 : w2.cell? ⟨g0, 0, none⟩ = some (.int .i64 a) := b0.at_ 0
      have zb01 : w2.cell? ⟨g0, 1, none⟩ = some (.int .i64 b) := b0.at_ 1
      have zb02 : w2.cell? ⟨g0, 2, none⟩ = some (.int .i64 c) := b0.at_ 2
      go_wp2_with fail
      refine bodyPost_ret (v := .tuple #[.agg #[.int .i64 0, .int .i64 0, .int .i64 0], .agg #[.int .i64 0, .int .i64 0, .int .i64 0], .int .i64 3]) (by simp [results, Tryz.results54, go_sem, *]) rfl ?_
      exact ⟨rfl, Below.alloc (below_two B _ _ _ _ _ _) (Nat.le_trans B.size (by simp)) _⟩
set_option maxRecDepth 100000 in
set_option maxHeartbeats 16000000 in
theorem rpp_e2 (s : ByteArray) (a b c x y z : Int) (w : World) (hT : Lw w) (X Y : ByteArray) (hX : X.size ≤ 5000) (hY : Y.size ≤ 5000) (hp : parR X.data.toList = (a, b, c, 0)) (hq : parR Y.data.toList = (x, y, z, 3)) (hs : s.size ≤ 5000) (i : Nat) (hi : i < s.size) (h47 : s[i].toNat = 47) (hno : ∀ (j : Nat) c, j < i → s.data.toList[j]? = some c → c ≠ 47) (hXe : s.extract 0 i = X) (hYe : s.extract (i + 1) s.size = Y) :
    Calls Tryz.prog 54 #[.string s] w (GivesPP 0 0 0 0 0 0 3 w) := by
  have HT := hide hT
  have HX := hide hX
  have HY := hide hY
  have HP := hide hp
  have HQ := hide hq
  have HNO := hide hno
  have HI := hide h47
  have HXE := hide hXe
  have HYE := hide hYe
  clear hno h47 hXe hYe
  clear hX hY hp hq
  clear hT
  go_enter Tryz.func54, Tryz.ntmps54
  go_wp2_with fail
  generalize hW : (w.alloc _).alloc _ = W0
  obtain ⟨B, r0, r1⟩ := boxT4 hW
  clear hW
  have lr0 := r0.lt
  have zr00 : W0.cell? ⟨w.heap.size, 0, none⟩ = some (.int .i64 0) := r0.at_ 0
  have zr01 : W0.cell? ⟨w.heap.size, 1, none⟩ = some (.int .i64 0) := r0.at_ 1
  have zr02 : W0.cell? ⟨w.heap.size, 2, none⟩ = some (.int .i64 0) := r0.at_ 2
  have fr00 := r0.frozen 0
  have fr01 := r0.frozen 1
  have fr02 := r0.frozen 2
  have lr1 := r1.lt
  have zr10 : W0.cell? ⟨w.heap.size + 1, 0, none⟩ = some (.int .i64 0) := r1.at_ 0
  have zr11 : W0.cell? ⟨w.heap.size + 1, 1, none⟩ = some (.int .i64 0) := r1.at_ 1
  have zr12 : W0.cell? ⟨w.heap.size + 1, 2, none⟩ = some (.int .i64 0) := r1.at_ 2
  have fr10 := r1.frozen 0
  have fr11 := r1.frozen 1
  have fr12 := r1.frozen 2
  go_loop [5] (fun v5 => ∃ (j : Nat), j ≤ i ∧ v5 = .int .i64 ((j : Nat) : Int)) (fun v5 => i - (RowKit.intOf v5).toNat)
  case atStart => exact ⟨0, by omega, rfl⟩
  case round =>
    obtain ⟨j, hj, rfl⟩ := hrel
    have i1 : (0 : Int) ≤ (j : Int) := by omega
    have d0 : decide ((j : Int) < (s.size : Int)) = true := decide_eq_true (by omega)
    have hjs : j < s.size := by omega
    by_cases hlt : j < i
    · have hc := HNO.out j _ hlt (at_some s j hjs)
      have hc2 : ((s[j].toNat : Int) == 47) = false := beq_eq_false_iff_ne.2 fun h => hc (UInt8.toNat_inj.1 (by show s[j].toNat = 47; omega))
      have hc3 : ((s[j].toNat : Int) != 47) = true := by simp at hc2 ⊢; exact hc2
      clear hc
      go_wp2_with fail
      go_round
      case rel => exact ⟨j + 1, by omega, by go_num⟩
      case measure => simp [RowKit.intOf]; omega
    · obtain rfl : j = i := by omega
      have hc2 : ((s[j].toNat : Int) == 47) = true := beq_iff_eq.2 (by have := HI.out; omega)
      have hc3 : ((s[j].toNat : Int) != 47) = false := by simp at hc2 ⊢; exact hc2
      have e5 : ((j : Int) == (s.size : Int)) = false := beq_eq_false_iff_ne.2 (by omega)
      have e6 : (j == s.size) = false := beq_eq_false_iff_ne.2 (by omega)
      have i2 : (j : Int) ≤ (s.size : Int) := by omega
      have i3 : (j : Int) + 1 ≤ (s.size : Int) := by omega
      go_wp2_with fail
      refine (rparse_any _ _ (HT.out.below B) (by rw [HXE.out]; exact HX.out) a b c 0 (by rw [HXE.out]; exact HP.out)).mono ?_
      rintro e w1 ⟨rfl, hb⟩
      clear zr00 zr01 zr02 fr00 fr01 fr02 zr10 zr11 zr12 fr10 fr11 fr12
      replace B := B.trans (hb.mono B.size)
      replace r0 := r0.below' hb
      replace r1 := r1.below' hb
      clear hb
      have lr0 := r0.lt
      have zr00 : w1.cell? ⟨w.heap.size, 0, none⟩ = some (.int .i64 0) := r0.at_ 0
      have zr01 : w1.cell? ⟨w.heap.size, 1, none⟩ = some (.int .i64 0) := r0.at_ 1
      have zr02 : w1.cell? ⟨w.heap.size, 2, none⟩ = some (.int .i64 0) := r0.at_ 2
      have fr00 := r0.frozen 0
      have fr01 := r0.frozen 1
      have fr02 := r0.frozen 2
      have lr1 := r1.lt
      have zr10 : w1.cell? ⟨w.heap.size + 1, 0, none⟩ = some (.int .i64 0) := r1.at_ 0
      have zr11 : w1.cell? ⟨w.heap.size + 1, 1, none⟩ = some (.int .i64 0) := r1.at_ 1
      have zr12 : w1.cell? ⟨w.heap.size + 1, 2, none⟩ = some (.int .i64 0) := r1.at_ 2
      have fr10 := r1.frozen 0
      have fr11 := r1.frozen 1
      have fr12 := r1.frozen 2
      go_wp2_with fail
      generalize hW : w1.alloc _ = V0
      obtain ⟨hb, b0, -⟩ := boxC hW
      clear hW
      have hg0 := B.size
      clear zr00 zr01 zr02 fr00 fr01 fr02 zr10 zr11 zr12 fr10 fr11 fr12
      replace B := B.trans (hb.mono B.size)
      replace r0 := r0.below' hb
      replace r1 := r1.below' hb
      clear hb
      generalize w1.heap.size = g0 at *
      have lr0 := r0.lt
      have zr00 : V0.cell? ⟨w.heap.size, 0, none⟩ = some (.int .i64 0) := r0.at_ 0
      have zr01 : V0.cell? ⟨w.heap.size, 1, none⟩ = some (.int .i64 0) := r0.at_ 1
      have zr02 : V0.cell? ⟨w.heap.size, 2, none⟩ = some (.int .i64 0) := r0.at_ 2
      have fr00 := r0.frozen 0
      have fr01 := r0.frozen 1
      have fr02 := r0.frozen 2
      have lr1 := r1.lt
      have zr10 : V0.cell? ⟨w.heap.size + 1, 0, none⟩ = some (.int .i64 0) := r1.at_ 0
      have zr11 : V0.cell? ⟨w.heap.size + 1, 1, none⟩ = some (.int .i64 0) := r1.at_ 1
      have zr12 : V0.cell? ⟨w.heap.size + 1, 2, none⟩ = some (.int .i64 0) := r1.at_ 2
      have fr10 := r1.frozen 0
      have fr11 := r1.frozen 1
      have fr12 := r1.frozen 2
      have lb0 := b0.lt
      have zb00 : V0.cell? ⟨g0, 0, none⟩ = some (.int .i64 a) := b0.at_ 0
      have zb01 : V0.cell? ⟨g0, 1, none⟩ = some (.int .i64 b) := b0.at_ 1
      have zb02 : V0.cell? ⟨g0, 2, none⟩ = some (.int .i64 c) := b0.at_ 2
      go_wp2_with fail
      refine (rparse_any _ _ (HT.out.below B) (by rw [HYE.out]; exact HY.out) x y z 3 (by rw [HYE.out]; exact HQ.out)).mono ?_
      rintro e w2 ⟨rfl, hb⟩
      clear zr00 zr01 zr02 fr00 fr01 fr02 zr10 zr11 zr12 fr10 fr11 fr12 zb00 zb01 zb02
      replace B := B.trans (hb.mono B.size)
      replace r0 := r0.below' hb
      replace r1 := r1.below' hb
      replace b0 := b0.below' hb
      clear hb
      have lr0 := r0.lt
      have zr00 : w2.cell? ⟨w.heap.size, 0, none⟩ = some (.int .i64 0) := r0.at_ 0
      have zr01 : w2.cell? ⟨w.heap.size, 1, none⟩ = some (.int .i64 0) := r0.at_ 1
      have zr02 : w2.cell? ⟨w.heap.size, 2, none⟩ = some (.int .i64 0) := r0.at_ 2
      have fr00 := r0.frozen 0
      have fr01 := r0.frozen 1
      have fr02 := r0.frozen 2
      have lr1 := r1.lt
      have zr10 : w2.cell? ⟨w.heap.size + 1, 0, none⟩ = some (.int .i64 0) := r1.at_ 0
      have zr11 : w2.cell? ⟨w.heap.size + 1, 1, none⟩ = some (.int .i64 0) := r1.at_ 1
      have zr12 : w2.cell? ⟨w.heap.size + 1, 2, none⟩ = some (.int .i64 0) := r1.at_ 2
      have fr10 := r1.frozen 0
      have fr11 := r1.frozen 1
      have fr12 := r1.frozen 2
      have lb0 := b0.lt
      have zb00 : w2.cell? ⟨g0, 0, none⟩ = some (.int .i64 a) := b0.at_ 0
      have zb01 : w2.cell? ⟨g0, 1, none⟩ = some (.int .i64 b) := b0.at_ 1
      have zb02 : w2.cell? ⟨g0, 2, none⟩ = some (.int .i64 c) := b0.at_ 2
      go_wp2_with fail
      refine bodyPost_ret (v := .tuple #[.agg #[.int .i64 0, .int .i64 0, .int .i64 0], .agg #[.int .i64 0, .int .i64 0, .int .i64 0], .int .i64 3]) (by simp [results, Tryz.results54, go_sem, *]) rfl ?_
      exact ⟨rfl, Below.alloc (below_two B _ _ _ _ _ _) (Nat.le_trans B.size (by simp)) _⟩
set_option maxRecDepth 100000 in
set_option maxHeartbeats 16000000 in
theorem rpp_x (s : ByteArray) (a b c x y z : Int) (w : World) (hT : Lw w) (X Y : ByteArray) (hX : X.size ≤ 5000) (hY : Y.size ≤ 5000) (hp : parR X.data.toList = (a, b, c, 0)) (hq : parR Y.data.toList = (x, y, z, 0)) (hx : a ≠ 0) (hs : s.size ≤ 5000) (i : Nat) (hi : i < s.size) (h47 : s[i].toNat = 47) (hno : ∀ (j : Nat) c, j < i → s.data.toList[j]? = some c → c ≠ 47) (hXe : s.extract 0 i = X) (hYe : s.extract (i + 1) s.size = Y) :
    Calls Tryz.prog 54 #[.string s] w (GivesPP 0 0 0 0 0 0 3 w) := by
  have HT := hide hT
  have HX := hide hX
  have HY := hide hY
  have HP := hide hp
  have HQ := hide hq
  have q1 : (a == 0) = false := beq_eq_false_iff_ne.2 hx
  have q1' : (a != 0) = true := by simp [hx]
  have HNO := hide hno
  have HI := hide h47
  have HXE := hide hXe
  have HYE := hide hYe
  clear hno h47 hXe hYe
  clear hX hY hp hq
  clear hT
  go_enter Tryz.func54, Tryz.ntmps54
  go_wp2_with fail
  generalize hW : (w.alloc _).alloc _ = W0
  obtain ⟨B, r0, r1⟩ := boxT4 hW
  clear hW
  have lr0 := r0.lt
  have zr00 : W0.cell? ⟨w.heap.size, 0, none⟩ = some (.int .i64 0) := r0.at_ 0
  have zr01 : W0.cell? ⟨w.heap.size, 1, none⟩ = some (.int .i64 0) := r0.at_ 1
  have zr02 : W0.cell? ⟨w.heap.size, 2, none⟩ = some (.int .i64 0) := r0.at_ 2
  have fr00 := r0.frozen 0
  have fr01 := r0.frozen 1
  have fr02 := r0.frozen 2
  have lr1 := r1.lt
  have zr10 : W0.cell? ⟨w.heap.size + 1, 0, none⟩ = some (.int .i64 0) := r1.at_ 0
  have zr11 : W0.cell? ⟨w.heap.size + 1, 1, none⟩ = some (.int .i64 0) := r1.at_ 1
  have zr12 : W0.cell? ⟨w.heap.size + 1, 2, none⟩ = some (.int .i64 0) := r1.at_ 2
  have fr10 := r1.frozen 0
  have fr11 := r1.frozen 1
  have fr12 := r1.frozen 2
  go_loop [5] (fun v5 => ∃ (j : Nat), j ≤ i ∧ v5 = .int .i64 ((j : Nat) : Int)) (fun v5 => i - (RowKit.intOf v5).toNat)
  case atStart => exact ⟨0, by omega, rfl⟩
  case round =>
    obtain ⟨j, hj, rfl⟩ := hrel
    have i1 : (0 : Int) ≤ (j : Int) := by omega
    have d0 : decide ((j : Int) < (s.size : Int)) = true := decide_eq_true (by omega)
    have hjs : j < s.size := by omega
    by_cases hlt : j < i
    · have hc := HNO.out j _ hlt (at_some s j hjs)
      have hc2 : ((s[j].toNat : Int) == 47) = false := beq_eq_false_iff_ne.2 fun h => hc (UInt8.toNat_inj.1 (by show s[j].toNat = 47; omega))
      have hc3 : ((s[j].toNat : Int) != 47) = true := by simp at hc2 ⊢; exact hc2
      clear hc
      go_wp2_with fail
      go_round
      case rel => exact ⟨j + 1, by omega, by go_num⟩
      case measure => simp [RowKit.intOf]; omega
    · obtain rfl : j = i := by omega
      have hc2 : ((s[j].toNat : Int) == 47) = true := beq_iff_eq.2 (by have := HI.out; omega)
      have hc3 : ((s[j].toNat : Int) != 47) = false := by simp at hc2 ⊢; exact hc2
      have e5 : ((j : Int) == (s.size : Int)) = false := beq_eq_false_iff_ne.2 (by omega)
      have e6 : (j == s.size) = false := beq_eq_false_iff_ne.2 (by omega)
      have i2 : (j : Int) ≤ (s.size : Int) := by omega
      have i3 : (j : Int) + 1 ≤ (s.size : Int) := by omega
      go_wp2_with fail
      refine (rparse_any _ _ (HT.out.below B) (by rw [HXE.out]; exact HX.out) a b c 0 (by rw [HXE.out]; exact HP.out)).mono ?_
      rintro e w1 ⟨rfl, hb⟩
      clear zr00 zr01 zr02 fr00 fr01 fr02 zr10 zr11 zr12 fr10 fr11 fr12
      replace B := B.trans (hb.mono B.size)
      replace r0 := r0.below' hb
      replace r1 := r1.below' hb
      clear hb
      have lr0 := r0.lt
      have zr00 : w1.cell? ⟨w.heap.size, 0, none⟩ = some (.int .i64 0) := r0.at_ 0
      have zr01 : w1.cell? ⟨w.heap.size, 1, none⟩ = some (.int .i64 0) := r0.at_ 1
      have zr02 : w1.cell? ⟨w.heap.size, 2, none⟩ = some (.int .i64 0) := r0.at_ 2
      have fr00 := r0.frozen 0
      have fr01 := r0.frozen 1
      have fr02 := r0.frozen 2
      have lr1 := r1.lt
      have zr10 : w1.cell? ⟨w.heap.size + 1, 0, none⟩ = some (.int .i64 0) := r1.at_ 0
      have zr11 : w1.cell? ⟨w.heap.size + 1, 1, none⟩ = some (.int .i64 0) := r1.at_ 1
      have zr12 : w1.cell? ⟨w.heap.size + 1, 2, none⟩ = some (.int .i64 0) := r1.at_ 2
      have fr10 := r1.frozen 0
      have fr11 := r1.frozen 1
      have fr12 := r1.frozen 2
      go_wp2_with fail
      generalize hW : w1.alloc _ = V0
      obtain ⟨hb, b0, -⟩ := boxC hW
      clear hW
      have hg0 := B.size
      clear zr00 zr01 zr02 fr00 fr01 fr02 zr10 zr11 zr12 fr10 fr11 fr12
      replace B := B.trans (hb.mono B.size)
      replace r0 := r0.below' hb
      replace r1 := r1.below' hb
      clear hb
      generalize w1.heap.size = g0 at *
      have lr0 := r0.lt
      have zr00 : V0.cell? ⟨w.heap.size, 0, none⟩ = some (.int .i64 0) := r0.at_ 0
      have zr01 : V0.cell? ⟨w.heap.size, 1, none⟩ = some (.int .i64 0) := r0.at_ 1
      have zr02 : V0.cell? ⟨w.heap.size, 2, none⟩ = some (.int .i64 0) := r0.at_ 2
      have fr00 := r0.frozen 0
      have fr01 := r0.frozen 1
      have fr02 := r0.frozen 2
      have lr1 := r1.lt
      have zr10 : V0.cell? ⟨w.heap.size + 1, 0, none⟩ = some (.int .i64 0) := r1.at_ 0
      have zr11 : V0.cell? ⟨w.heap.size + 1, 1, none⟩ = some (.int .i64 0) := r1.at_ 1
      have zr12 : V0.cell? ⟨w.heap.size + 1, 2, none⟩ = some (.int .i64 0) := r1.at_ 2
      have fr10 := r1.frozen 0
      have fr11 := r1.frozen 1
      have fr12 := r1.frozen 2
      have lb0 := b0.lt
      have zb00 : V0.cell? ⟨g0, 0, none⟩ = some (.int .i64 a) := b0.at_ 0
      have zb01 : V0.cell? ⟨g0, 1, none⟩ = some (.int .i64 b) := b0.at_ 1
      have zb02 : V0.cell? ⟨g0, 2, none⟩ = some (.int .i64 c) := b0.at_ 2
      go_wp2_with fail
      refine (rparse_any _ _ (HT.out.below B) (by rw [HYE.out]; exact HY.out) x y z 0 (by rw [HYE.out]; exact HQ.out)).mono ?_
      rintro e w2 ⟨rfl, hb⟩
      clear zr00 zr01 zr02 fr00 fr01 fr02 zr10 zr11 zr12 fr10 fr11 fr12 zb00 zb01 zb02
      replace B := B.trans (hb.mono B.size)
      replace r0 := r0.below' hb
      replace r1 := r1.below' hb
      replace b0 := b0.below' hb
      clear hb
      have lr0 := r0.lt
      have zr00 : w2.cell? ⟨w.heap.size, 0, none⟩ = some (.int .i64 0) := r0.at_ 0
      have zr01 : w2.cell? ⟨w.heap.size, 1, none⟩ = some (.int .i64 0) := r0.at_ 1
      have zr02 : w2.cell? ⟨w.heap.size, 2, none⟩ = some (.int .i64 0) := r0.at_ 2
      have fr00 := r0.frozen 0
      have fr01 := r0.frozen 1
      have fr02 := r0.frozen 2
      have lr1 := r1.lt
      have zr10 : w2.cell? ⟨w.heap.size + 1, 0, none⟩ = some (.int .i64 0) := r1.at_ 0
      have zr11 : w2.cell? ⟨w.heap.size + 1, 1, none⟩ = some (.int .i64 0) := r1.at_ 1
      have zr12 : w2.cell? ⟨w.heap.size + 1, 2, none⟩ = some (.int .i64 0) := r1.at_ 2
      have fr10 := r1.frozen 0
      have fr11 := r1.frozen 1
      have fr12 := r1.frozen 2
      have lb0 := b0.lt
      have zb00 : w2.cell? ⟨g0, 0, none⟩ = some (.int .i64 a) := b0.at_ 0
      have zb01 : w2.cell? ⟨g0, 1, none⟩ = some (.int .i64 b) := b0.at_ 1
      have zb02 : w2.cell? ⟨g0, 2, none⟩ = some (.int .i64 c) := b0.at_ 2
      go_wp2_with fail
      refine bodyPost_ret (v := .tuple #[.agg #[.int .i64 0, .int .i64 0, .int .i64 0], .agg #[.int .i64 0, .int .i64 0, .int .i64 0], .int .i64 3]) (by simp [results, Tryz.results54, go_sem, *]) rfl ?_
      exact ⟨rfl, Below.alloc (below_two B _ _ _ _ _ _) (Nat.le_trans B.size (by simp)) _⟩
set_option maxRecDepth 100000 in
set_option maxHeartbeats 16000000 in
theorem rpp_y (s : ByteArray) (b c x y z : Int) (w : World) (hT : Lw w) (X Y : ByteArray) (hX : X.size ≤ 5000) (hY : Y.size ≤ 5000) (hp : parR X.data.toList = (0, b, c, 0)) (hq : parR Y.data.toList = (x, y, z, 0)) (hy : x ≠ 1) (hs : s.size ≤ 5000) (i : Nat) (hi : i < s.size) (h47 : s[i].toNat = 47) (hno : ∀ (j : Nat) c, j < i → s.data.toList[j]? = some c → c ≠ 47) (hXe : s.extract 0 i = X) (hYe : s.extract (i + 1) s.size = Y) :
    Calls Tryz.prog 54 #[.string s] w (GivesPP 0 0 0 0 0 0 3 w) := by
  have HT := hide hT
  have HX := hide hX
  have HY := hide hY
  have HP := hide hp
  have HQ := hide hq
  have q1 : (x == 1) = false := beq_eq_false_iff_ne.2 hy
  have q1' : (x != 1) = true := by simp [hy]
  have HNO := hide hno
  have HI := hide h47
  have HXE := hide hXe
  have HYE := hide hYe
  clear hno h47 hXe hYe
  clear hX hY hp hq
  clear hT
  go_enter Tryz.func54, Tryz.ntmps54
  go_wp2_with fail
  generalize hW : (w.alloc _).alloc _ = W0
  obtain ⟨B, r0, r1⟩ := boxT4 hW
  clear hW
  have lr0 := r0.lt
  have zr00 : W0.cell? ⟨w.heap.size, 0, none⟩ = some (.int .i64 0) := r0.at_ 0
  have zr01 : W0.cell? ⟨w.heap.size, 1, none⟩ = some (.int .i64 0) := r0.at_ 1
  have zr02 : W0.cell? ⟨w.heap.size, 2, none⟩ = some (.int .i64 0) := r0.at_ 2
  have fr00 := r0.frozen 0
  have fr01 := r0.frozen 1
  have fr02 := r0.frozen 2
  have lr1 := r1.lt
  have zr10 : W0.cell? ⟨w.heap.size + 1, 0, none⟩ = some (.int .i64 0) := r1.at_ 0
  have zr11 : W0.cell? ⟨w.heap.size + 1, 1, none⟩ = some (.int .i64 0) := r1.at_ 1
  have zr12 : W0.cell? ⟨w.heap.size + 1, 2, none⟩ = some (.int .i64 0) := r1.at_ 2
  have fr10 := r1.frozen 0
  have fr11 := r1.frozen 1
  have fr12 := r1.frozen 2
  go_loop [5] (fun v5 => ∃ (j : Nat), j ≤ i ∧ v5 = .int .i64 ((j : Nat) : Int)) (fun v5 => i - (RowKit.intOf v5).toNat)
  case atStart => exact ⟨0, by omega, rfl⟩
  case round =>
    obtain ⟨j, hj, rfl⟩ := hrel
    have i1 : (0 : Int) ≤ (j : Int) := by omega
    have d0 : decide ((j : Int) < (s.size : Int)) = true := decide_eq_true (by omega)
    have hjs : j < s.size := by omega
    by_cases hlt : j < i
    · have hc := HNO.out j _ hlt (at_some s j hjs)
      have hc2 : ((s[j].toNat : Int) == 47) = false := beq_eq_false_iff_ne.2 fun h => hc (UInt8.toNat_inj.1 (by show s[j].toNat = 47; omega))
      have hc3 : ((s[j].toNat : Int) != 47) = true := by simp at hc2 ⊢; exact hc2
      clear hc
      go_wp2_with fail
      go_round
      case rel => exact ⟨j + 1, by omega, by go_num⟩
      case measure => simp [RowKit.intOf]; omega
    · obtain rfl : j = i := by omega
      have hc2 : ((s[j].toNat : Int) == 47) = true := beq_iff_eq.2 (by have := HI.out; omega)
      have hc3 : ((s[j].toNat : Int) != 47) = false := by simp at hc2 ⊢; exact hc2
      have e5 : ((j : Int) == (s.size : Int)) = false := beq_eq_false_iff_ne.2 (by omega)
      have e6 : (j == s.size) = false := beq_eq_false_iff_ne.2 (by omega)
      have i2 : (j : Int) ≤ (s.size : Int) := by omega
      have i3 : (j : Int) + 1 ≤ (s.size : Int) := by omega
      go_wp2_with fail
      refine (rparse_any _ _ (HT.out.below B) (by rw [HXE.out]; exact HX.out) 0 b c 0 (by rw [HXE.out]; exact HP.out)).mono ?_
      rintro e w1 ⟨rfl, hb⟩
      clear zr00 zr01 zr02 fr00 fr01 fr02 zr10 zr11 zr12 fr10 fr11 fr12
      replace B := B.trans (hb.mono B.size)
      replace r0 := r0.below' hb
      replace r1 := r1.below' hb
      clear hb
      have lr0 := r0.lt
      have zr00 : w1.cell? ⟨w.heap.size, 0, none⟩ = some (.int .i64 0) := r0.at_ 0
      have zr01 : w1.cell? ⟨w.heap.size, 1, none⟩ = some (.int .i64 0) := r0.at_ 1
      have zr02 : w1.cell? ⟨w.heap.size, 2, none⟩ = some (.int .i64 0) := r0.at_ 2
      have fr00 := r0.frozen 0
      have fr01 := r0.frozen 1
      have fr02 := r0.frozen 2
      have lr1 := r1.lt
      have zr10 : w1.cell? ⟨w.heap.size + 1, 0, none⟩ = some (.int .i64 0) := r1.at_ 0
      have zr11 : w1.cell? ⟨w.heap.size + 1, 1, none⟩ = some (.int .i64 0) := r1.at_ 1
      have zr12 : w1.cell? ⟨w.heap.size + 1, 2, none⟩ = some (.int .i64 0) := r1.at_ 2
      have fr10 := r1.frozen 0
      have fr11 := r1.frozen 1
      have fr12 := r1.frozen 2
      go_wp2_with fail
      generalize hW : w1.alloc _ = V0
      obtain ⟨hb, b0, -⟩ := boxC hW
      clear hW
      have hg0 := B.size
      clear zr00 zr01 zr02 fr00 fr01 fr02 zr10 zr11 zr12 fr10 fr11 fr12
      replace B := B.trans (hb.mono B.size)
      replace r0 := r0.below' hb
      replace r1 := r1.below' hb
      clear hb
      generalize w1.heap.size = g0 at *
      have lr0 := r0.lt
      have zr00 : V0.cell? ⟨w.heap.size, 0, none⟩ = some (.int .i64 0) := r0.at_ 0
      have zr01 : V0.cell? ⟨w.heap.size, 1, none⟩ = some (.int .i64 0) := r0.at_ 1
      have zr02 : V0.cell? ⟨w.heap.size, 2, none⟩ = some (.int .i64 0) := r0.at_ 2
      have fr00 := r0.frozen 0
      have fr01 := r0.frozen 1
      have fr02 := r0.frozen 2
      have lr1 := r1.lt
      have zr10 : V0.cell? ⟨w.heap.size + 1, 0, none⟩ = some (.int .i64 0) := r1.at_ 0
      have zr11 : V0.cell? ⟨w.heap.size + 1, 1, none⟩ = some (.int .i64 0) := r1.at_ 1
      have zr12 : V0.cell? ⟨w.heap.size + 1, 2, none⟩ = some (.int .i64 0) := r1.at_ 2
      have fr10 := r1.frozen 0
      have fr11 := r1.frozen 1
      have fr12 := r1.frozen 2
      have lb0 := b0.lt
      have zb00 : V0.cell? ⟨g0, 0, none⟩ = some (.int .i64 0) := b0.at_ 0
      have zb01 : V0.cell? ⟨g0, 1, none⟩ = some (.int .i64 b) := b0.at_ 1
      have zb02 : V0.cell? ⟨g0, 2, none⟩ = some (.int .i64 c) := b0.at_ 2
      go_wp2_with fail
      refine (rparse_any _ _ (HT.out.below B) (by rw [HYE.out]; exact HY.out) x y z 0 (by rw [HYE.out]; exact HQ.out)).mono ?_
      rintro e w2 ⟨rfl, hb⟩
      clear zr00 zr01 zr02 fr00 fr01 fr02 zr10 zr11 zr12 fr10 fr11 fr12 zb00 zb01 zb02
      replace B := B.trans (hb.mono B.size)
      replace r0 := r0.below' hb
      replace r1 := r1.below' hb
      replace b0 := b0.below' hb
      clear hb
      have lr0 := r0.lt
      have zr00 : w2.cell? ⟨w.heap.size, 0, none⟩ = some (.int .i64 0) := r0.at_ 0
      have zr01 : w2.cell? ⟨w.heap.size, 1, none⟩ = some (.int .i64 0) := r0.at_ 1
      have zr02 : w2.cell? ⟨w.heap.size, 2, none⟩ = some (.int .i64 0) := r0.at_ 2
      have fr00 := r0.frozen 0
      have fr01 := r0.frozen 1
      have fr02 := r0.frozen 2
      have lr1 := r1.lt
      have zr10 : w2.cell? ⟨w.heap.size + 1, 0, none⟩ = some (.int .i64 0) := r1.at_ 0
      have zr11 : w2.cell? ⟨w.heap.size + 1, 1, none⟩ = some (.int .i64 0) := r1.at_ 1
      have zr12 : w2.cell? ⟨w.heap.size + 1, 2, none⟩ = some (.int .i64 0) := r1.at_ 2
      have fr10 := r1.frozen 0
      have fr11 := r1.frozen 1
      have fr12 := r1.frozen 2
      have lb0 := b0.lt
      have zb00 : w2.cell? ⟨g0, 0, none⟩ = some (.int .i64 0) := b0.at_ 0
      have zb01 : w2.cell? ⟨g0, 1, none⟩ = some (.int .i64 b) := b0.at_ 1
      have zb02 : w2.cell? ⟨g0, 2, none⟩ = some (.int .i64 c) := b0.at_ 2
      go_wp2_with fail
      refine bodyPost_ret (v := .tuple #[.agg #[.int .i64 0, .int .i64 0, .int .i64 0], .agg #[.int .i64 0, .int .i64 0, .int .i64 0], .int .i64 3]) (by simp [results, Tryz.results54, go_sem, *]) rfl ?_
      exact ⟨rfl, Below.alloc (below_two B _ _ _ _ _ _) (Nat.le_trans B.size (by simp)) _⟩
set_option maxRecDepth 100000 in
set_option maxHeartbeats 16000000 in
theorem rpp_no (s : ByteArray) (w : World) (hT : Lw w) (hs : s.size ≤ 5000) (hno : ∀ c ∈ s.data.toList, c ≠ 47) :
    Calls Tryz.prog 54 #[.string s] w (GivesPP 0 0 0 0 0 0 3 w) := by
  have HT := hide hT
  have HNO := hide hno
  clear hno
  clear hT
  go_enter Tryz.func54, Tryz.ntmps54
  go_wp2_with fail
  generalize hW : (w.alloc _).alloc _ = W0
  obtain ⟨B, r0, r1⟩ := boxT4 hW
  clear hW
  have lr0 := r0.lt
  have zr00 : W0.cell? ⟨w.heap.size, 0, none⟩ = some (.int .i64 0) := r0.at_ 0
  have zr01 : W0.cell? ⟨w.heap.size, 1, none⟩ = some (.int .i64 0) := r0.at_ 1
  have zr02 : W0.cell? ⟨w.heap.size, 2, none⟩ = some (.int .i64 0) := r0.at_ 2
  have fr00 := r0.frozen 0
  have fr01 := r0.frozen 1
  have fr02 := r0.frozen 2
  have lr1 := r1.lt
  have zr10 : W0.cell? ⟨w.heap.size + 1, 0, none⟩ = some (.int .i64 0) := r1.at_ 0
  have zr11 : W0.cell? ⟨w.heap.size + 1, 1, none⟩ = some (.int .i64 0) := r1.at_ 1
  have zr12 : W0.cell? ⟨w.heap.size + 1, 2, none⟩ = some (.int .i64 0) := r1.at_ 2
  have fr10 := r1.frozen 0
  have fr11 := r1.frozen 1
  have fr12 := r1.frozen 2
  go_loop [5] (fun v5 => ∃ (j : Nat), j ≤ s.size ∧ v5 = .int .i64 ((j : Nat) : Int)) (fun v5 => s.size - (RowKit.intOf v5).toNat)
  case atStart => exact ⟨0, by omega, rfl⟩
  case round =>
    obtain ⟨j, hj, rfl⟩ := hrel
    have i1 : (0 : Int) ≤ (j : Int) := by omega
    by_cases hlt : j < s.size
    · have d0 : decide ((j : Int) < (s.size : Int)) = true := decide_eq_true (by omega)
      have hc := HNO.out _ (List.mem_of_getElem? (at_some s j hlt))
      have hc2 : ((s[j].toNat : Int) == 47) = false := beq_eq_false_iff_ne.2 fun h => hc (UInt8.toNat_inj.1 (by show s[j].toNat = 47; omega))
      have hc3 : ((s[j].toNat : Int) != 47) = true := by simp at hc2 ⊢; exact hc2
      clear hc
      go_wp2_with fail
      go_round
      case rel => exact ⟨j + 1, by omega, by go_num⟩
      case measure => simp [RowKit.intOf]; omega
    · obtain rfl : j = s.size := by omega
      have d0 : decide ((s.size : Int) < (s.size : Int)) = false := decide_eq_false (by omega)
      have e5 : ((s.size : Int) == (s.size : Int)) = true := beq_iff_eq.2 rfl
      go_wp2_with fail
      refine bodyPost_ret (v := .tuple #[.agg #[.int .i64 0, .int .i64 0, .int .i64 0], .agg #[.int .i64 0, .int .i64 0, .int .i64 0], .int .i64 3]) (by simp [results, Tryz.results54, go_sem, *]) rfl ?_
      exact ⟨rfl, below_two B _ _ _ _ _ _⟩
end Go.Proofs.YtaapcfflnklpjaaGreatDoor
