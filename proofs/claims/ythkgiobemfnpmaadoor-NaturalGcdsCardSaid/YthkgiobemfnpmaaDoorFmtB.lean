/- The contract of formatBase10: 5, 6 digits. -/
import Derived.Test.YthkgiobemfnpmaaDoorFmtA
namespace Go.Proofs.YthkgiobemfnpmaaDoor
open Go Go.RowKit

set_option maxHeartbeats 4000000 in
set_option maxRecDepth 100000 in
theorem fmt5 (g : Nat) (x : Nat) (w : World) (hz : Own w g .u8 74 (List.replicate 24 0)) (h1 : 10000 ≤ x) (h2 : x < 100000) :
    Calls Tryd.prog 69 #[.slice (some ⟨g, 0, none⟩) 5 24, .int .u64 (x : Int)] w (Fmted 5 x g w) := by
  obtain ⟨yb, h_yb⟩ : ∃ t, t = x % 10000 := ⟨_, rfl⟩
  have e_yb : (x : Int) % 10000 = (yb : Int) := by omega
  obtain ⟨ya, h_ya⟩ : ∃ t, t = x / 10000 := ⟨_, rfl⟩
  have e_ya : (x : Int) / 10000 = (ya : Int) := by omega
  obtain ⟨d1, h_d1⟩ : ∃ t, t = yb / 100 := ⟨_, rfl⟩
  have e_d1 : (yb : Int) / 100 = (d1 : Int) := by omega
  obtain ⟨d0, h_d0⟩ : ∃ t, t = yb % 100 := ⟨_, rfl⟩
  have e_d0 : (yb : Int) % 100 = (d0 : Int) := by omega
  have b_d0 : d0 < 100 := by omega
  have b_d1 : d1 < 100 := by omega
  have b_l : ya < 10 := by omega
  obtain ⟨e1d0, e2d0, e3d0, e4d0, e5d0, e6d0, e7d0⟩ := pairFacts d0 b_d0
  obtain ⟨e1d1, e2d1, e3d1, e4d1, e5d1, e6d1, e7d1⟩ := pairFacts d1 b_d1
  have bnd : yb < 1000000000 ∧ ya < 1000000000 ∧ d1 < 1000000000 ∧ d0 < 1000000000 := by omega
  obtain ⟨bb_yb, bb_ya, bb_d1, bb_d0⟩ := bnd
  have H_yb := hide h_yb
  have H_ya := hide h_ya
  have H_d1 := hide h_d1
  have H_d0 := hide h_d0
  clear h_yb h_ya h_d1 h_d0
  have HZ : Hid ((List.replicate 24 0).length = 24) := by show _ = _; simp
  generalize hzz : List.replicate 24 0 = z0 at hz
  have HZZ := hide hzz
  have hl0 : z0.length = 24 := by rw [← hzz]; simp
  have L0 := hide hl0
  clear hzz hl0 HZ
  obtain ⟨c1_0, g1_0⟩ := cell24 hz L0.out 4 (by omega)
  obtain ⟨c2_0, g2_0⟩ := cell24 hz L0.out 3 (by omega)
  have f1_0 := hz.frozen 4
  have f2_0 := hz.frozen 3
  go_enter Tryd.func69, Tryd.ntmps69
  go_wp2
  refine wp_loop_rounds 1 ?_
  rw [rounds_succ]
  go_wp2
  go_region
  generalize hw : World.drew (World.setCell (World.setCell w _ _) _ _) = w1
  obtain ⟨z1, hz1⟩ : ∃ t, t = (z0.set 4 (48 + d0 % 10)).set 3 (48 + d0 / 10) := ⟨_, rfl⟩
  have ho1 : Own w1 g .u8 74 z1 := by
    rw [← hw, hz1]
    exact (hz.put 4 (castn (sm_o d0 b_d0 _))).put 3 (castn (sm_e d0 b_d0 _))
  have hg1 : w.grownBy w1 (some g) := by
    rw [← hw]
    exact only_drew (only_setCell (only_setCell (World.grownBy.refl w (some g)) (.inl rfl) _) (.inl rfl) _)
  have hl1 : z1.length = 24 := by rw [hz1, List.length_set, List.length_set]; exact L0.out
  have L1 := hide hl1
  have Z1 := hide hz1
  clear hw hl1 hz1 g1_0 g2_0 f1_0 f2_0
  obtain ⟨c1_1, g1_1⟩ := cell24 ho1 L1.out 2 (by omega)
  obtain ⟨c2_1, g2_1⟩ := cell24 ho1 L1.out 1 (by omega)
  have f1_1 := ho1.frozen 2
  have f2_1 := ho1.frozen 1
  go_wp2
  go_region
  generalize hw : World.drew (World.setCell (World.setCell w1 _ _) _ _) = w2
  obtain ⟨z2, hz2⟩ : ∃ t, t = (z1.set 2 (48 + d1 % 10)).set 1 (48 + d1 / 10) := ⟨_, rfl⟩
  have ho2 : Own w2 g .u8 74 z2 := by
    rw [← hw, hz2]
    exact (ho1.put 2 (castn (sm_o d1 b_d1 _))).put 1 (castn (sm_e d1 b_d1 _))
  have hg2 : w.grownBy w2 (some g) := by
    rw [← hw]
    exact only_drew (only_setCell (only_setCell hg1 (.inl rfl) _) (.inl rfl) _)
  have hl2 : z2.length = 24 := by rw [hz2, List.length_set, List.length_set]; exact L1.out
  have L2 := hide hl2
  have Z2 := hide hz2
  clear hw hl2 hz2 g1_1 g2_1 f1_1 f2_1
  obtain ⟨cl, gl⟩ := cell24 ho2 L2.out 0 (by omega)
  have fl := ho2.frozen 0
  go_wp2
  refine bodyPost_end (results_none rfl _ _ _) rfl ?_
  have h_yb := H_yb.out
  have h_ya := H_ya.out
  have h_d1 := H_d1.out
  have h_d0 := H_d0.out
  refine ⟨rfl, only_setCell hg2 (.inl rfl) _, z2.set 0 (48 + ya), ho2.put 0 (by omega), by rw [List.length_set]; exact L2.out, ?_⟩
  rw [Z2.out, Z1.out, ← HZZ.out]
  show [48 + ya, 48 + d1 / 10, 48 + d1 % 10, 48 + d0 / 10, 48 + d0 % 10] = [48 + x / 10000 % 10, 48 + x / 1000 % 10, 48 + x / 100 % 10, 48 + x / 10 % 10, 48 + x / 1 % 10]
  simp only [List.cons.injEq, and_true]
  omega
set_option maxHeartbeats 4000000 in
set_option maxRecDepth 100000 in
theorem fmt6 (g : Nat) (x : Nat) (w : World) (hz : Own w g .u8 74 (List.replicate 24 0)) (h1 : 100000 ≤ x) (h2 : x < 1000000) :
    Calls Tryd.prog 69 #[.slice (some ⟨g, 0, none⟩) 6 24, .int .u64 (x : Int)] w (Fmted 6 x g w) := by
  obtain ⟨yb, h_yb⟩ : ∃ t, t = x % 10000 := ⟨_, rfl⟩
  have e_yb : (x : Int) % 10000 = (yb : Int) := by omega
  obtain ⟨ya, h_ya⟩ : ∃ t, t = x / 10000 := ⟨_, rfl⟩
  have e_ya : (x : Int) / 10000 = (ya : Int) := by omega
  obtain ⟨d1, h_d1⟩ : ∃ t, t = yb / 100 := ⟨_, rfl⟩
  have e_d1 : (yb : Int) / 100 = (d1 : Int) := by omega
  obtain ⟨d0, h_d0⟩ : ∃ t, t = yb % 100 := ⟨_, rfl⟩
  have e_d0 : (yb : Int) % 100 = (d0 : Int) := by omega
  obtain ⟨d2, h_d2⟩ : ∃ t, t = ya % 100 := ⟨_, rfl⟩
  have e_d2 : (ya : Int) % 100 = (d2 : Int) := by omega
  obtain ⟨yc, h_yc⟩ : ∃ t, t = ya / 100 := ⟨_, rfl⟩
  have e_yc : (ya : Int) / 100 = (yc : Int) := by omega
  have b_d0 : d0 < 100 := by omega
  have b_d1 : d1 < 100 := by omega
  have b_d2 : d2 < 100 := by omega
  obtain ⟨e1d0, e2d0, e3d0, e4d0, e5d0, e6d0, e7d0⟩ := pairFacts d0 b_d0
  obtain ⟨e1d1, e2d1, e3d1, e4d1, e5d1, e6d1, e7d1⟩ := pairFacts d1 b_d1
  obtain ⟨e1d2, e2d2, e3d2, e4d2, e5d2, e6d2, e7d2⟩ := pairFacts d2 b_d2
  have bnd : yb < 1000000000 ∧ ya < 1000000000 ∧ d1 < 1000000000 ∧ d0 < 1000000000 ∧ d2 < 1000000000 ∧ yc < 1000000000 := by omega
  obtain ⟨bb_yb, bb_ya, bb_d1, bb_d0, bb_d2, bb_yc⟩ := bnd
  have H_yb := hide h_yb
  have H_ya := hide h_ya
  have H_d1 := hide h_d1
  have H_d0 := hide h_d0
  have H_d2 := hide h_d2
  have H_yc := hide h_yc
  clear h_yb h_ya h_d1 h_d0 h_d2 h_yc
  have HZ : Hid ((List.replicate 24 0).length = 24) := by show _ = _; simp
  generalize hzz : List.replicate 24 0 = z0 at hz
  have HZZ := hide hzz
  have hl0 : z0.length = 24 := by rw [← hzz]; simp
  have L0 := hide hl0
  clear hzz hl0 HZ
  obtain ⟨c1_0, g1_0⟩ := cell24 hz L0.out 5 (by omega)
  obtain ⟨c2_0, g2_0⟩ := cell24 hz L0.out 4 (by omega)
  have f1_0 := hz.frozen 5
  have f2_0 := hz.frozen 4
  go_enter Tryd.func69, Tryd.ntmps69
  go_wp2
  refine wp_loop_rounds 1 ?_
  rw [rounds_succ]
  go_wp2
  go_region
  generalize hw : World.drew (World.setCell (World.setCell w _ _) _ _) = w1
  obtain ⟨z1, hz1⟩ : ∃ t, t = (z0.set 5 (48 + d0 % 10)).set 4 (48 + d0 / 10) := ⟨_, rfl⟩
  have ho1 : Own w1 g .u8 74 z1 := by
    rw [← hw, hz1]
    exact (hz.put 5 (castn (sm_o d0 b_d0 _))).put 4 (castn (sm_e d0 b_d0 _))
  have hg1 : w.grownBy w1 (some g) := by
    rw [← hw]
    exact only_drew (only_setCell (only_setCell (World.grownBy.refl w (some g)) (.inl rfl) _) (.inl rfl) _)
  have hl1 : z1.length = 24 := by rw [hz1, List.length_set, List.length_set]; exact L0.out
  have L1 := hide hl1
  have Z1 := hide hz1
  clear hw hl1 hz1 g1_0 g2_0 f1_0 f2_0
  obtain ⟨c1_1, g1_1⟩ := cell24 ho1 L1.out 3 (by omega)
  obtain ⟨c2_1, g2_1⟩ := cell24 ho1 L1.out 2 (by omega)
  have f1_1 := ho1.frozen 3
  have f2_1 := ho1.frozen 2
  go_wp2
  go_region
  generalize hw : World.drew (World.setCell (World.setCell w1 _ _) _ _) = w2
  obtain ⟨z2, hz2⟩ : ∃ t, t = (z1.set 3 (48 + d1 % 10)).set 2 (48 + d1 / 10) := ⟨_, rfl⟩
  have ho2 : Own w2 g .u8 74 z2 := by
    rw [← hw, hz2]
    exact (ho1.put 3 (castn (sm_o d1 b_d1 _))).put 2 (castn (sm_e d1 b_d1 _))
  have hg2 : w.grownBy w2 (some g) := by
    rw [← hw]
    exact only_drew (only_setCell (only_setCell hg1 (.inl rfl) _) (.inl rfl) _)
  have hl2 : z2.length = 24 := by rw [hz2, List.length_set, List.length_set]; exact L1.out
  have L2 := hide hl2
  have Z2 := hide hz2
  clear hw hl2 hz2 g1_1 g2_1 f1_1 f2_1
  obtain ⟨c1_2, g1_2⟩ := cell24 ho2 L2.out 1 (by omega)
  obtain ⟨c2_2, g2_2⟩ := cell24 ho2 L2.out 0 (by omega)
  have f1_2 := ho2.frozen 1
  have f2_2 := ho2.frozen 0
  go_wp2
  go_region
  generalize hw : World.drew (World.setCell (World.setCell w2 _ _) _ _) = w3
  obtain ⟨z3, hz3⟩ : ∃ t, t = (z2.set 1 (48 + d2 % 10)).set 0 (48 + d2 / 10) := ⟨_, rfl⟩
  have ho3 : Own w3 g .u8 74 z3 := by
    rw [← hw, hz3]
    exact (ho2.put 1 (castn (sm_o d2 b_d2 _))).put 0 (castn (sm_e d2 b_d2 _))
  have hg3 : w.grownBy w3 (some g) := by
    rw [← hw]
    exact only_drew (only_setCell (only_setCell hg2 (.inl rfl) _) (.inl rfl) _)
  have hl3 : z3.length = 24 := by rw [hz3, List.length_set, List.length_set]; exact L2.out
  have L3 := hide hl3
  have Z3 := hide hz3
  clear hw hl3 hz3 g1_2 g2_2 f1_2 f2_2
  go_wp2
  refine bodyPost_end (results_none rfl _ _ _) rfl ?_
  have h_yb := H_yb.out
  have h_ya := H_ya.out
  have h_d1 := H_d1.out
  have h_d0 := H_d0.out
  have h_d2 := H_d2.out
  have h_yc := H_yc.out
  refine ⟨rfl, hg3, z3, ho3, L3.out, ?_⟩
  rw [Z3.out, Z2.out, Z1.out, ← HZZ.out]
  show [48 + d2 / 10, 48 + d2 % 10, 48 + d1 / 10, 48 + d1 % 10, 48 + d0 / 10, 48 + d0 % 10] = [48 + x / 100000 % 10, 48 + x / 10000 % 10, 48 + x / 1000 % 10, 48 + x / 100 % 10, 48 + x / 10 % 10, 48 + x / 1 % 10]
  simp only [List.cons.injEq, and_true]
  omega
end Go.Proofs.YthkgiobemfnpmaaDoor
