/- The contract of formatBase10, for 3 to 9 digits. -/
import Derived.Test.YthkgiobemfnpmaaDoorAppL
import Derived.RegionTactic
import Derived.BigRegion
import Derived.IntWalk
namespace Go.Proofs.YthkgiobemfnpmaaDoor
open Go Go.RowKit

/-- the two digits of the numbers below 100 -/
def SM : ByteArray := ⟨#[48, 48, 48, 49, 48, 50, 48, 51, 48, 52, 48, 53, 48, 54, 48, 55, 48, 56, 48, 57, 49, 48, 49, 49, 49, 50, 49, 51, 49, 52, 49, 53, 49, 54, 49, 55, 49, 56, 49, 57, 50, 48, 50, 49, 50, 50, 50, 51, 50, 52, 50, 53, 50, 54, 50, 55, 50, 56, 50, 57, 51, 48, 51, 49, 51, 50, 51, 51, 51, 52, 51, 53, 51, 54, 51, 55, 51, 56, 51, 57, 52, 48, 52, 49, 52, 50, 52, 51, 52, 52, 52, 53, 52, 54, 52, 55, 52, 56, 52, 57, 53, 48, 53, 49, 53, 50, 53, 51, 53, 52, 53, 53, 53, 54, 53, 55, 53, 56, 53, 57, 54, 48, 54, 49, 54, 50, 54, 51, 54, 52, 54, 53, 54, 54, 54, 55, 54, 56, 54, 57, 55, 48, 55, 49, 55, 50, 55, 51, 55, 52, 55, 53, 55, 54, 55, 55, 55, 56, 55, 57, 56, 48, 56, 49, 56, 50, 56, 51, 56, 52, 56, 53, 56, 54, 56, 55, 56, 56, 56, 57, 57, 48, 57, 49, 57, 50, 57, 51, 57, 52, 57, 53, 57, 54, 57, 55, 57, 56, 57, 57]⟩
theorem sm_size : SM.size = 200 := by decide +kernel
theorem sm_even : ∀ d < 100, (SM.data.getD (d * 2) 0).toNat = 48 + d / 10 := by decide +kernel
theorem sm_odd : ∀ d < 100, (SM.data.getD (d * 2 + 1) 0).toNat = 48 + d % 10 := by decide +kernel
theorem ba_get (s : ByteArray) (i : Nat) (h : i < s.size) : s[i].toNat = (s.data.getD i 0).toNat := by
  have h' : i < s.data.size := h
  rw [Array.getD_eq_getD_getElem?, Array.getElem?_eq_getElem h']; rfl
theorem sm_e (d : Nat) (hd : d < 100) (h : d * 2 < SM.size) : SM[d * 2].toNat = 48 + d / 10 := by rw [ba_get SM _ h, sm_even d hd]
theorem sm_o (d : Nat) (hd : d < 100) (h : d * 2 + 1 < SM.size) : SM[d * 2 + 1].toNat = 48 + d % 10 := by rw [ba_get SM _ h, sm_odd d hd]
theorem castn {a b : Nat} (h : a = b) : (a : Int) = (b : Int) := by rw [h]

/-- the facts on an index of the two digits of d -/
theorem pairFacts (d : Nat) (hd : d < 100) : IntKind.u32.wrap ((d : Int) * 2 + 1) = (d : Int) * 2 + 1 ∧ ((d : Int) * 2 + 1).toNat = d * 2 + 1 ∧ ((d : Int) * 2).toNat = d * 2 ∧ (d : Int) * 2 + 1 < 200 ∧ (d : Int) * 2 < 200 ∧ 0 ≤ (d : Int) * 2 + 1 ∧ 0 ≤ (d : Int) * 2 :=
  ⟨IntWalk.u32_in _ (by omega), by omega, by omega, by omega, by omega, by omega, by omega⟩

/-- n decimal digits of x, as bytes, the greatest first -/
def dec (n x : Nat) : List Nat := (List.range n).map fun j => 48 + x / 10 ^ (n - 1 - j) % 10
/-- what formatBase10 leaves -/
def Fmted (n x g : Nat) (w : World) (e : Ending) (w' : World) : Prop :=
  e = .returned (.tuple #[]) ∧ w.grownBy w' (some g) ∧ ∃ zs, Own w' g .u8 74 zs ∧ zs.length = 24 ∧ zs.take n = dec n x
theorem cell24 {w : World} {g : Nat} {zs : List Nat} (hz : Own w g .u8 74 zs) (hl : zs.length = 24) (j : Nat) (hj : j < 24) : ∃ z : Nat, w.cell? ⟨g, j, none⟩ = some (.int .u8 (z : Int)) :=
  ⟨zs[j]'(by omega), hz.cell (List.getElem?_eq_getElem (by omega))⟩

set_option maxHeartbeats 4000000 in
set_option maxRecDepth 100000 in
theorem fmt3 (g : Nat) (x : Nat) (w : World) (hz : Own w g .u8 74 (List.replicate 24 0)) (h1 : 100 ≤ x) (h2 : x < 1000) :
    Calls Tryd.prog 69 #[.slice (some ⟨g, 0, none⟩) 3 24, .int .u64 (x : Int)] w (Fmted 3 x g w) := by
  obtain ⟨d0, h_d0⟩ : ∃ t, t = x % 100 := ⟨_, rfl⟩
  have e_d0 : (x : Int) % 100 = (d0 : Int) := by omega
  obtain ⟨ya, h_ya⟩ : ∃ t, t = x / 100 := ⟨_, rfl⟩
  have e_ya : (x : Int) / 100 = (ya : Int) := by omega
  have b_d0 : d0 < 100 := by omega
  have b_l : ya < 10 := by omega
  obtain ⟨e1d0, e2d0, e3d0, e4d0, e5d0, e6d0, e7d0⟩ := pairFacts d0 b_d0
  have bnd : d0 < 1000000000 ∧ ya < 1000000000 := by omega
  obtain ⟨bb_d0, bb_ya⟩ := bnd
  have H_d0 := hide h_d0
  have H_ya := hide h_ya
  clear h_d0 h_ya
  have HZ : Hid ((List.replicate 24 0).length = 24) := by show _ = _; simp
  generalize hzz : List.replicate 24 0 = z0 at hz
  have HZZ := hide hzz
  have hl0 : z0.length = 24 := by rw [← hzz]; simp
  have L0 := hide hl0
  clear hzz hl0 HZ
  obtain ⟨c1_0, g1_0⟩ := cell24 hz L0.out 2 (by omega)
  obtain ⟨c2_0, g2_0⟩ := cell24 hz L0.out 1 (by omega)
  have f1_0 := hz.frozen 2
  have f2_0 := hz.frozen 1
  go_enter Tryd.func69, Tryd.ntmps69
  go_wp2
  refine wp_loop_rounds 1 ?_
  rw [rounds_succ]
  go_wp2
  go_region
  generalize hw : World.drew (World.setCell (World.setCell w _ _) _ _) = w1
  obtain ⟨z1, hz1⟩ : ∃ t, t = (z0.set 2 (48 + d0 % 10)).set 1 (48 + d0 / 10) := ⟨_, rfl⟩
  have ho1 : Own w1 g .u8 74 z1 := by
    rw [← hw, hz1]
    exact (hz.put 2 (castn (sm_o d0 b_d0 _))).put 1 (castn (sm_e d0 b_d0 _))
  have hg1 : w.grownBy w1 (some g) := by
    rw [← hw]
    exact only_drew (only_setCell (only_setCell (World.grownBy.refl w (some g)) (.inl rfl) _) (.inl rfl) _)
  have hl1 : z1.length = 24 := by rw [hz1, List.length_set, List.length_set]; exact L0.out
  have L1 := hide hl1
  have Z1 := hide hz1
  clear hw hl1 hz1 g1_0 g2_0 f1_0 f2_0
  obtain ⟨cl, gl⟩ := cell24 ho1 L1.out 0 (by omega)
  have fl := ho1.frozen 0
  go_wp2
  refine bodyPost_end (results_none rfl _ _ _) rfl ?_
  have h_d0 := H_d0.out
  have h_ya := H_ya.out
  refine ⟨rfl, only_setCell hg1 (.inl rfl) _, z1.set 0 (48 + ya), ho1.put 0 (by omega), by rw [List.length_set]; exact L1.out, ?_⟩
  rw [Z1.out, ← HZZ.out]
  show [48 + ya, 48 + d0 / 10, 48 + d0 % 10] = [48 + x / 100 % 10, 48 + x / 10 % 10, 48 + x / 1 % 10]
  simp only [List.cons.injEq, and_true]
  omega
set_option maxHeartbeats 4000000 in
set_option maxRecDepth 100000 in
theorem fmt4 (g : Nat) (x : Nat) (w : World) (hz : Own w g .u8 74 (List.replicate 24 0)) (h1 : 1000 ≤ x) (h2 : x < 10000) :
    Calls Tryd.prog 69 #[.slice (some ⟨g, 0, none⟩) 4 24, .int .u64 (x : Int)] w (Fmted 4 x g w) := by
  obtain ⟨yb, h_yb⟩ : ∃ t, t = x % 10000 := ⟨_, rfl⟩
  have e_yb : (x : Int) % 10000 = (yb : Int) := by omega
  obtain ⟨ya, h_ya⟩ : ∃ t, t = x / 10000 := ⟨_, rfl⟩
  have e_ya : (x : Int) / 10000 = (ya : Int) := by omega
  obtain ⟨d1, h_d1⟩ : ∃ t, t = yb / 100 := ⟨_, rfl⟩
  have e_d1 : (yb : Int) / 100 = (d1 : Int) := by omega
  obtain ⟨d0, h_d0⟩ : ∃ t, t = yb % 100 := ⟨_, rfl⟩
  have e_d0 : (yb : Int) % 100 = (d0 : Int) := by omega
  have b_d0 : d0 < 100 := by omega
  have b_d1 : d1 < 100 := by omega
  obtain ⟨e1d0, e2d0, e3d0, e4d0, e5d0, e6d0, e7d0⟩ := pairFacts d0 b_d0
  obtain ⟨e1d1, e2d1, e3d1, e4d1, e5d1, e6d1, e7d1⟩ := pairFacts d1 b_d1
  have bnd : yb < 1000000000 ∧ ya < 1000000000 ∧ d1 < 1000000000 ∧ d0 < 1000000000 := by omega
  obtain ⟨bb_yb, bb_ya, bb_d1, bb_d0⟩ := bnd
  have H_yb := hide h_yb
  have H_ya := hide h_ya
  have H_d1 := hide h_d1
  have H_d0 := hide h_d0
  clear h_yb h_ya h_d1 h_d0
  have HZ : Hid ((List.replicate 24 0).length = 24) := by show _ = _; simp
  generalize hzz : List.replicate 24 0 = z0 at hz
  have HZZ := hide hzz
  have hl0 : z0.length = 24 := by rw [← hzz]; simp
  have L0 := hide hl0
  clear hzz hl0 HZ
  obtain ⟨c1_0, g1_0⟩ := cell24 hz L0.out 3 (by omega)
  obtain ⟨c2_0, g2_0⟩ := cell24 hz L0.out 2 (by omega)
  have f1_0 := hz.frozen 3
  have f2_0 := hz.frozen 2
  go_enter Tryd.func69, Tryd.ntmps69
  go_wp2
  refine wp_loop_rounds 1 ?_
  rw [rounds_succ]
  go_wp2
  go_region
  generalize hw : World.drew (World.setCell (World.setCell w _ _) _ _) = w1
  obtain ⟨z1, hz1⟩ : ∃ t, t = (z0.set 3 (48 + d0 % 10)).set 2 (48 + d0 / 10) := ⟨_, rfl⟩
  have ho1 : Own w1 g .u8 74 z1 := by
    rw [← hw, hz1]
    exact (hz.put 3 (castn (sm_o d0 b_d0 _))).put 2 (castn (sm_e d0 b_d0 _))
  have hg1 : w.grownBy w1 (some g) := by
    rw [← hw]
    exact only_drew (only_setCell (only_setCell (World.grownBy.refl w (some g)) (.inl rfl) _) (.inl rfl) _)
  have hl1 : z1.length = 24 := by rw [hz1, List.length_set, List.length_set]; exact L0.out
  have L1 := hide hl1
  have Z1 := hide hz1
  clear hw hl1 hz1 g1_0 g2_0 f1_0 f2_0
  obtain ⟨c1_1, g1_1⟩ := cell24 ho1 L1.out 1 (by omega)
  obtain ⟨c2_1, g2_1⟩ := cell24 ho1 L1.out 0 (by omega)
  have f1_1 := ho1.frozen 1
  have f2_1 := ho1.frozen 0
  go_wp2
  go_region
  generalize hw : World.drew (World.setCell (World.setCell w1 _ _) _ _) = w2
  obtain ⟨z2, hz2⟩ : ∃ t, t = (z1.set 1 (48 + d1 % 10)).set 0 (48 + d1 / 10) := ⟨_, rfl⟩
  have ho2 : Own w2 g .u8 74 z2 := by
    rw [← hw, hz2]
    exact (ho1.put 1 (castn (sm_o d1 b_d1 _))).put 0 (castn (sm_e d1 b_d1 _))
  have hg2 : w.grownBy w2 (some g) := by
    rw [← hw]
    exact only_drew (only_setCell (only_setCell hg1 (.inl rfl) _) (.inl rfl) _)
  have hl2 : z2.length = 24 := by rw [hz2, List.length_set, List.length_set]; exact L1.out
  have L2 := hide hl2
  have Z2 := hide hz2
  clear hw hl2 hz2 g1_1 g2_1 f1_1 f2_1
  go_wp2
  refine bodyPost_end (results_none rfl _ _ _) rfl ?_
  have h_yb := H_yb.out
  have h_ya := H_ya.out
  have h_d1 := H_d1.out
  have h_d0 := H_d0.out
  refine ⟨rfl, hg2, z2, ho2, L2.out, ?_⟩
  rw [Z2.out, Z1.out, ← HZZ.out]
  show [48 + d1 / 10, 48 + d1 % 10, 48 + d0 / 10, 48 + d0 % 10] = [48 + x / 1000 % 10, 48 + x / 100 % 10, 48 + x / 10 % 10, 48 + x / 1 % 10]
  simp only [List.cons.injEq, and_true]
  omega
end Go.Proofs.YthkgiobemfnpmaaDoor
