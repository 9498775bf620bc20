/- The contract of natural.appendLimb. -/
import Derived.Test.YtoeknkakdoemfaaGreatDoorBaseB
import Derived.Deep.LoopGhost
import Derived.RegionTactic
import Derived.BigRegion
import Derived.IntWalk
namespace Go.Proofs.YtoeknkakdoemfaaGreatDoor
open Go Go.RowKit

theorem u8_info : (Tryz.prog.info? 5).map (fun i => (i.zero, i.size, i.bytes)) = some (some (.int .u8 0), 1, 1) := by kernel_rfl

/-- the first k of the nine digits of a limb, as bytes -/
def d9 (x k : Nat) : List Nat := (List.range k).map fun j => 48 + x / (10 ^ (9 - j) / 10) % 10
theorem d9_succ (x k : Nat) : d9 x (k + 1) = d9 x k ++ [48 + x / (10 ^ (9 - k) / 10) % 10] := by simp [d9, List.range_succ]
theorem unit_step {k : Nat} (h : k ≤ 8) : 10 ^ (9 - k) / 10 / 10 = 10 ^ (9 - (k + 1)) / 10 ∧ 1 ≤ 10 ^ (9 - k) / 10 ∧ 10 ^ (9 - k) / 10 ≤ 100000000 := by
  have e : 10 ^ (9 - k) / 10 = 10 ^ (8 - k) := by
    rw [show 9 - k = (8 - k) + 1 from by omega, Nat.pow_succ, Nat.mul_div_cancel _ (by decide)]
  refine ⟨by rw [e]; congr 2; omega, by rw [e]; exact Nat.one_le_pow _ _ (by decide), ?_⟩
  rw [e]
  have := Nat.pow_le_pow_right (show 0 < 10 by decide) (show 8 - k ≤ 8 by omega)
  exact this

/-- a row of bytes -/
def GivesRow (base : Nat) (bs : List Nat) (w : World) (e : Ending) (w' : World) : Prop :=
  ∃ A n c, e = .returned (.slice A n c) ∧ Row w' base .u8 5 A n c bs ∧ Below base w w' ∧ w.heap.size ≤ w'.heap.size

set_option maxHeartbeats 1000000 in
theorem appendLimb_any (base : Nat) (A : Option Addr) (n c : Nat) (bs : List Nat) (x : Nat) (w : World) (hb : base ≤ w.heap.size) (hr : Row w base .u8 5 A n c bs) (hN : n ≤ 100000000) (hx : x < 1000000000) :
    Calls Tryz.prog 90 #[.slice A n c, .int .u32 (x : Int)] w (GivesRow base (bs ++ d9 x 9) w) := by
  go_enter Tryz.func90, Tryz.ntmps90
  go_wp2
  go_loopg [0, 5] 9 (fun gk s t wr => ∃ (k U : Nat) (A : Option Addr) (m c : Nat), k + gk = 9 ∧ s = .slice A m c ∧ m = n + k ∧ t = .int .u32 (U : Int) ∧ U = 10 ^ (9 - k) / 10 ∧ Row wr base .u8 5 A m c (bs ++ d9 x k) ∧ Below base w wr ∧ w.heap.size ≤ wr.heap.size)
  case atStart => exact ⟨0, 100000000, A, n, c, rfl, rfl, rfl, rfl, by decide, by simpa [d9] using hr, Below.refl _ _, Nat.le_refl _⟩
  case round =>
    obtain ⟨k, U, A, m, c, hk, rfl, hm, rfl, hU, hrow, hbel, hsz⟩ := hrel
    have HM := hide hm
    have hmb : m ≤ 100000009 := by omega
    by_cases h9 : k = 9
    · have hU0 : U = 0 := by rw [hU, h9]
      have HK := hide h9
      subst hU0
      clear hm hU hk h9
      go_wp2
      go_ret
      refine ⟨A, m, c, rfl, ?_, hbel, hsz⟩
      rw [← HK.out]; exact hrow
    · obtain ⟨u1, u2, u3⟩ := unit_step (k := k) (by omega)
      rw [← hU] at u1 u2 u3
      obtain ⟨Q, hQ⟩ : ∃ Q, Q = x / U := ⟨_, rfl⟩
      have hQb : Q < 1000000000 := by rw [hQ]; exact Nat.lt_of_le_of_lt (Nat.div_le_self _ _) hx
      have hq : (x : Int) / (U : Int) = (Q : Int) := by rw [cast_div, hQ]
      have HN := hide (show d9 x (k + 1) = d9 x k ++ [48 + Q % 10] from by rw [d9_succ, ← hU, ← hQ])
      have HU := hide u1
      have HK := hide (show k + 1 + (gk - 1) = 9 from by omega)
      have hgk : 1 ≤ gk := by omega
      have hbs : base ≤ wr.heap.size := by omega
      clear hm hU hk hQ u1 h9
      go_wp2_with (at_builtin; refine wpList_append_rl _ rfl _ _ 75 rfl base 5 .u8 1 Tryz.underlying75 u8_info A m c _ rfl (hrow.alloc _) (some ⟨wr.heap.size, 0, none⟩) 1 1 [48 + Q % 10] rfl (RL.one wr .u8 5 (by omega)) (by omega) (m + 1) rfl (by omega) (by simp; omega) ?_; intro A' c' w1 hrow1 hbel1 hsz1)
      go_roundg (gk - 1)
      case measure => omega
      case rel =>
        refine ⟨k + 1, U / 10, A', m + 1, c', HK.out, rfl, by have := HM.out; omega, by go_num, HU.out, ?_, (hbel.alloc hbs _).trans hbel1, by have := hsz1; simp at this; omega⟩
        rw [HN.out, ← List.append_assoc]
        exact hrow1
end Go.Proofs.YtoeknkakdoemfaaGreatDoor

/- The contract of formatBase10, for 3 to 9 digits. -/
namespace Go.Proofs.YtoeknkakdoemfaaGreatDoor
open Go Go.RowKit

/-- the two digits of the numbers below 100 -/
def SM : ByteArray := ⟨#[48, 48, 48, 49, 48, 50, 48, 51, 48, 52, 48, 53, 48, 54, 48, 55, 48, 56, 48, 57, 49, 48, 49, 49, 49, 50, 49, 51, 49, 52, 49, 53, 49, 54, 49, 55, 49, 56, 49, 57, 50, 48, 50, 49, 50, 50, 50, 51, 50, 52, 50, 53, 50, 54, 50, 55, 50, 56, 50, 57, 51, 48, 51, 49, 51, 50, 51, 51, 51, 52, 51, 53, 51, 54, 51, 55, 51, 56, 51, 57, 52, 48, 52, 49, 52, 50, 52, 51, 52, 52, 52, 53, 52, 54, 52, 55, 52, 56, 52, 57, 53, 48, 53, 49, 53, 50, 53, 51, 53, 52, 53, 53, 53, 54, 53, 55, 53, 56, 53, 57, 54, 48, 54, 49, 54, 50, 54, 51, 54, 52, 54, 53, 54, 54, 54, 55, 54, 56, 54, 57, 55, 48, 55, 49, 55, 50, 55, 51, 55, 52, 55, 53, 55, 54, 55, 55, 55, 56, 55, 57, 56, 48, 56, 49, 56, 50, 56, 51, 56, 52, 56, 53, 56, 54, 56, 55, 56, 56, 56, 57, 57, 48, 57, 49, 57, 50, 57, 51, 57, 52, 57, 53, 57, 54, 57, 55, 57, 56, 57, 57]⟩
theorem sm_size : SM.size = 200 := by decide +kernel
theorem sm_even : ∀ d < 100, (SM.data.getD (d * 2) 0).toNat = 48 + d / 10 := by decide +kernel
theorem sm_odd : ∀ d < 100, (SM.data.getD (d * 2 + 1) 0).toNat = 48 + d % 10 := by decide +kernel
theorem ba_get (s : ByteArray) (i : Nat) (h : i < s.size) : s[i].toNat = (s.data.getD i 0).toNat := by
  have h' : i < s.data.size := h
  rw [Array.getD_eq_getD_getElem?, Array.getElem?_eq_getElem h']; rfl
theorem sm_e (d : Nat) (hd : d < 100) (h : d * 2 < SM.size) : SM[d * 2].toNat = 48 + d / 10 := by rw [ba_get SM _ h, sm_even d hd]
theorem sm_o (d : Nat) (hd : d < 100) (h : d * 2 + 1 < SM.size) : SM[d * 2 + 1].toNat = 48 + d % 10 := by rw [ba_get SM _ h, sm_odd d hd]
theorem castn {a b : Nat} (h : a = b) : (a : Int) = (b : Int) := by rw [h]

/-- the facts on an index of the two digits of d -/
theorem pairFacts (d : Nat) (hd : d < 100) : IntKind.u32.wrap ((d : Int) * 2 + 1) = (d : Int) * 2 + 1 ∧ ((d : Int) * 2 + 1).toNat = d * 2 + 1 ∧ ((d : Int) * 2).toNat = d * 2 ∧ (d : Int) * 2 + 1 < 200 ∧ (d : Int) * 2 < 200 ∧ 0 ≤ (d : Int) * 2 + 1 ∧ 0 ≤ (d : Int) * 2 :=
  ⟨IntWalk.u32_in _ (by omega), by omega, by omega, by omega, by omega, by omega, by omega⟩

/-- n decimal digits of x, as bytes, the greatest first -/
def dec (n x : Nat) : List Nat := (List.range n).map fun j => 48 + x / 10 ^ (n - 1 - j) % 10
/-- what formatBase10 leaves -/
def Fmted (n x g : Nat) (w : World) (e : Ending) (w' : World) : Prop :=
  e = .returned (.tuple #[]) ∧ w.grownBy w' (some g) ∧ ∃ zs, Own w' g .u8 131 zs ∧ zs.length = 24 ∧ zs.take n = dec n x
theorem cell24 {w : World} {g : Nat} {zs : List Nat} (hz : Own w g .u8 131 zs) (hl : zs.length = 24) (j : Nat) (hj : j < 24) : ∃ z : Nat, w.cell? ⟨g, j, none⟩ = some (.int .u8 (z : Int)) :=
  ⟨zs[j]'(by omega), hz.cell (List.getElem?_eq_getElem (by omega))⟩

set_option maxHeartbeats 4000000 in
set_option maxRecDepth 100000 in
theorem fmt3 (g : Nat) (x : Nat) (w : World) (hz : Own w g .u8 131 (List.replicate 24 0)) (h1 : 100 ≤ x) (h2 : x < 1000) :
    Calls Tryz.prog 127 #[.slice (some ⟨g, 0, none⟩) 3 24, .int .u64 (x : Int)] w (Fmted 3 x g w) := by
  obtain ⟨d0, h_d0⟩ : ∃ t, t = x % 100 := ⟨_, rfl⟩
  have e_d0 : (x : Int) % 100 = (d0 : Int) := by omega
  obtain ⟨ya, h_ya⟩ : ∃ t, t = x / 100 := ⟨_, rfl⟩
  have e_ya : (x : Int) / 100 = (ya : Int) := by omega
  have b_d0 : d0 < 100 := by omega
  have b_l : ya < 10 := by omega
  obtain ⟨e1d0, e2d0, e3d0, e4d0, e5d0, e6d0, e7d0⟩ := pairFacts d0 b_d0
  have bnd : d0 < 1000000000 ∧ ya < 1000000000 := by omega
  obtain ⟨bb_d0, bb_ya⟩ := bnd
  have H_d0 := hide h_d0
  have H_ya := hide h_ya
  clear h_d0 h_ya
  have HZ : Hid ((List.replicate 24 0).length = 24) := by show _ = _; simp
  generalize hzz : List.replicate 24 0 = z0 at hz
  have HZZ := hide hzz
  have hl0 : z0.length = 24 := by rw [← hzz]; simp
  have L0 := hide hl0
  clear hzz hl0 HZ
  obtain ⟨c1_0, g1_0⟩ := cell24 hz L0.out 2 (by omega)
  obtain ⟨c2_0, g2_0⟩ := cell24 hz L0.out 1 (by omega)
  have f1_0 := hz.frozen 2
  have f2_0 := hz.frozen 1
  go_enter Tryz.func127, Tryz.ntmps127
  go_wp2
  refine wp_loop_rounds 1 ?_
  rw [rounds_succ]
  go_wp2
  go_region
  generalize hw : World.drew (World.setCell (World.setCell w _ _) _ _) = w1
  obtain ⟨z1, hz1⟩ : ∃ t, t = (z0.set 2 (48 + d0 % 10)).set 1 (48 + d0 / 10) := ⟨_, rfl⟩
  have ho1 : Own w1 g .u8 131 z1 := by
    rw [← hw, hz1]
    exact (hz.put 2 (castn (sm_o d0 b_d0 _))).put 1 (castn (sm_e d0 b_d0 _))
  have hg1 : w.grownBy w1 (some g) := by
    rw [← hw]
    exact only_drew (only_setCell (only_setCell (World.grownBy.refl w (some g)) (.inl rfl) _) (.inl rfl) _)
  have hl1 : z1.length = 24 := by rw [hz1, List.length_set, List.length_set]; exact L0.out
  have L1 := hide hl1
  have Z1 := hide hz1
  clear hw hl1 hz1 g1_0 g2_0 f1_0 f2_0
  obtain ⟨cl, gl⟩ := cell24 ho1 L1.out 0 (by omega)
  have fl := ho1.frozen 0
  go_wp2
  refine bodyPost_end (results_none rfl _ _ _) rfl ?_
  have h_d0 := H_d0.out
  have h_ya := H_ya.out
  refine ⟨rfl, only_setCell hg1 (.inl rfl) _, z1.set 0 (48 + ya), ho1.put 0 (by omega), by rw [List.length_set]; exact L1.out, ?_⟩
  rw [Z1.out, ← HZZ.out]
  show [48 + ya, 48 + d0 / 10, 48 + d0 % 10] = [48 + x / 100 % 10, 48 + x / 10 % 10, 48 + x / 1 % 10]
  simp only [List.cons.injEq, and_true]
  omega
set_option maxHeartbeats 4000000 in
set_option maxRecDepth 100000 in
theorem fmt4 (g : Nat) (x : Nat) (w : World) (hz : Own w g .u8 131 (List.replicate 24 0)) (h1 : 1000 ≤ x) (h2 : x < 10000) :
    Calls Tryz.prog 127 #[.slice (some ⟨g, 0, none⟩) 4 24, .int .u64 (x : Int)] w (Fmted 4 x g w) := by
  obtain ⟨yb, h_yb⟩ : ∃ t, t = x % 10000 := ⟨_, rfl⟩
  have e_yb : (x : Int) % 10000 = (yb : Int) := by omega
  obtain ⟨ya, h_ya⟩ : ∃ t, t = x / 10000 := ⟨_, rfl⟩
  have e_ya : (x : Int) / 10000 = (ya : Int) := by omega
  obtain ⟨d1, h_d1⟩ : ∃ t, t = yb / 100 := ⟨_, rfl⟩
  have e_d1 : (yb : Int) / 100 = (d1 : Int) := by omega
  obtain ⟨d0, h_d0⟩ : ∃ t, t = yb % 100 := ⟨_, rfl⟩
  have e_d0 : (yb : Int) % 100 = (d0 : Int) := by omega
  have b_d0 : d0 < 100 := by omega
  have b_d1 : d1 < 100 := by omega
  obtain ⟨e1d0, e2d0, e3d0, e4d0, e5d0, e6d0, e7d0⟩ := pairFacts d0 b_d0
  obtain ⟨e1d1, e2d1, e3d1, e4d1, e5d1, e6d1, e7d1⟩ := pairFacts d1 b_d1
  have bnd : yb < 1000000000 ∧ ya < 1000000000 ∧ d1 < 1000000000 ∧ d0 < 1000000000 := by omega
  obtain ⟨bb_yb, bb_ya, bb_d1, bb_d0⟩ := bnd
  have H_yb := hide h_yb
  have H_ya := hide h_ya
  have H_d1 := hide h_d1
  have H_d0 := hide h_d0
  clear h_yb h_ya h_d1 h_d0
  have HZ : Hid ((List.replicate 24 0).length = 24) := by show _ = _; simp
  generalize hzz : List.replicate 24 0 = z0 at hz
  have HZZ := hide hzz
  have hl0 : z0.length = 24 := by rw [← hzz]; simp
  have L0 := hide hl0
  clear hzz hl0 HZ
  obtain ⟨c1_0, g1_0⟩ := cell24 hz L0.out 3 (by omega)
  obtain ⟨c2_0, g2_0⟩ := cell24 hz L0.out 2 (by omega)
  have f1_0 := hz.frozen 3
  have f2_0 := hz.frozen 2
  go_enter Tryz.func127, Tryz.ntmps127
  go_wp2
  refine wp_loop_rounds 1 ?_
  rw [rounds_succ]
  go_wp2
  go_region
  generalize hw : World.drew (World.setCell (World.setCell w _ _) _ _) = w1
  obtain ⟨z1, hz1⟩ : ∃ t, t = (z0.set 3 (48 + d0 % 10)).set 2 (48 + d0 / 10) := ⟨_, rfl⟩
  have ho1 : Own w1 g .u8 131 z1 := by
    rw [← hw, hz1]
    exact (hz.put 3 (castn (sm_o d0 b_d0 _))).put 2 (castn (sm_e d0 b_d0 _))
  have hg1 : w.grownBy w1 (some g) := by
    rw [← hw]
    exact only_drew (only_setCell (only_setCell (World.grownBy.refl w (some g)) (.inl rfl) _) (.inl rfl) _)
  have hl1 : z1.length = 24 := by rw [hz1, List.length_set, List.length_set]; exact L0.out
  have L1 := hide hl1
  have Z1 := hide hz1
  clear hw hl1 hz1 g1_0 g2_0 f1_0 f2_0
  obtain ⟨c1_1, g1_1⟩ := cell24 ho1 L1.out 1 (by omega)
  obtain ⟨c2_1, g2_1⟩ := cell24 ho1 L1.out 0 (by omega)
  have f1_1 := ho1.frozen 1
  have f2_1 := ho1.frozen 0
  go_wp2
  go_region
  generalize hw : World.drew (World.setCell (World.setCell w1 _ _) _ _) = w2
  obtain ⟨z2, hz2⟩ : ∃ t, t = (z1.set 1 (48 + d1 % 10)).set 0 (48 + d1 / 10) := ⟨_, rfl⟩
  have ho2 : Own w2 g .u8 131 z2 := by
    rw [← hw, hz2]
    exact (ho1.put 1 (castn (sm_o d1 b_d1 _))).put 0 (castn (sm_e d1 b_d1 _))
  have hg2 : w.grownBy w2 (some g) := by
    rw [← hw]
    exact only_drew (only_setCell (only_setCell hg1 (.inl rfl) _) (.inl rfl) _)
  have hl2 : z2.length = 24 := by rw [hz2, List.length_set, List.length_set]; exact L1.out
  have L2 := hide hl2
  have Z2 := hide hz2
  clear hw hl2 hz2 g1_1 g2_1 f1_1 f2_1
  go_wp2
  refine bodyPost_end (results_none rfl _ _ _) rfl ?_
  have h_yb := H_yb.out
  have h_ya := H_ya.out
  have h_d1 := H_d1.out
  have h_d0 := H_d0.out
  refine ⟨rfl, hg2, z2, ho2, L2.out, ?_⟩
  rw [Z2.out, Z1.out, ← HZZ.out]
  show [48 + d1 / 10, 48 + d1 % 10, 48 + d0 / 10, 48 + d0 % 10] = [48 + x / 1000 % 10, 48 + x / 100 % 10, 48 + x / 10 % 10, 48 + x / 1 % 10]
  simp only [List.cons.injEq, and_true]
  omega
end Go.Proofs.YtoeknkakdoemfaaGreatDoor

/- The contract of formatBase10: 5, 6 digits. -/
namespace Go.Proofs.YtoeknkakdoemfaaGreatDoor
open Go Go.RowKit

set_option maxHeartbeats 4000000 in
set_option maxRecDepth 100000 in
theorem fmt5 (g : Nat) (x : Nat) (w : World) (hz : Own w g .u8 131 (List.replicate 24 0)) (h1 : 10000 ≤ x) (h2 : x < 100000) :
    Calls Tryz.prog 127 #[.slice (some ⟨g, 0, none⟩) 5 24, .int .u64 (x : Int)] w (Fmted 5 x g w) := by
  obtain ⟨yb, h_yb⟩ : ∃ t, t = x % 10000 := ⟨_, rfl⟩
  have e_yb : (x : Int) % 10000 = (yb : Int) := by omega
  obtain ⟨ya, h_ya⟩ : ∃ t, t = x / 10000 := ⟨_, rfl⟩
  have e_ya : (x : Int) / 10000 = (ya : Int) := by omega
  obtain ⟨d1, h_d1⟩ : ∃ t, t = yb / 100 := ⟨_, rfl⟩
  have e_d1 : (yb : Int) / 100 = (d1 : Int) := by omega
  obtain ⟨d0, h_d0⟩ : ∃ t, t = yb % 100 := ⟨_, rfl⟩
  have e_d0 : (yb : Int) % 100 = (d0 : Int) := by omega
  have b_d0 : d0 < 100 := by omega
  have b_d1 : d1 < 100 := by omega
  have b_l : ya < 10 := by omega
  obtain ⟨e1d0, e2d0, e3d0, e4d0, e5d0, e6d0, e7d0⟩ := pairFacts d0 b_d0
  obtain ⟨e1d1, e2d1, e3d1, e4d1, e5d1, e6d1, e7d1⟩ := pairFacts d1 b_d1
  have bnd : yb < 1000000000 ∧ ya < 1000000000 ∧ d1 < 1000000000 ∧ d0 < 1000000000 := by omega
  obtain ⟨bb_yb, bb_ya, bb_d1, bb_d0⟩ := bnd
  have H_yb := hide h_yb
  have H_ya := hide h_ya
  have H_d1 := hide h_d1
  have H_d0 := hide h_d0
  clear h_yb h_ya h_d1 h_d0
  have HZ : Hid ((List.replicate 24 0).length = 24) := by show _ = _; simp
  generalize hzz : List.replicate 24 0 = z0 at hz
  have HZZ := hide hzz
  have hl0 : z0.length = 24 := by rw [← hzz]; simp
  have L0 := hide hl0
  clear hzz hl0 HZ
  obtain ⟨c1_0, g1_0⟩ := cell24 hz L0.out 4 (by omega)
  obtain ⟨c2_0, g2_0⟩ := cell24 hz L0.out 3 (by omega)
  have f1_0 := hz.frozen 4
  have f2_0 := hz.frozen 3
  go_enter Tryz.func127, Tryz.ntmps127
  go_wp2
  refine wp_loop_rounds 1 ?_
  rw [rounds_succ]
  go_wp2
  go_region
  generalize hw : World.drew (World.setCell (World.setCell w _ _) _ _) = w1
  obtain ⟨z1, hz1⟩ : ∃ t, t = (z0.set 4 (48 + d0 % 10)).set 3 (48 + d0 / 10) := ⟨_, rfl⟩
  have ho1 : Own w1 g .u8 131 z1 := by
    rw [← hw, hz1]
    exact (hz.put 4 (castn (sm_o d0 b_d0 _))).put 3 (castn (sm_e d0 b_d0 _))
  have hg1 : w.grownBy w1 (some g) := by
    rw [← hw]
    exact only_drew (only_setCell (only_setCell (World.grownBy.refl w (some g)) (.inl rfl) _) (.inl rfl) _)
  have hl1 : z1.length = 24 := by rw [hz1, List.length_set, List.length_set]; exact L0.out
  have L1 := hide hl1
  have Z1 := hide hz1
  clear hw hl1 hz1 g1_0 g2_0 f1_0 f2_0
  obtain ⟨c1_1, g1_1⟩ := cell24 ho1 L1.out 2 (by omega)
  obtain ⟨c2_1, g2_1⟩ := cell24 ho1 L1.out 1 (by omega)
  have f1_1 := ho1.frozen 2
  have f2_1 := ho1.frozen 1
  go_wp2
  go_region
  generalize hw : World.drew (World.setCell (World.setCell w1 _ _) _ _) = w2
  obtain ⟨z2, hz2⟩ : ∃ t, t = (z1.set 2 (48 + d1 % 10)).set 1 (48 + d1 / 10) := ⟨_, rfl⟩
  have ho2 : Own w2 g .u8 131 z2 := by
    rw [← hw, hz2]
    exact (ho1.put 2 (castn (sm_o d1 b_d1 _))).put 1 (castn (sm_e d1 b_d1 _))
  have hg2 : w.grownBy w2 (some g) := by
    rw [← hw]
    exact only_drew (only_setCell (only_setCell hg1 (.inl rfl) _) (.inl rfl) _)
  have hl2 : z2.length = 24 := by rw [hz2, List.length_set, List.length_set]; exact L1.out
  have L2 := hide hl2
  have Z2 := hide hz2
  clear hw hl2 hz2 g1_1 g2_1 f1_1 f2_1
  obtain ⟨cl, gl⟩ := cell24 ho2 L2.out 0 (by omega)
  have fl := ho2.frozen 0
  go_wp2
  refine bodyPost_end (results_none rfl _ _ _) rfl ?_
  have h_yb := H_yb.out
  have h_ya := H_ya.out
  have h_d1 := H_d1.out
  have h_d0 := H_d0.out
  refine ⟨rfl, only_setCell hg2 (.inl rfl) _, z2.set 0 (48 + ya), ho2.put 0 (by omega), by rw [List.length_set]; exact L2.out, ?_⟩
  rw [Z2.out, Z1.out, ← HZZ.out]
  show [48 + ya, 48 + d1 / 10, 48 + d1 % 10, 48 + d0 / 10, 48 + d0 % 10] = [48 + x / 10000 % 10, 48 + x / 1000 % 10, 48 + x / 100 % 10, 48 + x / 10 % 10, 48 + x / 1 % 10]
  simp only [List.cons.injEq, and_true]
  omega
set_option maxHeartbeats 4000000 in
set_option maxRecDepth 100000 in
theorem fmt6 (g : Nat) (x : Nat) (w : World) (hz : Own w g .u8 131 (List.replicate 24 0)) (h1 : 100000 ≤ x) (h2 : x < 1000000) :
    Calls Tryz.prog 127 #[.slice (some ⟨g, 0, none⟩) 6 24, .int .u64 (x : Int)] w (Fmted 6 x g w) := by
  obtain ⟨yb, h_yb⟩ : ∃ t, t = x % 10000 := ⟨_, rfl⟩
  have e_yb : (x : Int) % 10000 = (yb : Int) := by omega
  obtain ⟨ya, h_ya⟩ : ∃ t, t = x / 10000 := ⟨_, rfl⟩
  have e_ya : (x : Int) / 10000 = (ya : Int) := by omega
  obtain ⟨d1, h_d1⟩ : ∃ t, t = yb / 100 := ⟨_, rfl⟩
  have e_d1 : (yb : Int) / 100 = (d1 : Int) := by omega
  obtain ⟨d0, h_d0⟩ : ∃ t, t = yb % 100 := ⟨_, rfl⟩
  have e_d0 : (yb : Int) % 100 = (d0 : Int) := by omega
  obtain ⟨d2, h_d2⟩ : ∃ t, t = ya % 100 := ⟨_, rfl⟩
  have e_d2 : (ya : Int) % 100 = (d2 : Int) := by omega
  obtain ⟨yc, h_yc⟩ : ∃ t, t = ya / 100 := ⟨_, rfl⟩
  have e_yc : (ya : Int) / 100 = (yc : Int) := by omega
  have b_d0 : d0 < 100 := by omega
  have b_d1 : d1 < 100 := by omega
  have b_d2 : d2 < 100 := by omega
  obtain ⟨e1d0, e2d0, e3d0, e4d0, e5d0, e6d0, e7d0⟩ := pairFacts d0 b_d0
  obtain ⟨e1d1, e2d1, e3d1, e4d1, e5d1, e6d1, e7d1⟩ := pairFacts d1 b_d1
  obtain ⟨e1d2, e2d2, e3d2, e4d2, e5d2, e6d2, e7d2⟩ := pairFacts d2 b_d2
  have bnd : yb < 1000000000 ∧ ya < 1000000000 ∧ d1 < 1000000000 ∧ d0 < 1000000000 ∧ d2 < 1000000000 ∧ yc < 1000000000 := by omega
  obtain ⟨bb_yb, bb_ya, bb_d1, bb_d0, bb_d2, bb_yc⟩ := bnd
  have H_yb := hide h_yb
  have H_ya := hide h_ya
  have H_d1 := hide h_d1
  have H_d0 := hide h_d0
  have H_d2 := hide h_d2
  have H_yc := hide h_yc
  clear h_yb h_ya h_d1 h_d0 h_d2 h_yc
  have HZ : Hid ((List.replicate 24 0).length = 24) := by show _ = _; simp
  generalize hzz : List.replicate 24 0 = z0 at hz
  have HZZ := hide hzz
  have hl0 : z0.length = 24 := by rw [← hzz]; simp
  have L0 := hide hl0
  clear hzz hl0 HZ
  obtain ⟨c1_0, g1_0⟩ := cell24 hz L0.out 5 (by omega)
  obtain ⟨c2_0, g2_0⟩ := cell24 hz L0.out 4 (by omega)
  have f1_0 := hz.frozen 5
  have f2_0 := hz.frozen 4
  go_enter Tryz.func127, Tryz.ntmps127
  go_wp2
  refine wp_loop_rounds 1 ?_
  rw [rounds_succ]
  go_wp2
  go_region
  generalize hw : World.drew (World.setCell (World.setCell w _ _) _ _) = w1
  obtain ⟨z1, hz1⟩ : ∃ t, t = (z0.set 5 (48 + d0 % 10)).set 4 (48 + d0 / 10) := ⟨_, rfl⟩
  have ho1 : Own w1 g .u8 131 z1 := by
    rw [← hw, hz1]
    exact (hz.put 5 (castn (sm_o d0 b_d0 _))).put 4 (castn (sm_e d0 b_d0 _))
  have hg1 : w.grownBy w1 (some g) := by
    rw [← hw]
    exact only_drew (only_setCell (only_setCell (World.grownBy.refl w (some g)) (.inl rfl) _) (.inl rfl) _)
  have hl1 : z1.length = 24 := by rw [hz1, List.length_set, List.length_set]; exact L0.out
  have L1 := hide hl1
  have Z1 := hide hz1
  clear hw hl1 hz1 g1_0 g2_0 f1_0 f2_0
  obtain ⟨c1_1, g1_1⟩ := cell24 ho1 L1.out 3 (by omega)
  obtain ⟨c2_1, g2_1⟩ := cell24 ho1 L1.out 2 (by omega)
  have f1_1 := ho1.frozen 3
  have f2_1 := ho1.frozen 2
  go_wp2
  go_region
  generalize hw : World.drew (World.setCell (World.setCell w1 _ _) _ _) = w2
  obtain ⟨z2, hz2⟩ : ∃ t, t = (z1.set 3 (48 + d1 % 10)).set 2 (48 + d1 / 10) := ⟨_, rfl⟩
  have ho2 : Own w2 g .u8 131 z2 := by
    rw [← hw, hz2]
    exact (ho1.put 3 (castn (sm_o d1 b_d1 _))).put 2 (castn (sm_e d1 b_d1 _))
  have hg2 : w.grownBy w2 (some g) := by
    rw [← hw]
    exact only_drew (only_setCell (only_setCell hg1 (.inl rfl) _) (.inl rfl) _)
  have hl2 : z2.length = 24 := by rw [hz2, List.length_set, List.length_set]; exact L1.out
  have L2 := hide hl2
  have Z2 := hide hz2
  clear hw hl2 hz2 g1_1 g2_1 f1_1 f2_1
  obtain ⟨c1_2, g1_2⟩ := cell24 ho2 L2.out 1 (by omega)
  obtain ⟨c2_2, g2_2⟩ := cell24 ho2 L2.out 0 (by omega)
  have f1_2 := ho2.frozen 1
  have f2_2 := ho2.frozen 0
  go_wp2
  go_region
  generalize hw : World.drew (World.setCell (World.setCell w2 _ _) _ _) = w3
  obtain ⟨z3, hz3⟩ : ∃ t, t = (z2.set 1 (48 + d2 % 10)).set 0 (48 + d2 / 10) := ⟨_, rfl⟩
  have ho3 : Own w3 g .u8 131 z3 := by
    rw [← hw, hz3]
    exact (ho2.put 1 (castn (sm_o d2 b_d2 _))).put 0 (castn (sm_e d2 b_d2 _))
  have hg3 : w.grownBy w3 (some g) := by
    rw [← hw]
    exact only_drew (only_setCell (only_setCell hg2 (.inl rfl) _) (.inl rfl) _)
  have hl3 : z3.length = 24 := by rw [hz3, List.length_set, List.length_set]; exact L2.out
  have L3 := hide hl3
  have Z3 := hide hz3
  clear hw hl3 hz3 g1_2 g2_2 f1_2 f2_2
  go_wp2
  refine bodyPost_end (results_none rfl _ _ _) rfl ?_
  have h_yb := H_yb.out
  have h_ya := H_ya.out
  have h_d1 := H_d1.out
  have h_d0 := H_d0.out
  have h_d2 := H_d2.out
  have h_yc := H_yc.out
  refine ⟨rfl, hg3, z3, ho3, L3.out, ?_⟩
  rw [Z3.out, Z2.out, Z1.out, ← HZZ.out]
  show [48 + d2 / 10, 48 + d2 % 10, 48 + d1 / 10, 48 + d1 % 10, 48 + d0 / 10, 48 + d0 % 10] = [48 + x / 100000 % 10, 48 + x / 10000 % 10, 48 + x / 1000 % 10, 48 + x / 100 % 10, 48 + x / 10 % 10, 48 + x / 1 % 10]
  simp only [List.cons.injEq, and_true]
  omega
end Go.Proofs.YtoeknkakdoemfaaGreatDoor

/- The contract of formatBase10: 7 digits. -/
namespace Go.Proofs.YtoeknkakdoemfaaGreatDoor
open Go Go.RowKit

set_option maxHeartbeats 4000000 in
set_option maxRecDepth 100000 in
theorem fmt7 (g : Nat) (x : Nat) (w : World) (hz : Own w g .u8 131 (List.replicate 24 0)) (h1 : 1000000 ≤ x) (h2 : x < 10000000) :
    Calls Tryz.prog 127 #[.slice (some ⟨g, 0, none⟩) 7 24, .int .u64 (x : Int)] w (Fmted 7 x g w) := by
  obtain ⟨yb, h_yb⟩ : ∃ t, t = x % 10000 := ⟨_, rfl⟩
  have e_yb : (x : Int) % 10000 = (yb : Int) := by omega
  obtain ⟨ya, h_ya⟩ : ∃ t, t = x / 10000 := ⟨_, rfl⟩
  have e_ya : (x : Int) / 10000 = (ya : Int) := by omega
  obtain ⟨d1, h_d1⟩ : ∃ t, t = yb / 100 := ⟨_, rfl⟩
  have e_d1 : (yb : Int) / 100 = (d1 : Int) := by omega
  obtain ⟨d0, h_d0⟩ : ∃ t, t = yb % 100 := ⟨_, rfl⟩
  have e_d0 : (yb : Int) % 100 = (d0 : Int) := by omega
  obtain ⟨d2, h_d2⟩ : ∃ t, t = ya % 100 := ⟨_, rfl⟩
  have e_d2 : (ya : Int) % 100 = (d2 : Int) := by omega
  obtain ⟨yc, h_yc⟩ : ∃ t, t = ya / 100 := ⟨_, rfl⟩
  have e_yc : (ya : Int) / 100 = (yc : Int) := by omega
  have b_d0 : d0 < 100 := by omega
  have b_d1 : d1 < 100 := by omega
  have b_d2 : d2 < 100 := by omega
  have b_l : yc < 10 := by omega
  obtain ⟨e1d0, e2d0, e3d0, e4d0, e5d0, e6d0, e7d0⟩ := pairFacts d0 b_d0
  obtain ⟨e1d1, e2d1, e3d1, e4d1, e5d1, e6d1, e7d1⟩ := pairFacts d1 b_d1
  obtain ⟨e1d2, e2d2, e3d2, e4d2, e5d2, e6d2, e7d2⟩ := pairFacts d2 b_d2
  have bnd : yb < 1000000000 ∧ ya < 1000000000 ∧ d1 < 1000000000 ∧ d0 < 1000000000 ∧ d2 < 1000000000 ∧ yc < 1000000000 := by omega
  obtain ⟨bb_yb, bb_ya, bb_d1, bb_d0, bb_d2, bb_yc⟩ := bnd
  have H_yb := hide h_yb
  have H_ya := hide h_ya
  have H_d1 := hide h_d1
  have H_d0 := hide h_d0
  have H_d2 := hide h_d2
  have H_yc := hide h_yc
  clear h_yb h_ya h_d1 h_d0 h_d2 h_yc
  have HZ : Hid ((List.replicate 24 0).length = 24) := by show _ = _; simp
  generalize hzz : List.replicate 24 0 = z0 at hz
  have HZZ := hide hzz
  have hl0 : z0.length = 24 := by rw [← hzz]; simp
  have L0 := hide hl0
  clear hzz hl0 HZ
  obtain ⟨c1_0, g1_0⟩ := cell24 hz L0.out 6 (by omega)
  obtain ⟨c2_0, g2_0⟩ := cell24 hz L0.out 5 (by omega)
  have f1_0 := hz.frozen 6
  have f2_0 := hz.frozen 5
  go_enter Tryz.func127, Tryz.ntmps127
  go_wp2
  refine wp_loop_rounds 1 ?_
  rw [rounds_succ]
  go_wp2
  go_region
  generalize hw : World.drew (World.setCell (World.setCell w _ _) _ _) = w1
  obtain ⟨z1, hz1⟩ : ∃ t, t = (z0.set 6 (48 + d0 % 10)).set 5 (48 + d0 / 10) := ⟨_, rfl⟩
  have ho1 : Own w1 g .u8 131 z1 := by
    rw [← hw, hz1]
    exact (hz.put 6 (castn (sm_o d0 b_d0 _))).put 5 (castn (sm_e d0 b_d0 _))
  have hg1 : w.grownBy w1 (some g) := by
    rw [← hw]
    exact only_drew (only_setCell (only_setCell (World.grownBy.refl w (some g)) (.inl rfl) _) (.inl rfl) _)
  have hl1 : z1.length = 24 := by rw [hz1, List.length_set, List.length_set]; exact L0.out
  have L1 := hide hl1
  have Z1 := hide hz1
  clear hw hl1 hz1 g1_0 g2_0 f1_0 f2_0
  obtain ⟨c1_1, g1_1⟩ := cell24 ho1 L1.out 4 (by omega)
  obtain ⟨c2_1, g2_1⟩ := cell24 ho1 L1.out 3 (by omega)
  have f1_1 := ho1.frozen 4
  have f2_1 := ho1.frozen 3
  go_wp2
  go_region
  generalize hw : World.drew (World.setCell (World.setCell w1 _ _) _ _) = w2
  obtain ⟨z2, hz2⟩ : ∃ t, t = (z1.set 4 (48 + d1 % 10)).set 3 (48 + d1 / 10) := ⟨_, rfl⟩
  have ho2 : Own w2 g .u8 131 z2 := by
    rw [← hw, hz2]
    exact (ho1.put 4 (castn (sm_o d1 b_d1 _))).put 3 (castn (sm_e d1 b_d1 _))
  have hg2 : w.grownBy w2 (some g) := by
    rw [← hw]
    exact only_drew (only_setCell (only_setCell hg1 (.inl rfl) _) (.inl rfl) _)
  have hl2 : z2.length = 24 := by rw [hz2, List.length_set, List.length_set]; exact L1.out
  have L2 := hide hl2
  have Z2 := hide hz2
  clear hw hl2 hz2 g1_1 g2_1 f1_1 f2_1
  obtain ⟨c1_2, g1_2⟩ := cell24 ho2 L2.out 2 (by omega)
  obtain ⟨c2_2, g2_2⟩ := cell24 ho2 L2.out 1 (by omega)
  have f1_2 := ho2.frozen 2
  have f2_2 := ho2.frozen 1
  go_wp2
  go_region
  generalize hw : World.drew (World.setCell (World.setCell w2 _ _) _ _) = w3
  obtain ⟨z3, hz3⟩ : ∃ t, t = (z2.set 2 (48 + d2 % 10)).set 1 (48 + d2 / 10) := ⟨_, rfl⟩
  have ho3 : Own w3 g .u8 131 z3 := by
    rw [← hw, hz3]
    exact (ho2.put 2 (castn (sm_o d2 b_d2 _))).put 1 (castn (sm_e d2 b_d2 _))
  have hg3 : w.grownBy w3 (some g) := by
    rw [← hw]
    exact only_drew (only_setCell (only_setCell hg2 (.inl rfl) _) (.inl rfl) _)
  have hl3 : z3.length = 24 := by rw [hz3, List.length_set, List.length_set]; exact L2.out
  have L3 := hide hl3
  have Z3 := hide hz3
  clear hw hl3 hz3 g1_2 g2_2 f1_2 f2_2
  obtain ⟨cl, gl⟩ := cell24 ho3 L3.out 0 (by omega)
  have fl := ho3.frozen 0
  go_wp2
  refine bodyPost_end (results_none rfl _ _ _) rfl ?_
  have h_yb := H_yb.out
  have h_ya := H_ya.out
  have h_d1 := H_d1.out
  have h_d0 := H_d0.out
  have h_d2 := H_d2.out
  have h_yc := H_yc.out
  refine ⟨rfl, only_setCell hg3 (.inl rfl) _, z3.set 0 (48 + yc), ho3.put 0 (by omega), by rw [List.length_set]; exact L3.out, ?_⟩
  rw [Z3.out, Z2.out, Z1.out, ← HZZ.out]
  show [48 + yc, 48 + d2 / 10, 48 + d2 % 10, 48 + d1 / 10, 48 + d1 % 10, 48 + d0 / 10, 48 + d0 % 10] = [48 + x / 1000000 % 10, 48 + x / 100000 % 10, 48 + x / 10000 % 10, 48 + x / 1000 % 10, 48 + x / 100 % 10, 48 + x / 10 % 10, 48 + x / 1 % 10]
  simp only [List.cons.injEq, and_true]
  omega
end Go.Proofs.YtoeknkakdoemfaaGreatDoor

/- The contract of formatBase10: 8 digits. -/
namespace Go.Proofs.YtoeknkakdoemfaaGreatDoor
open Go Go.RowKit

set_option maxHeartbeats 4000000 in
set_option maxRecDepth 100000 in
theorem fmt8 (g : Nat) (x : Nat) (w : World) (hz : Own w g .u8 131 (List.replicate 24 0)) (h1 : 10000000 ≤ x) (h2 : x < 100000000) :
    Calls Tryz.prog 127 #[.slice (some ⟨g, 0, none⟩) 8 24, .int .u64 (x : Int)] w (Fmted 8 x g w) := by
  obtain ⟨y, h_y⟩ : ∃ t, t = x % 100000000 := ⟨_, rfl⟩
  have e_y : (x : Int) % 100000000 = (y : Int) := by omega
  obtain ⟨xq, h_xq⟩ : ∃ t, t = x / 100000000 := ⟨_, rfl⟩
  have e_xq : (x : Int) / 100000000 = (xq : Int) := by omega
  obtain ⟨ya, h_ya⟩ : ∃ t, t = y / 10000 := ⟨_, rfl⟩
  have e_ya : (y : Int) / 10000 = (ya : Int) := by omega
  obtain ⟨yb, h_yb⟩ : ∃ t, t = y % 10000 := ⟨_, rfl⟩
  have e_yb : (y : Int) % 10000 = (yb : Int) := by omega
  obtain ⟨d1, h_d1⟩ : ∃ t, t = yb / 100 := ⟨_, rfl⟩
  have e_d1 : (yb : Int) / 100 = (d1 : Int) := by omega
  obtain ⟨d0, h_d0⟩ : ∃ t, t = yb % 100 := ⟨_, rfl⟩
  have e_d0 : (yb : Int) % 100 = (d0 : Int) := by omega
  obtain ⟨d3, h_d3⟩ : ∃ t, t = ya / 100 := ⟨_, rfl⟩
  have e_d3 : (ya : Int) / 100 = (d3 : Int) := by omega
  obtain ⟨d2, h_d2⟩ : ∃ t, t = ya % 100 := ⟨_, rfl⟩
  have e_d2 : (ya : Int) % 100 = (d2 : Int) := by omega
  have b_d0 : d0 < 100 := by omega
  have b_d1 : d1 < 100 := by omega
  have b_d2 : d2 < 100 := by omega
  have b_d3 : d3 < 100 := by omega
  obtain ⟨e1d0, e2d0, e3d0, e4d0, e5d0, e6d0, e7d0⟩ := pairFacts d0 b_d0
  obtain ⟨e1d1, e2d1, e3d1, e4d1, e5d1, e6d1, e7d1⟩ := pairFacts d1 b_d1
  obtain ⟨e1d2, e2d2, e3d2, e4d2, e5d2, e6d2, e7d2⟩ := pairFacts d2 b_d2
  obtain ⟨e1d3, e2d3, e3d3, e4d3, e5d3, e6d3, e7d3⟩ := pairFacts d3 b_d3
  have bnd : y < 1000000000 ∧ xq < 1000000000 ∧ ya < 1000000000 ∧ yb < 1000000000 ∧ d1 < 1000000000 ∧ d0 < 1000000000 ∧ d3 < 1000000000 ∧ d2 < 1000000000 := by omega
  obtain ⟨bb_y, bb_xq, bb_ya, bb_yb, bb_d1, bb_d0, bb_d3, bb_d2⟩ := bnd
  have H_y := hide h_y
  have H_xq := hide h_xq
  have H_ya := hide h_ya
  have H_yb := hide h_yb
  have H_d1 := hide h_d1
  have H_d0 := hide h_d0
  have H_d3 := hide h_d3
  have H_d2 := hide h_d2
  clear h_y h_xq h_ya h_yb h_d1 h_d0 h_d3 h_d2
  have HZ : Hid ((List.replicate 24 0).length = 24) := by show _ = _; simp
  generalize hzz : List.replicate 24 0 = z0 at hz
  have HZZ := hide hzz
  have hl0 : z0.length = 24 := by rw [← hzz]; simp
  have L0 := hide hl0
  clear hzz hl0 HZ
  obtain ⟨c1_0, g1_0⟩ := cell24 hz L0.out 7 (by omega)
  obtain ⟨c2_0, g2_0⟩ := cell24 hz L0.out 6 (by omega)
  have f1_0 := hz.frozen 7
  have f2_0 := hz.frozen 6
  go_enter Tryz.func127, Tryz.ntmps127
  go_wp2
  refine wp_loop_rounds 2 ?_
  rw [rounds_succ]
  go_wp2
  go_region
  generalize hw : World.drew (World.setCell (World.setCell w _ _) _ _) = w1
  obtain ⟨z1, hz1⟩ : ∃ t, t = (z0.set 7 (48 + d0 % 10)).set 6 (48 + d0 / 10) := ⟨_, rfl⟩
  have ho1 : Own w1 g .u8 131 z1 := by
    rw [← hw, hz1]
    exact (hz.put 7 (castn (sm_o d0 b_d0 _))).put 6 (castn (sm_e d0 b_d0 _))
  have hg1 : w.grownBy w1 (some g) := by
    rw [← hw]
    exact only_drew (only_setCell (only_setCell (World.grownBy.refl w (some g)) (.inl rfl) _) (.inl rfl) _)
  have hl1 : z1.length = 24 := by rw [hz1, List.length_set, List.length_set]; exact L0.out
  have L1 := hide hl1
  have Z1 := hide hz1
  clear hw hl1 hz1 g1_0 g2_0 f1_0 f2_0
  obtain ⟨c1_1, g1_1⟩ := cell24 ho1 L1.out 5 (by omega)
  obtain ⟨c2_1, g2_1⟩ := cell24 ho1 L1.out 4 (by omega)
  have f1_1 := ho1.frozen 5
  have f2_1 := ho1.frozen 4
  go_wp2
  go_region
  generalize hw : World.drew (World.setCell (World.setCell w1 _ _) _ _) = w2
  obtain ⟨z2, hz2⟩ : ∃ t, t = (z1.set 5 (48 + d1 % 10)).set 4 (48 + d1 / 10) := ⟨_, rfl⟩
  have ho2 : Own w2 g .u8 131 z2 := by
    rw [← hw, hz2]
    exact (ho1.put 5 (castn (sm_o d1 b_d1 _))).put 4 (castn (sm_e d1 b_d1 _))
  have hg2 : w.grownBy w2 (some g) := by
    rw [← hw]
    exact only_drew (only_setCell (only_setCell hg1 (.inl rfl) _) (.inl rfl) _)
  have hl2 : z2.length = 24 := by rw [hz2, List.length_set, List.length_set]; exact L1.out
  have L2 := hide hl2
  have Z2 := hide hz2
  clear hw hl2 hz2 g1_1 g2_1 f1_1 f2_1
  obtain ⟨c1_2, g1_2⟩ := cell24 ho2 L2.out 3 (by omega)
  obtain ⟨c2_2, g2_2⟩ := cell24 ho2 L2.out 2 (by omega)
  have f1_2 := ho2.frozen 3
  have f2_2 := ho2.frozen 2
  go_wp2
  go_region
  generalize hw : World.drew (World.setCell (World.setCell w2 _ _) _ _) = w3
  obtain ⟨z3, hz3⟩ : ∃ t, t = (z2.set 3 (48 + d2 % 10)).set 2 (48 + d2 / 10) := ⟨_, rfl⟩
  have ho3 : Own w3 g .u8 131 z3 := by
    rw [← hw, hz3]
    exact (ho2.put 3 (castn (sm_o d2 b_d2 _))).put 2 (castn (sm_e d2 b_d2 _))
  have hg3 : w.grownBy w3 (some g) := by
    rw [← hw]
    exact only_drew (only_setCell (only_setCell hg2 (.inl rfl) _) (.inl rfl) _)
  have hl3 : z3.length = 24 := by rw [hz3, List.length_set, List.length_set]; exact L2.out
  have L3 := hide hl3
  have Z3 := hide hz3
  clear hw hl3 hz3 g1_2 g2_2 f1_2 f2_2
  obtain ⟨c1_3, g1_3⟩ := cell24 ho3 L3.out 1 (by omega)
  obtain ⟨c2_3, g2_3⟩ := cell24 ho3 L3.out 0 (by omega)
  have f1_3 := ho3.frozen 1
  have f2_3 := ho3.frozen 0
  go_wp2
  go_region
  generalize hw : World.drew (World.setCell (World.setCell w3 _ _) _ _) = w4
  obtain ⟨z4, hz4⟩ : ∃ t, t = (z3.set 1 (48 + d3 % 10)).set 0 (48 + d3 / 10) := ⟨_, rfl⟩
  have ho4 : Own w4 g .u8 131 z4 := by
    rw [← hw, hz4]
    exact (ho3.put 1 (castn (sm_o d3 b_d3 _))).put 0 (castn (sm_e d3 b_d3 _))
  have hg4 : w.grownBy w4 (some g) := by
    rw [← hw]
    exact only_drew (only_setCell (only_setCell hg3 (.inl rfl) _) (.inl rfl) _)
  have hl4 : z4.length = 24 := by rw [hz4, List.length_set, List.length_set]; exact L3.out
  have L4 := hide hl4
  have Z4 := hide hz4
  clear hw hl4 hz4 g1_3 g2_3 f1_3 f2_3
  go_wp2
  rw [rounds_succ]
  go_wp2
  refine bodyPost_end (results_none rfl _ _ _) rfl ?_
  have h_y := H_y.out
  have h_xq := H_xq.out
  have h_ya := H_ya.out
  have h_yb := H_yb.out
  have h_d1 := H_d1.out
  have h_d0 := H_d0.out
  have h_d3 := H_d3.out
  have h_d2 := H_d2.out
  refine ⟨rfl, hg4, z4, ho4, L4.out, ?_⟩
  rw [Z4.out, Z3.out, Z2.out, Z1.out, ← HZZ.out]
  show [48 + d3 / 10, 48 + d3 % 10, 48 + d2 / 10, 48 + d2 % 10, 48 + d1 / 10, 48 + d1 % 10, 48 + d0 / 10, 48 + d0 % 10] = [48 + x / 10000000 % 10, 48 + x / 1000000 % 10, 48 + x / 100000 % 10, 48 + x / 10000 % 10, 48 + x / 1000 % 10, 48 + x / 100 % 10, 48 + x / 10 % 10, 48 + x / 1 % 10]
  simp only [List.cons.injEq, and_true]
  omega
end Go.Proofs.YtoeknkakdoemfaaGreatDoor

/- The contract of formatBase10: 9 digits. -/
namespace Go.Proofs.YtoeknkakdoemfaaGreatDoor
open Go Go.RowKit

set_option maxHeartbeats 4000000 in
set_option maxRecDepth 100000 in
theorem fmt9 (g : Nat) (x : Nat) (w : World) (hz : Own w g .u8 131 (List.replicate 24 0)) (h1 : 100000000 ≤ x) (h2 : x < 1000000000) :
    Calls Tryz.prog 127 #[.slice (some ⟨g, 0, none⟩) 9 24, .int .u64 (x : Int)] w (Fmted 9 x g w) := by
  obtain ⟨y, h_y⟩ : ∃ t, t = x % 100000000 := ⟨_, rfl⟩
  have e_y : (x : Int) % 100000000 = (y : Int) := by omega
  obtain ⟨xq, h_xq⟩ : ∃ t, t = x / 100000000 := ⟨_, rfl⟩
  have e_xq : (x : Int) / 100000000 = (xq : Int) := by omega
  obtain ⟨ya, h_ya⟩ : ∃ t, t = y / 10000 := ⟨_, rfl⟩
  have e_ya : (y : Int) / 10000 = (ya : Int) := by omega
  obtain ⟨yb, h_yb⟩ : ∃ t, t = y % 10000 := ⟨_, rfl⟩
  have e_yb : (y : Int) % 10000 = (yb : Int) := by omega
  obtain ⟨d1, h_d1⟩ : ∃ t, t = yb / 100 := ⟨_, rfl⟩
  have e_d1 : (yb : Int) / 100 = (d1 : Int) := by omega
  obtain ⟨d0, h_d0⟩ : ∃ t, t = yb % 100 := ⟨_, rfl⟩
  have e_d0 : (yb : Int) % 100 = (d0 : Int) := by omega
  obtain ⟨d3, h_d3⟩ : ∃ t, t = ya / 100 := ⟨_, rfl⟩
  have e_d3 : (ya : Int) / 100 = (d3 : Int) := by omega
  obtain ⟨d2, h_d2⟩ : ∃ t, t = ya % 100 := ⟨_, rfl⟩
  have e_d2 : (ya : Int) % 100 = (d2 : Int) := by omega
  have b_d0 : d0 < 100 := by omega
  have b_d1 : d1 < 100 := by omega
  have b_d2 : d2 < 100 := by omega
  have b_d3 : d3 < 100 := by omega
  have b_l : xq < 10 := by omega
  obtain ⟨e1d0, e2d0, e3d0, e4d0, e5d0, e6d0, e7d0⟩ := pairFacts d0 b_d0
  obtain ⟨e1d1, e2d1, e3d1, e4d1, e5d1, e6d1, e7d1⟩ := pairFacts d1 b_d1
  obtain ⟨e1d2, e2d2, e3d2, e4d2, e5d2, e6d2, e7d2⟩ := pairFacts d2 b_d2
  obtain ⟨e1d3, e2d3, e3d3, e4d3, e5d3, e6d3, e7d3⟩ := pairFacts d3 b_d3
  have bnd : y < 1000000000 ∧ xq < 1000000000 ∧ ya < 1000000000 ∧ yb < 1000000000 ∧ d1 < 1000000000 ∧ d0 < 1000000000 ∧ d3 < 1000000000 ∧ d2 < 1000000000 := by omega
  obtain ⟨bb_y, bb_xq, bb_ya, bb_yb, bb_d1, bb_d0, bb_d3, bb_d2⟩ := bnd
  have H_y := hide h_y
  have H_xq := hide h_xq
  have H_ya := hide h_ya
  have H_yb := hide h_yb
  have H_d1 := hide h_d1
  have H_d0 := hide h_d0
  have H_d3 := hide h_d3
  have H_d2 := hide h_d2
  clear h_y h_xq h_ya h_yb h_d1 h_d0 h_d3 h_d2
  have HZ : Hid ((List.replicate 24 0).length = 24) := by show _ = _; simp
  generalize hzz : List.replicate 24 0 = z0 at hz
  have HZZ := hide hzz
  have hl0 : z0.length = 24 := by rw [← hzz]; simp
  have L0 := hide hl0
  clear hzz hl0 HZ
  obtain ⟨c1_0, g1_0⟩ := cell24 hz L0.out 8 (by omega)
  obtain ⟨c2_0, g2_0⟩ := cell24 hz L0.out 7 (by omega)
  have f1_0 := hz.frozen 8
  have f2_0 := hz.frozen 7
  go_enter Tryz.func127, Tryz.ntmps127
  go_wp2
  refine wp_loop_rounds 2 ?_
  rw [rounds_succ]
  go_wp2
  go_region
  generalize hw : World.drew (World.setCell (World.setCell w _ _) _ _) = w1
  obtain ⟨z1, hz1⟩ : ∃ t, t = (z0.set 8 (48 + d0 % 10)).set 7 (48 + d0 / 10) := ⟨_, rfl⟩
  have ho1 : Own w1 g .u8 131 z1 := by
    rw [← hw, hz1]
    exact (hz.put 8 (castn (sm_o d0 b_d0 _))).put 7 (castn (sm_e d0 b_d0 _))
  have hg1 : w.grownBy w1 (some g) := by
    rw [← hw]
    exact only_drew (only_setCell (only_setCell (World.grownBy.refl w (some g)) (.inl rfl) _) (.inl rfl) _)
  have hl1 : z1.length = 24 := by rw [hz1, List.length_set, List.length_set]; exact L0.out
  have L1 := hide hl1
  have Z1 := hide hz1
  clear hw hl1 hz1 g1_0 g2_0 f1_0 f2_0
  obtain ⟨c1_1, g1_1⟩ := cell24 ho1 L1.out 6 (by omega)
  obtain ⟨c2_1, g2_1⟩ := cell24 ho1 L1.out 5 (by omega)
  have f1_1 := ho1.frozen 6
  have f2_1 := ho1.frozen 5
  go_wp2
  go_region
  generalize hw : World.drew (World.setCell (World.setCell w1 _ _) _ _) = w2
  obtain ⟨z2, hz2⟩ : ∃ t, t = (z1.set 6 (48 + d1 % 10)).set 5 (48 + d1 / 10) := ⟨_, rfl⟩
  have ho2 : Own w2 g .u8 131 z2 := by
    rw [← hw, hz2]
    exact (ho1.put 6 (castn (sm_o d1 b_d1 _))).put 5 (castn (sm_e d1 b_d1 _))
  have hg2 : w.grownBy w2 (some g) := by
    rw [← hw]
    exact only_drew (only_setCell (only_setCell hg1 (.inl rfl) _) (.inl rfl) _)
  have hl2 : z2.length = 24 := by rw [hz2, List.length_set, List.length_set]; exact L1.out
  have L2 := hide hl2
  have Z2 := hide hz2
  clear hw hl2 hz2 g1_1 g2_1 f1_1 f2_1
  obtain ⟨c1_2, g1_2⟩ := cell24 ho2 L2.out 4 (by omega)
  obtain ⟨c2_2, g2_2⟩ := cell24 ho2 L2.out 3 (by omega)
  have f1_2 := ho2.frozen 4
  have f2_2 := ho2.frozen 3
  go_wp2
  go_region
  generalize hw : World.drew (World.setCell (World.setCell w2 _ _) _ _) = w3
  obtain ⟨z3, hz3⟩ : ∃ t, t = (z2.set 4 (48 + d2 % 10)).set 3 (48 + d2 / 10) := ⟨_, rfl⟩
  have ho3 : Own w3 g .u8 131 z3 := by
    rw [← hw, hz3]
    exact (ho2.put 4 (castn (sm_o d2 b_d2 _))).put 3 (castn (sm_e d2 b_d2 _))
  have hg3 : w.grownBy w3 (some g) := by
    rw [← hw]
    exact only_drew (only_setCell (only_setCell hg2 (.inl rfl) _) (.inl rfl) _)
  have hl3 : z3.length = 24 := by rw [hz3, List.length_set, List.length_set]; exact L2.out
  have L3 := hide hl3
  have Z3 := hide hz3
  clear hw hl3 hz3 g1_2 g2_2 f1_2 f2_2
  obtain ⟨c1_3, g1_3⟩ := cell24 ho3 L3.out 2 (by omega)
  obtain ⟨c2_3, g2_3⟩ := cell24 ho3 L3.out 1 (by omega)
  have f1_3 := ho3.frozen 2
  have f2_3 := ho3.frozen 1
  go_wp2
  go_region
  generalize hw : World.drew (World.setCell (World.setCell w3 _ _) _ _) = w4
  obtain ⟨z4, hz4⟩ : ∃ t, t = (z3.set 2 (48 + d3 % 10)).set 1 (48 + d3 / 10) := ⟨_, rfl⟩
  have ho4 : Own w4 g .u8 131 z4 := by
    rw [← hw, hz4]
    exact (ho3.put 2 (castn (sm_o d3 b_d3 _))).put 1 (castn (sm_e d3 b_d3 _))
  have hg4 : w.grownBy w4 (some g) := by
    rw [← hw]
    exact only_drew (only_setCell (only_setCell hg3 (.inl rfl) _) (.inl rfl) _)
  have hl4 : z4.length = 24 := by rw [hz4, List.length_set, List.length_set]; exact L3.out
  have L4 := hide hl4
  have Z4 := hide hz4
  clear hw hl4 hz4 g1_3 g2_3 f1_3 f2_3
  obtain ⟨cl, gl⟩ := cell24 ho4 L4.out 0 (by omega)
  have fl := ho4.frozen 0
  go_wp2
  rw [rounds_succ]
  go_wp2
  refine bodyPost_end (results_none rfl _ _ _) rfl ?_
  have h_y := H_y.out
  have h_xq := H_xq.out
  have h_ya := H_ya.out
  have h_yb := H_yb.out
  have h_d1 := H_d1.out
  have h_d0 := H_d0.out
  have h_d3 := H_d3.out
  have h_d2 := H_d2.out
  refine ⟨rfl, only_setCell hg4 (.inl rfl) _, z4.set 0 (48 + xq), ho4.put 0 (by omega), by rw [List.length_set]; exact L4.out, ?_⟩
  rw [Z4.out, Z3.out, Z2.out, Z1.out, ← HZZ.out]
  show [48 + xq, 48 + d3 / 10, 48 + d3 % 10, 48 + d2 / 10, 48 + d2 % 10, 48 + d1 / 10, 48 + d1 % 10, 48 + d0 / 10, 48 + d0 % 10] = [48 + x / 100000000 % 10, 48 + x / 10000000 % 10, 48 + x / 1000000 % 10, 48 + x / 100000 % 10, 48 + x / 10000 % 10, 48 + x / 1000 % 10, 48 + x / 100 % 10, 48 + x / 10 % 10, 48 + x / 1 % 10]
  simp only [List.cons.injEq, and_true]
  omega
end Go.Proofs.YtoeknkakdoemfaaGreatDoor
