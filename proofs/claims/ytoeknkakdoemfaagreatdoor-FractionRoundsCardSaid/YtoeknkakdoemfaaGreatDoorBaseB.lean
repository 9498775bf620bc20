/- The contract of natural.divideShort. -/
import Derived.Test.YtoeknkakdoemfaaGreatDoorBaseA
import Derived.IntWalk
import Derived.Test.YtoeknkakdoemfaaGreatDoorMul
import Derived.Test.YtoeknkakdoemfaaGreatDoorSub
namespace Go.Proofs.YtoeknkakdoemfaaGreatDoor
open Go Go.RowKit

theorem cast_div (a d : Nat) : (a : Int) / (d : Int) = ((a / d : Nat) : Int) := (Int.natCast_ediv a d).symm
theorem cast_mod (a d : Nat) : (a : Int) % (d : Int) = ((a % d : Nat) : Int) := (Int.natCast_emod a d).symm

theorem ret_tup {v : Value} {k : IntKind} {a b : Nat} (h : a = b) : Ending.returned (.tuple #[v, .int k (a : Int)]) = .returned (.tuple #[v, .int k (b : Int)]) := by rw [h]
/-- a slice of a value, and a number -/
def GivesQR (u r : Nat) (w : World) (e : Ending) (w' : World) : Prop :=
  ∃ A n c, e = .returned (.tuple #[.slice A n c, .int .u64 (r : Int)]) ∧ RL w' .u32 A n (dig B9 u) ∧ n ≤ c ∧ c ≤ maxLen ∧ Below w.heap.size w w'

set_option maxHeartbeats 1000000 in
theorem divideShort_any (A : Option Addr) (n c : Nat) (xs : List Nat) (D : Nat) (w : World) (hr : RL w .u32 A n xs) (hN : n ≤ 2000000) (hx : ∀ x ∈ xs, x < B9) (hD : 0 < D) (hD9 : D < 1000000000) :
    Calls Tryz.prog 102 #[.slice A n c, .int .u64 (D : Int)] w (GivesQR (val B9 xs / D) (val B9 xs % D) w) := by
  have HX := hide hx
  have HL := hide hr.len
  clear hx
  go_enter Tryz.func102, Tryz.ntmps102
  go_wp2_with (at_make; refine wpList_make_zero _ rfl _ _ 22 rfl 71 .u32 4 Tryz.underlying22 u32_info .i64 .i64 _ _ n rfl rfl (by go_num) (by go_num) (by omega) (by omega) ?_; intro g w3 hg hown hbel)
  go_loopw [5, 6] (fun r t wr => ∃ (k R : Nat) (zs : List Nat), k ≤ n ∧ R < D ∧ r = .int .u64 (R : Int) ∧ t = .int .i64 ((k : Int) - 1) ∧ zs.length = n ∧ Own wr g .u32 71 zs ∧ Below w.heap.size w wr ∧
      val B9 (zs.drop k) = val B9 (xs.drop k) / D ∧ R = val B9 (xs.drop k) % D ∧ ∀ x ∈ zs, x < B9) (fun _ t _ => (intOf t + 1).toNat)
  case atStart =>
    have e : xs.drop n = [] := List.drop_eq_nil_of_le (by rw [HL.out]; exact Nat.le_refl _)
    exact ⟨n, 0, List.replicate n 0, by omega, hD, rfl, rfl, by simp, hown, hbel, by rw [e]; simp [val], by rw [e]; simp [val], fun x hx => by rw [List.eq_of_mem_replicate hx]; decide⟩
  case round =>
    obtain ⟨k, R, zs, hk, hR, rfl, rfl, hzl, hzo, hzb, hzv, hRv, hzd⟩ := hrel
    clear hown hbel
    have HZL := hide hzl
    have HZV := hide hzv
    have HRV := hide hRv
    have HZD := hide hzd
    have hr3 := hr.below hzb
    by_cases h0 : k = 0
    · subst h0
      have HE := hide (show trimL zs = dig B9 (val B9 xs / D) from by rw [trimL_dig B9 (by decide) zs hzd]; exact congrArg (dig B9) hzv)
      have HR2 := hide (show R = val B9 xs % D from hRv)
      clear hzl hzv hRv hzd
      go_wp2_with fail
      refine (trim_any _ n n zs _ (hzo.rl HZL.out) (Nat.le_refl _) (by unfold maxLen; omega)).mono ?_
      rintro e w' ⟨rfl, rfl⟩
      have h3 := hzo.trim (n := n) HE.out HZL.out
      rw [HE.out]
      go_wp2
      go_ret2
      exact ⟨_, _, _, ret_tup HR2.out, h3.1, h3.2, by unfold maxLen; omega, hzb⟩
    · obtain ⟨k, rfl⟩ : ∃ j, k = j + 1 := ⟨k - 1, by omega⟩
      obtain ⟨b, o, x, rfl, hx, hcell⟩ := hr3.at_ (j := k) (by omega)
      have hxb : x < 1000000000 := HX.out x (List.mem_of_getElem? hx)
      have hkz : k < zs.length := by omega
      have hold : wr.cell? ⟨g, k, none⟩ = some (.int .u32 ((zs[k]?.getD 0 : Nat) : Int)) := hzo.cell (by rw [List.getElem?_eq_getElem (by omega)]; rfl)
      have hfz := hzo.frozen k
      have hst := div_step (D := D) (V := val B9 (xs.drop (k + 1))) (x := x) (b := B9) hD
      rw [← val_drop_step B9 hx, ← hzv, ← hRv] at hst
      obtain ⟨q, hq⟩ : ∃ q, q = (R * B9 + x) / D := ⟨_, rfl⟩
      obtain ⟨r, hrr⟩ : ∃ r, r = (R * B9 + x) % D := ⟨_, rfl⟩
      rw [← hq, ← hrr] at hst
      have hqb : q < 1000000000 := by rw [hq]; exact div_bound hR hxb
      have hrb : r < D := by rw [hrr]; exact Nat.mod_lt _ hD
      have eI : (R : Int) * 1000000000 + (x : Int) = ((R * B9 + x : Nat) : Int) := by show _ = ((R * 1000000000 + x : Nat) : Int); omega
      have hq' : ((R : Int) * 1000000000 + (x : Int)) / (D : Int) = (q : Int) := by rw [eI, cast_div, hq]
      have hr' : ((R : Int) * 1000000000 + (x : Int)) % (D : Int) = (r : Int) := by rw [eI, cast_mod, hrr]
      have HST := hide hst
      clear hx hzl hzv hRv hzd hst eI hq hrr
      rw [show (((k + 1 : Nat) : Int) - 1) = (k : Int) from by omega]
      go_wp2
      go_roundw
      case rel =>
        refine ⟨k, r, zs.set k q, by omega, hrb, by rw [hr'], rfl, by rw [List.length_set]; exact HZL.out, hzo.put k (by first | rfl | exact hq'), hzb.setCell hg _, ?_, HST.out.2.symm, all_set HZD.out hqb⟩
        rw [val_drop_set B9 zs k q hkz]
        exact HST.out.1.symm
      case measure => simp [intOf]
end Go.Proofs.YtoeknkakdoemfaaGreatDoor

/- The contracts of natural.guessLimb, natural.subtractMultiple, natural.addBack. -/
namespace Go.Proofs.YtoeknkakdoemfaaGreatDoor
open Go Go.RowKit

set_option maxHeartbeats 1000000 in
theorem guessLimb_any (g o n c : Nat) (ps : List Nat) (A : Option Addr) (d : Nat) (ys : List Nat) (w : World) (hp : RL w .u32 (some ⟨g, o, none⟩) (n + 3) ps) (hr : RL w .u32 A (n + 2) ys) (hN : n ≤ 2000000)
    (d1 d0 t2 t1 t0 : Nat) (hd1 : ys[n + 1]? = some d1) (hd0 : ys[n]? = some d0) (ht2 : ps[n + 2]? = some t2) (ht1 : ps[n + 1]? = some t1) (ht0 : ps[n]? = some t0)
    (b1 : d1 < 1000000000) (b0 : d0 < 1000000000) (c2 : t2 < 1000000000) (c1 : t1 < 1000000000) (c0 : t0 < 1000000000) (hhalf : 500000000 ≤ d1) (htop : t2 ≤ d1) (Q : Nat) (hQ : ((t2 * 1000000000 + t1) * 1000000000 + t0) / (d1 * 1000000000 + d0) = Q) :
    Calls Tryz.prog 133 #[.slice (some ⟨g, o, none⟩) (n + 3) c, .slice A (n + 2) d] w fun e w' =>
      e = .returned (.int .u64 (Q : Int)) ∧ ∃ k, w' = w.drewN k := by
  obtain ⟨b, p, x, rfl, hx, hc1⟩ := hr.at_ (j := n + 1) (by omega)
  obtain rfl : x = d1 := by rw [hx] at hd1; exact Option.some.inj hd1
  obtain ⟨x', hx', hc0⟩ := hr.cell (j := n) (by omega)
  obtain rfl : x' = d0 := by rw [hx'] at hd0; exact Option.some.inj hd0
  obtain ⟨z2, hz2, hq2⟩ := hp.cell (j := n + 2) (by omega)
  obtain rfl : z2 = t2 := by rw [hz2] at ht2; exact Option.some.inj ht2
  obtain ⟨z1, hz1, hq1⟩ := hp.cell (j := n + 1) (by omega)
  obtain rfl : z1 = t1 := by rw [hz1] at ht1; exact Option.some.inj ht1
  obtain ⟨z0, hz0, hq0⟩ := hp.cell (j := n) (by omega)
  obtain rfl : z0 = t0 := by rw [hz0] at ht0; exact Option.some.inj ht0
  have HQ := hide hQ
  clear hQ hx hx' hz2 hz1 hz0 hd1 hd0 ht2 ht1 ht0 hp hr
  have hc1 : w.cell? ⟨b, p + (n + 1), none⟩ = some (.int .u32 (x : Int)) := hc1
  have hq2 : w.cell? ⟨g, o + (n + 2), none⟩ = some (.int .u32 (z2 : Int)) := hq2
  have i1 : (0 : Int) ≤ (n : Int) + 1 := by omega
  have i2 : (n : Int) + 1 < (n : Int) + 2 := by omega
  have i3 : (0 : Int) ≤ (n : Int) := by omega
  have i4 : (n : Int) < (n : Int) + 2 := by omega
  go_enter Tryz.func133, Tryz.ntmps133
  go_wp2
  have e1 : IntKind.i64.wrap ((n : Int) + 2 - 1) = (n : Int) + 1 := by rw [show (n : Int) + 2 - 1 = (n : Int) + 1 from by omega]; exact IntWalk.i64_in _ (by omega)
  have e2 : IntKind.i64.wrap ((n : Int) + 2 - 2) = (n : Int) := by rw [show (n : Int) + 2 - 2 = (n : Int) from by omega]; exact IntWalk.i64_in _ (by omega)
  have e3 : ((n : Int) + 1).toNat = n + 1 := by omega
  have e4 : ((n : Int) + 2).toNat = n + 2 := by omega
  go_quiet (fail)
  clear e1 e2 hc1 hc0
  go_wp2
  have hq2 : (w.drewN nq).cell? ⟨g, o + (n + 2), none⟩ = some (.int .u32 (z2 : Int)) := hq2
  have hq1 : (w.drewN nq).cell? ⟨g, o + (n + 1), none⟩ = some (.int .u32 (z1 : Int)) := hq1
  have hq0 : (w.drewN nq).cell? ⟨g, o + n, none⟩ = some (.int .u32 (z0 : Int)) := hq0
  generalize hWe : w.drewN nq = w2 at *
  have HW := hide hWe
  clear hWe
  have i5 : (0 : Int) ≤ (n : Int) + 2 := by omega
  have i6 : (n : Int) + 2 < (n : Int) + 3 := by omega
  have i7 : (n : Int) + 1 < (n : Int) + 3 := by omega
  have i8 : (n : Int) < (n : Int) + 3 := by omega
  have e1 : IntKind.i64.wrap ((n : Int) + 2 - 1) = (n : Int) + 1 := by rw [show (n : Int) + 2 - 1 = (n : Int) + 1 from by omega]; exact IntWalk.i64_in _ (by omega)
  have e5 : IntKind.u64.wrap ((z2 : Int) * 1000000000) = (z2 : Int) * 1000000000 := IntWalk.u64_in _ (by omega)
  have e6 : IntKind.u64.wrap ((z2 : Int) * 1000000000 + (z1 : Int)) = (z2 : Int) * 1000000000 + (z1 : Int) := IntWalk.u64_in _ (by omega)
  go_quiet (fail)
  clear e1 e3 e4 e5 e6
  go_wp2
  have hq0 : (w2.drewN nq).cell? ⟨g, o + n, none⟩ = some (.int .u32 (z0 : Int)) := hq0
  clear hq2 hq1
  generalize hWe : w2.drewN nq = w3 at *
  have HW2 := hide hWe
  clear hWe
  obtain ⟨T, hT⟩ : ∃ T, T = z2 * 1000000000 + z1 := ⟨_, rfl⟩
  obtain ⟨G, hG⟩ : ∃ G, G = T / x := ⟨_, rfl⟩
  obtain ⟨R, hR⟩ : ∃ R, R = T % x := ⟨_, rfl⟩
  have hGR : G * x + R = T := by rw [hG, hR]; exact Nat.div_add_mod' T x
  have hRx : R < x := by rw [hR]; exact Nat.mod_lt _ (by omega)
  have hGb : G ≤ 1000000001 := by
    rw [hG, ← Nat.lt_succ_iff, Nat.div_lt_iff_lt_mul (by omega)]
    show T < 1000000002 * x
    have : z2 * 1000000000 ≤ x * 1000000000 := Nat.mul_le_mul_right _ htop
    omega
  have hlow : (T * 1000000000 + z0) / (x * 1000000000 + x') ≤ G := by rw [hG]; exact guess_first (by omega) (by omega) c0
  have eT : (z2 : Int) * 1000000000 + (z1 : Int) = (T : Int) := by omega
  have e1 : (T : Int) / (x : Int) = (G : Int) := by rw [hG, cast_div]
  have e2 : (T : Int) % (x : Int) = (R : Int) := by rw [hR, cast_mod]
  have hx0 : ((x : Int) == 0) = false := by simp; omega
  rw [eT]
  have HGR := hide hGR
  have HLOW := hide hlow
  have HTT := hide hT
  have x1 : (1 : Int) ≤ (x : Int) := by omega
  clear hGR hlow hG hR hT eT
  go_quiet (fail)
  go_wp2
  rw [e2]
  clear e1 e2
  have hq0 : (w3.drewN nq).cell? ⟨g, o + n, none⟩ = some (.int .u32 (z0 : Int)) := hq0
  generalize hWe : w3.drewN nq = w4 at *
  have HW3 := hide hWe
  clear hWe
  go_loop [9, 10] (fun s t => ∃ G R : Nat, s = .int .u64 (G : Int) ∧ t = .int .u64 (R : Int) ∧ G * x + R = T ∧ G ≤ 1000000001 ∧ R < 2000000000 ∧ (T * 1000000000 + z0) / (x * 1000000000 + x') ≤ G) (fun s _ => (intOf s).toNat)
  case atStart => exact ⟨G, R, rfl, rfl, HGR.out, hGb, by omega, HLOW.out⟩
  case round =>
    obtain ⟨G1, R1, rfl, rfl, hg, hg1, hr1, hlow⟩ := hrel
    have hpp : G1 * x' ≤ 1000000001 * 999999999 := Nat.mul_le_mul hg1 (by omega)
    have hp1 : (G1 : Int) * (x' : Int) ≤ 1000000001 * 999999999 := by rw [← Int.natCast_mul]; omega
    have hp0 : 0 ≤ (G1 : Int) * (x' : Int) := by rw [← Int.natCast_mul]; omega
    by_cases hlt : R1 * 1000000000 + z0 < G1 * x'
    · have hd : decide ((R1 : Int) * 1000000000 + (z0 : Int) < (G1 : Int) * (x' : Int)) = true := by
        rw [← Int.natCast_mul]; simp; omega
      have hstep := guess_go hg hlt
      have hG0 : 1 ≤ G1 := by
        rcases Nat.eq_zero_or_pos G1 with h0 | h0
        · rw [h0, Nat.zero_mul] at hlt; omega
        · exact h0
      have HN := hide (show (G1 - 1) * x + (R1 + x) = T from by
        obtain ⟨G2, rfl⟩ : ∃ y, G1 = y + 1 := ⟨G1 - 1, by omega⟩
        rw [Nat.add_sub_cancel, ← hg, Nat.add_mul, Nat.one_mul]; omega)
      have HL2 := hide (show (T * 1000000000 + z0) / (x * 1000000000 + x') ≤ G1 - 1 from by
        have : (T * 1000000000 + z0) / (x * 1000000000 + x') < G1 := (Nat.div_lt_iff_lt_mul (by omega)).2 hstep
        omega)
      have hRs : R1 < 1000000000 := by omega
      clear hg hlow hstep hlt hpp
      go_wp2
      go_round
      case rel => exact ⟨G1 - 1, R1 + x, by go_num, by go_num, HN.out, by omega, by omega, HL2.out⟩
      case measure => simp [intOf]; omega
    · have hd : decide ((R1 : Int) * 1000000000 + (z0 : Int) < (G1 : Int) * (x' : Int)) = false := by
        rw [← Int.natCast_mul]; simp; omega
      have HE := hide (show G1 = (T * 1000000000 + z0) / (x * 1000000000 + x') from by
        apply Nat.le_antisymm
        · rw [Nat.le_div_iff_mul_le (by omega)]
          exact guess_end hg (by omega)
        · exact hlow)
      clear hg hlow hlt hpp
      go_wp2
      go_ret
      exact ⟨ret_int (by rw [HE.out, HTT.out, HQ.out]), _, by rw [← HW3.out, ← HW2.out, ← HW.out, World.drewN_drewN, World.drewN_drewN]⟩

/-- what subtractMultiple leaves in block g, at o -/
def Subbed (w : World) (g : Nat) (zs : List Nat) (o n D V : Nat) (neg : Bool) (w' : World) : Prop :=
  w.grownBy w' (some g) ∧ ∃ zs' B, Own w' g .u32 71 zs' ∧ zs'.length = zs.length ∧ (∀ x ∈ zs', x < B9) ∧ zs'.take o = zs.take o ∧ zs'.drop (o + n) = zs.drop (o + n) ∧
    val B9 ((zs'.drop o).take n) + D = val B9 ((zs.drop o).take n) + B9 ^ n * B ∧ neg = decide (V < B)

set_option maxHeartbeats 1000000 in
theorem subtractMultiple_any (g o m c : Nat) (zs : List Nat) (A : Option Addr) (n d : Nat) (ys : List Nat) (F t : Nat) (w : World) (hz : Own w g .u32 71 zs) (hzb : ∀ x ∈ zs, x < B9) (ht : zs[o + n]? = some t) (hm : n < m) (hmm : m ≤ maxLen)
    (hr : RL w .u32 A n ys) (hy : ∀ x ∈ ys, x < B9) (hs : Sp A n g) (hn : n ≤ maxLen) (hF : F ≤ 1000000001) (D : Nat) (hD : F * val B9 ys = D) :
    Calls Tryz.prog 134 #[.slice (some ⟨g, o, none⟩) m c, .slice A n d, .int .u64 (F : Int)] w fun e w' => ∃ neg, e = .returned (.bool neg) ∧ Subbed w g zs o n D t neg w' := by
  have HZB := hide hzb
  have HT := hide ht
  have HY := hide hy
  have HD := hide hD
  have HL := hide hr.len
  have hlz := lt_of_getElem? ht
  unfold maxLen at hn hmm
  clear hzb ht hy hD
  go_enter Tryz.func134, Tryz.ntmps134
  go_wp2
  go_loopw [7, 8, 9, 10, 13] (fun c7 _ _ _ i wr => ∃ (k B : Nat) (zk : List Nat), k ≤ n ∧ B ≤ F + 1 ∧ c7 = .int .u64 B ∧ i = .int .i64 k ∧ zk.length = zs.length ∧ Own wr g .u32 71 zk ∧ w.grownBy wr (some g) ∧
      val B9 ((zk.drop o).take k) + F * val B9 (ys.take k) = val B9 ((zs.drop o).take k) + B9 ^ k * B ∧ (∀ x ∈ zk, x < B9) ∧ zk.drop (o + k) = zs.drop (o + k) ∧ zk.take o = zs.take o) (fun _ _ _ _ i _ => n - (intOf i).toNat)
  case atStart => exact ⟨0, 0, zs, by omega, by omega, rfl, rfl, rfl, hz, World.grownBy.refl _ _, by simp [val], HZB.out, rfl, rfl⟩
  case round =>
    obtain ⟨k, B, zk, hk, hB, rfl, rfl, hzl, hzo, hzg, hzv, hzd, hdr, htk⟩ := hrel
    have hr3 := hr.grown hzg hs
    have HZL := hide hzl
    have HZV := hide hzv
    have HZD := hide hzd
    have HDR := hide hdr
    have HTK := hide htk
    by_cases hlt : k < n
    · obtain ⟨b, p, y, rfl, hy, hcell⟩ := hr3.at_ hlt
      have hyb : y < 1000000000 := HY.out y (List.mem_of_getElem? hy)
      have hkz : o + k < zk.length := by omega
      have hgz : zk[o + k]? = some zk[o + k] := List.getElem?_eq_getElem hkz
      generalize zk[o + k] = z at hgz
      have hold : wr.cell? ⟨g, o + k, none⟩ = some (.int .u32 (z : Int)) := hzo.cell hgz
      have hzlt : z < 1000000000 := HZD.out z (List.mem_of_getElem? hgz)
      have hfz := hzo.frozen (o + k)
      have hFy : F * y ≤ 1000000001 * 999999999 := Nat.mul_le_mul hF (by omega)
      have hFq : B + F * y ≤ F * 1000000000 + 1 := by
        have h1 : F * (y + 1) ≤ F * 1000000000 := Nat.mul_le_mul_left _ (by omega)
        rw [Nat.mul_add, Nat.mul_one] at h1
        omega
      obtain ⟨P, hP⟩ : ∃ P, P = F * y := ⟨_, rfl⟩
      have eP : (F : Int) * (y : Int) = (P : Int) := by rw [hP, Int.natCast_mul]
      have hPb : P ≤ 1000000001 * 999999999 := by omega
      have hBP : B + P ≤ F * 1000000000 + 1 := by rw [hP]; exact hFq
      have hkd : k < (zk.drop o).length := by rw [List.length_drop]; omega
      have hgd : (zs.drop o)[k]? = some z := by rw [List.getElem?_drop, ← getElem?_of_drop hdr (Nat.le_refl _)]; exact hgz
      have hstep : ∀ v B', v + (B + P) = z + B9 * B' → val B9 (((zk.set (o + k) v).drop o).take (k + 1)) + F * val B9 (ys.take (k + 1)) = val B9 ((zs.drop o).take (k + 1)) + B9 ^ (k + 1) * B' := by
        intro v B' e
        rw [drop_set_add]
        exact smul_step hkd hgd hy (by rw [← hP]; exact e) hzv
      have HS := hide hstep
      have HP := hide eP
      clear hy hzl hzv hzd hdr htk hgz hgd hkd hstep hP hFq hFy
      by_cases hzt : z < (B + P) % 1000000000
      · go_wp2
        go_roundw
        case rel =>
          refine ⟨k + 1, (B + P) / 1000000000 + 1, zk.set (o + k) (z + 1000000000 - (B + P) % 1000000000), by omega, by omega, by go_num, by go_num, by rw [List.length_set]; exact HZL.out,
            ((hzo.put (o + k) (x := z + 1000000000) (by omega)).put (o + k) (x := z + 1000000000 - (B + P) % 1000000000) (by omega)).cast (by rw [List.set_set]), only_setCell (only_setCell hzg (.inl rfl) _) (.inl rfl) _, HS.out _ _ (by show _ = z + 1000000000 * _; omega), all_set HZD.out (by show _ < 1000000000; omega), ?_, ?_⟩
          · show (zk.set (o + k) _).drop (o + (k + 1)) = _
            rw [drop_set_lt _ _ _ _ (by omega)]
            exact drop_of_drop HDR.out (by omega)
          · rw [take_set_lt _ _ _ _ (by omega)]; exact HTK.out
        case measure => simp [intOf]; omega
      · go_wp2
        go_roundw
        case rel =>
          refine ⟨k + 1, (B + P) / 1000000000, zk.set (o + k) (z - (B + P) % 1000000000), by omega, by omega, by go_num, by go_num, by rw [List.length_set]; exact HZL.out,
            hzo.put (o + k) (by omega), only_setCell hzg (.inl rfl) _, HS.out _ _ (by show _ = z + 1000000000 * _; omega), all_set HZD.out (by show _ < 1000000000; omega), ?_, ?_⟩
          · show (zk.set (o + k) _).drop (o + (k + 1)) = _
            rw [drop_set_lt _ _ _ _ (by omega)]
            exact drop_of_drop HDR.out (by omega)
          · rw [take_set_lt _ _ _ _ (by omega)]; exact HTK.out
        case measure => simp [intOf]; omega
    · obtain rfl : k = n := by omega
      have hgz : zk[o + k]? = some t := by rw [getElem?_of_drop hdr (Nat.le_refl _)]; exact HT.out
      have hcell : wr.cell? ⟨g, o + k, none⟩ = some (.int .u32 (t : Int)) := hzo.cell hgz
      have htb : t < 1000000000 := HZD.out t (List.mem_of_getElem? hgz)
      have HV := hide (show val B9 ((zk.drop o).take k) + D = val B9 ((zs.drop o).take k) + B9 ^ k * B from by
        rw [← HD.out, ← hzv, List.take_of_length_le (l := ys) (by rw [HL.out]; exact Nat.le_refl _)])
      clear hgz hzl hzv hzd hdr htk
      go_wp2
      go_ret
      exact ⟨decide (t < B), by simp, hzg, zk, B, hzo, HZL.out, HZD.out, HTK.out, HDR.out, HV.out, rfl⟩

/-- what addBack leaves -/
def Added (w : World) (g : Nat) (zs : List Nat) (o n D : Nat) (e : Ending) (w' : World) : Prop :=
  e = .returned (.tuple #[]) ∧ w.grownBy w' (some g) ∧ ∃ zs' B, Own w' g .u32 71 zs' ∧ zs'.length = zs.length ∧ (∀ x ∈ zs', x < B9) ∧ zs'.take o = zs.take o ∧ zs'.drop (o + n) = zs.drop (o + n) ∧
    val B9 ((zs'.drop o).take n) + B9 ^ n * B = val B9 ((zs.drop o).take n) + D

theorem back_step {b : Nat} {dk ds ys : List Nat} {k B y z : Nat} (hk : k < dk.length) (hz : ds[k]? = some z) (hy : ys[k]? = some y)
    (h : val b (dk.take k) + b ^ k * B = val b (ds.take k) + val b (ys.take k)) :
    val b ((dk.set k ((B + (z + y)) % b)).take (k + 1)) + b ^ (k + 1) * ((B + (z + y)) / b) = val b (ds.take (k + 1)) + val b (ys.take (k + 1)) := by
  rw [put_step b dk k _ hk, val_take_succ b hz, val_take_succ b hy, Nat.mul_add, Nat.mul_add]
  omega

set_option maxHeartbeats 1000000 in
theorem addBack_any (g o m c : Nat) (zs : List Nat) (A : Option Addr) (n d : Nat) (ys : List Nat) (w : World) (hz : Own w g .u32 71 zs) (hzb : ∀ x ∈ zs, x < B9) (ho : o + n ≤ zs.length) (hm : n < m) (hmm : m ≤ maxLen)
    (hr : RL w .u32 A n ys) (hy : ∀ x ∈ ys, x < B9) (hs : Sp A n g) (hn : n ≤ maxLen) :
    Calls Tryz.prog 135 #[.slice (some ⟨g, o, none⟩) m c, .slice A n d] w (Added w g zs o n (val B9 ys)) := by
  have HZB := hide hzb
  have HY := hide hy
  have HL := hide hr.len
  unfold maxLen at hn hmm
  clear hzb hy
  go_enter Tryz.func135, Tryz.ntmps135
  go_wp2
  go_loopw [4, 5, 6, 9] (fun c4 _ _ i wr => ∃ (k B : Nat) (zk : List Nat), k ≤ n ∧ B ≤ 1 ∧ c4 = .int .u32 B ∧ i = .int .i64 k ∧ zk.length = zs.length ∧ Own wr g .u32 71 zk ∧ w.grownBy wr (some g) ∧
      val B9 ((zk.drop o).take k) + B9 ^ k * B = val B9 ((zs.drop o).take k) + val B9 (ys.take k) ∧ (∀ x ∈ zk, x < B9) ∧ zk.drop (o + k) = zs.drop (o + k) ∧ zk.take o = zs.take o) (fun _ _ _ i _ => n - (intOf i).toNat)
  case atStart => exact ⟨0, 0, zs, by omega, by omega, rfl, rfl, rfl, hz, World.grownBy.refl _ _, by simp [val], HZB.out, rfl, rfl⟩
  case round =>
    obtain ⟨k, B, zk, hk, hB, rfl, rfl, hzl, hzo, hzg, hzv, hzd, hdr, htk⟩ := hrel
    have hr3 := hr.grown hzg hs
    have HZL := hide hzl
    have HZV := hide hzv
    have HZD := hide hzd
    have HDR := hide hdr
    have HTK := hide htk
    by_cases hlt : k < n
    · obtain ⟨b, p, y, rfl, hy, hcell⟩ := hr3.at_ hlt
      have hyb : y < 1000000000 := HY.out y (List.mem_of_getElem? hy)
      have hkz : o + k < zk.length := by omega
      have hgz : zk[o + k]? = some zk[o + k] := List.getElem?_eq_getElem hkz
      generalize zk[o + k] = z at hgz
      have hold : wr.cell? ⟨g, o + k, none⟩ = some (.int .u32 (z : Int)) := hzo.cell hgz
      have hzlt : z < 1000000000 := HZD.out z (List.mem_of_getElem? hgz)
      have hfz := hzo.frozen (o + k)
      have hkd : k < (zk.drop o).length := by rw [List.length_drop]; omega
      have hgd : (zs.drop o)[k]? = some z := by rw [List.getElem?_drop, ← getElem?_of_drop hdr (Nat.le_refl _)]; exact hgz
      have HS := hide (show val B9 (((zk.set (o + k) ((B + (z + y)) % B9)).drop o).take (k + 1)) + B9 ^ (k + 1) * ((B + (z + y)) / B9) = val B9 ((zs.drop o).take (k + 1)) + val B9 (ys.take (k + 1)) from by
        rw [drop_set_add]; exact back_step hkd hgd hy hzv)
      clear hy hzl hzv hzd hdr htk hgz hgd hkd
      go_wp2
      go_roundw
      case rel =>
        refine ⟨k + 1, (B + (z + y)) / 1000000000, zk.set (o + k) ((B + (z + y)) % 1000000000), by omega, by omega, by go_num, by go_num, by rw [List.length_set]; exact HZL.out,
          hzo.put (o + k) (by omega), only_setCell hzg (.inl rfl) _, HS.out, all_set HZD.out (by show _ < 1000000000; omega), ?_, ?_⟩
        · show (zk.set (o + k) _).drop (o + (k + 1)) = _
          rw [drop_set_lt _ _ _ _ (by omega)]
          exact drop_of_drop HDR.out (by omega)
        · rw [take_set_lt _ _ _ _ (by omega)]; exact HTK.out
      case measure => simp [intOf]; omega
    · obtain rfl : k = n := by omega
      have HV := hide (show val B9 ((zk.drop o).take k) + B9 ^ k * B = val B9 ((zs.drop o).take k) + val B9 ys from by
        rw [hzv, List.take_of_length_le (i := k) (l := ys) (by rw [HL.out]; exact Nat.le_refl _)])
      clear hzl hzv hzd hdr htk
      go_wp2
      refine bodyPost_end (results_none rfl _ _ _) rfl ?_
      exact ⟨rfl, hzg, zk, B, hzo, HZL.out, HZD.out, HTK.out, HDR.out, HV.out⟩
end Go.Proofs.YtoeknkakdoemfaaGreatDoor

/- The contract of natural.takeMultiple. -/
namespace Go.Proofs.YtoeknkakdoemfaaGreatDoor
open Go Go.RowKit

theorem no_neg {L' L M Bw t pv S : Nat} (h1 : L' + S = L + M * Bw) (hp : pv = L + M * t) (hL' : L' < M) (hS : S ≤ pv) (hr : pv - S < M) : ¬ t < Bw ∧ L' = pv - S := by
  rcases Nat.lt_trichotomy Bw t with h | h | h
  · have : M * (Bw + 1) ≤ M * t := Nat.mul_le_mul_left _ h
    rw [Nat.mul_add, Nat.mul_one] at this
    omega
  · subst h
    omega
  · have : M * (t + 1) ≤ M * Bw := Nat.mul_le_mul_left _ h
    rw [Nat.mul_add, Nat.mul_one] at this
    omega
theorem is_neg {L' L M Bw t pv S : Nat} (h1 : L' + S = L + M * Bw) (hp : pv = L + M * t) (hS : pv < S) : t < Bw := by
  rcases Nat.lt_or_ge t Bw with h | h
  · exact h
  · have : M * Bw ≤ M * t := Nat.mul_le_mul_left _ h
    omega
theorem back_end {L'' L' L M Bw C t pv S q dv : Nat} (h1 : L' + S = L + M * Bw) (h2 : L'' + M * C = L' + dv) (hp : pv = L + M * t) (hS : S = q * dv + dv) (hle : q * dv ≤ pv) (hr : pv - q * dv < M) (hL : L'' < M) : L'' = pv - q * dv := by
  have e : L'' + M * (C + t) = (pv - q * dv) + M * Bw := by rw [Nat.mul_add]; omega
  rcases Nat.lt_trichotomy (C + t) Bw with h | h | h
  · have : M * (C + t + 1) ≤ M * Bw := Nat.mul_le_mul_left _ h
    rw [Nat.mul_add, Nat.mul_one] at this
    omega
  · rw [h] at e; omega
  · have : M * (Bw + 1) ≤ M * (C + t) := Nat.mul_le_mul_left _ h
    rw [Nat.mul_add, Nat.mul_one] at this
    omega
theorem val_top3 {ps : List Nat} {n t2 t1 t0 : Nat} (hl : ps.length = n + 3) (h2 : ps[n + 2]? = some t2) (h1 : ps[n + 1]? = some t1) (h0 : ps[n]? = some t0) :
    val B9 ps = val B9 (ps.take n) + B9 ^ n * ((t2 * 1000000000 + t1) * 1000000000 + t0) := by
  rw [val_split B9 h0, val_drop_step B9 h1, val_drop_step B9 h2, List.drop_eq_nil_of_le (by omega)]
  simp only [val]
  congr 2
  show t0 + 1000000000 * (t1 + 1000000000 * (t2 + 1000000000 * 0)) = _
  omega
theorem val_top2 {ys : List Nat} {n d1 d0 : Nat} (hl : ys.length = n + 2) (h1 : ys[n + 1]? = some d1) (h0 : ys[n]? = some d0) :
    val B9 ys = val B9 (ys.take n) + B9 ^ n * (d1 * 1000000000 + d0) := by
  rw [val_split B9 h0, val_drop_step B9 h1, List.drop_eq_nil_of_le (by omega)]
  simp only [val]
  congr 2
  show d0 + 1000000000 * (d1 + 1000000000 * 0) = _
  omega
/-- the facts of one guess -/
theorem guess_facts {ps ys : List Nat} {n t2 t1 t0 d1 d0 Q : Nat} (hpl : ps.length = n + 3) (hyl : ys.length = n + 2) (hpb : ∀ x ∈ ps, x < B9) (hyb : ∀ x ∈ ys, x < B9)
    (ht2 : ps[n + 2]? = some t2) (ht1 : ps[n + 1]? = some t1) (ht0 : ps[n]? = some t0) (hd1 : ys[n + 1]? = some d1) (hd0 : ys[n]? = some d0) (hhalf : 500000000 ≤ d1) (hlt : val B9 ps < B9 * val B9 ys)
    (hQ : ((t2 * 1000000000 + t1) * 1000000000 + t0) / (d1 * 1000000000 + d0) = Q) :
    t2 ≤ d1 ∧ Q ≤ 1000000001 ∧ val B9 ps / val B9 ys < 1000000000 ∧ (Q = val B9 ps / val B9 ys ∨ Q = val B9 ps / val B9 ys + 1) ∧ val B9 ps = val B9 (ps.take (n + 2)) + B9 ^ (n + 2) * t2 := by
  have e3 := val_top3 hpl ht2 ht1 ht0
  have e2 := val_top2 hyl hd1 hd0
  have l3 := val_take_lt B9 (by decide) hpb n
  have l2 := val_take_lt B9 (by decide) hyb n
  have t1b : t1 < 1000000000 := hpb _ (List.mem_of_getElem? ht1)
  have t0b : t0 < 1000000000 := hpb _ (List.mem_of_getElem? ht0)
  have d0b : d0 < 1000000000 := hyb _ (List.mem_of_getElem? hd0)
  have hpow : 0 < B9 ^ n := Nat.pow_pos (by decide)
  have e4 : val B9 ps = val B9 (ps.take (n + 2)) + B9 ^ (n + 2) * t2 := by
    rw [val_split B9 ht2, List.drop_eq_nil_of_le (by omega)]; simp [val]
  have hy0 : 0 < val B9 ys := by
    rw [e2]
    have := Nat.mul_pos hpow (by omega : 0 < d1 * 1000000000 + d0)
    omega
  have ht2d : t2 ≤ d1 := by
    have h1 : t2 * 1000000000 * 1000000000 * B9 ^ n < (d1 + 1) * 1000000000 * 1000000000 * B9 ^ n := by
      have a1 : t2 * 1000000000 * 1000000000 * B9 ^ n ≤ B9 ^ n * ((t2 * 1000000000 + t1) * 1000000000 + t0) := by
        rw [Nat.mul_comm (B9 ^ n)]; exact Nat.mul_le_mul_right _ (by omega)
      have a2 : B9 * val B9 ys ≤ (d1 + 1) * 1000000000 * 1000000000 * B9 ^ n := by
        have b1 : val B9 ys ≤ (d1 * 1000000000 + d0 + 1) * B9 ^ n := by
          rw [e2, Nat.add_mul _ 1, Nat.one_mul, Nat.mul_comm (B9 ^ n)]; omega
        have b2 : (d1 * 1000000000 + d0 + 1) * B9 ^ n ≤ ((d1 + 1) * 1000000000) * B9 ^ n := Nat.mul_le_mul_right _ (by omega)
        have b3 : B9 * val B9 ys ≤ B9 * (((d1 + 1) * 1000000000) * B9 ^ n) := Nat.mul_le_mul_left _ (Nat.le_trans b1 b2)
        have b4 : B9 * (((d1 + 1) * 1000000000) * B9 ^ n) = (d1 + 1) * 1000000000 * 1000000000 * B9 ^ n := by
          rw [Nat.mul_left_comm, ← Nat.mul_assoc]
        omega
      omega
    have := Nat.lt_of_mul_lt_mul_right h1
    omega
  have hQb : Q ≤ 1000000001 := by
    rw [← hQ, ← Nat.lt_succ_iff, Nat.div_lt_iff_lt_mul (by omega)]
    show _ < 1000000002 * (d1 * 1000000000 + d0)
    omega
  have hgb := guess_bounds (b := B9) (m := n) e3 l3 e2 l2 (by omega) (by rw [hQ]; omega)
  rw [hQ] at hgb
  have hq : val B9 ps / val B9 ys < 1000000000 := (Nat.div_lt_iff_lt_mul hy0).2 hlt
  generalize val B9 ps / val B9 ys = q at *
  exact ⟨ht2d, hQb, hq, by omega, e4⟩

/-- what takeMultiple leaves -/
def Taken (w : World) (g : Nat) (zs : List Nat) (o n pv dv : Nat) (w' : World) : Prop :=
  w.grownBy w' (some g) ∧ ∃ zs', Own w' g .u32 71 zs' ∧ zs'.length = zs.length ∧ (∀ x ∈ zs', x < B9) ∧ zs'.take o = zs.take o ∧ zs'.drop (o + n) = zs.drop (o + n) ∧ val B9 ((zs'.drop o).take n) = pv % dv

set_option maxHeartbeats 1000000 in
theorem takeMultiple_any (g o n c : Nat) (zs : List Nat) (A : Option Addr) (d : Nat) (ys : List Nat) (w : World) (hz : Own w g .u32 71 zs) (hzb : ∀ x ∈ zs, x < B9) (ho : o + n + 3 ≤ zs.length) (hN : n ≤ 2000000)
    (hr : RL w .u32 A (n + 2) ys) (hy : ∀ x ∈ ys, x < B9) (hs : Sp A (n + 2) g) (d1 : Nat) (hd1 : ys[n + 1]? = some d1) (hhalf : 500000000 ≤ d1)
    (pv dv : Nat) (hpv : val B9 ((zs.drop o).take (n + 3)) = pv) (hdv : val B9 ys = dv) (hlt : pv < B9 * dv) (q : Nat) (hq : pv / dv = q) :
    Calls Tryz.prog 121 #[.slice (some ⟨g, o, none⟩) (n + 3) c, .slice A (n + 2) d] w fun e w' => e = .returned (.int .u32 (q : Int)) ∧ Taken w g zs o (n + 2) pv dv w' := by
  have hps : ∃ ps, ps = (zs.drop o).take (n + 3) := ⟨_, rfl⟩
  obtain ⟨ps, hps⟩ := hps
  have hpl : ps.length = n + 3 := by rw [hps, List.length_take, List.length_drop]; omega
  have hp : RL w .u32 (some ⟨g, o, none⟩) (n + 3) ps := by
    have h1 := (hz.rl (n := zs.length) rfl).drop_ (m := o) (by omega)
    rw [Nat.zero_add] at h1
    have h2 := h1.take_ (m := n + 3) (by omega)
    rwa [← hps] at h2
  have hpb : ∀ x ∈ ps, x < B9 := fun x hx => hzb x (by rw [hps] at hx; exact List.mem_of_mem_drop (List.mem_of_mem_take hx))
  have g2 : ps[n + 2]? = some ps[n + 2] := List.getElem?_eq_getElem (by omega)
  have g1 : ps[n + 1]? = some ps[n + 1] := List.getElem?_eq_getElem (by omega)
  have g0 : ps[n]? = some ps[n] := List.getElem?_eq_getElem (by omega)
  have hyl := hr.len
  have gd0 : ys[n]? = some ys[n] := List.getElem?_eq_getElem (by omega)
  generalize ps[n + 2] = t2 at *
  generalize ps[n + 1] = t1 at *
  generalize ps[n] = t0 at *
  generalize ys[n] = d0 at *
  obtain ⟨Q, hQ⟩ : ∃ Q, ((t2 * 1000000000 + t1) * 1000000000 + t0) / (d1 * 1000000000 + d0) = Q := ⟨_, rfl⟩
  obtain ⟨f1, f2, f3, f4, f5⟩ := guess_facts hpl hyl hpb hy g2 g1 g0 hd1 gd0 hhalf (by rw [← hps] at hpv; rw [hpv, hdv]; exact hlt) hQ
  rw [← hps] at hpv
  rw [hpv, hdv, hq] at f3 f4
  rw [hpv] at f5
  have hzt : zs[o + (n + 2)]? = some t2 := by
    rw [hps, List.getElem?_take, if_pos (by omega), List.getElem?_drop] at g2
    exact g2
  have hpt : ps.take (n + 2) = (zs.drop o).take (n + 2) := by rw [hps, List.take_take]; congr 1; omega
  rw [hpt] at f5
  have t2b := hpb _ (List.mem_of_getElem? g2)
  have t1b := hpb _ (List.mem_of_getElem? g1)
  have t0b := hpb _ (List.mem_of_getElem? g0)
  have d1b := hy _ (List.mem_of_getElem? hd1)
  have d0b := hy _ (List.mem_of_getElem? gd0)
  have hdv0 : 0 < dv := by
    rcases Nat.eq_zero_or_pos dv with h | h
    · rw [h, Nat.mul_zero] at hlt; omega
    · exact h
  have hq1 : q * dv ≤ pv := by rw [← hq]; exact Nat.div_mul_le_self _ _
  have hq2 : pv - q * dv = pv % dv := by rw [← hq, Nat.mod_eq_sub_mul_div, Nat.mul_comm]
  have hq3 : pv % dv < dv := Nat.mod_lt _ hdv0
  have hdM : dv < B9 ^ (n + 2) := by rw [← hdv, ← hyl]; exact val_lt B9 (by decide) ys hy
  have KG : Hid (∀ w', RL w' .u32 (some ⟨g, o, none⟩) (n + 3) ps → RL w' .u32 A (n + 2) ys → Calls Tryz.prog 133 #[.slice (some ⟨g, o, none⟩) (n + 3) c, .slice A (n + 2) d] w' fun e w'' => e = .returned (.int .u64 (Q : Int)) ∧ ∃ k, w'' = w'.drewN k) :=
    fun w' h1 h2 => guessLimb_any g o n c ps A d ys w' h1 h2 hN d1 d0 t2 t1 t0 hd1 gd0 g2 g1 g0 d1b d0b t2b t1b t0b hhalf f1 Q hQ
  have HZB := hide hzb
  have HY := hide hy
  have HZT := hide hzt
  have H4 := hide f4
  have H5 := hide f5
  have HDV := hide hdv
  have H1 := hide hq1
  have H2 := hide hq2
  have H3 := hide hq3
  have HM := hide hdM
  clear hzb hy hzt f4 f5 hdv hq1 hq2 hq3 hdM hq hpv hps hpt hyl hpl g2 g1 g0 gd0 hd1 hpb hQ t2b t1b t0b d1b d0b hlt f1
  go_enter Tryz.func121, Tryz.ntmps121
  go_wp2_with fail
  refine (KG.out _ hp hr).mono ?_
  rintro e w1 ⟨rfl, k1, rfl⟩
  have hz1 : Own (w.drewN k1) g .u32 71 zs := hz
  have hr1 := hr.drewN k1
  go_wp2_with fail
  refine (subtractMultiple_any g o (n + 3) c zs A (n + 2) d ys Q t2 _ hz1 HZB.out HZT.out (by omega) (by unfold maxLen; omega) hr1 HY.out hs (by unfold maxLen; omega) f2 (Q * dv) (by rw [HDV.out])).mono ?_
  rintro e w2 ⟨neg, rfl, hg2, zs2, Bw, hz2, hl2, hb2, ht2, hd2, hv2, hneg⟩
  have hlt2 : val B9 ((zs2.drop o).take (n + 2)) < B9 ^ (n + 2) := val_take_lt B9 (by decide) (fun x hx => hb2 x (List.mem_of_mem_drop hx)) _
  have hgw : w.grownBy w2 (some g) := only_trans (only_drewN (World.grownBy.refl w (some g)) k1) hg2
  rcases H4.out with hQq | hQq
  · subst hQq
    have h3 := H3.out
    have hM := HM.out
    have hfin := no_neg hv2 H5.out hlt2 H1.out (by rw [H2.out]; omega)
    have hng : neg = false := by rw [hneg]; simp; omega
    subst hng
    have HF := hide hfin.2
    have K1 := hide hl2
    have K2 := hide hb2
    have K3 := hide ht2
    have K4 := hide hd2
    clear hneg hfin hl2 hb2 ht2 hd2 hv2 hlt2 h3 hM hr1 hz1
    go_wp2
    go_ret
    exact ⟨rfl, hgw, zs2, hz2, K1.out, K2.out, K3.out, K4.out, by rw [HF.out, H2.out]⟩
  · have hS : Q * dv = q * dv + dv := by rw [hQq, Nat.add_mul, Nat.one_mul]
    have h3 := H3.out
    have h2 := H2.out
    have h1 := H1.out
    have hM := HM.out
    have hng : neg = true := by rw [hneg]; simp; exact is_neg hv2 H5.out (by omega)
    subst hng
    have HB := hide hv2
    have HS := hide hS
    have HQ := hide hQq
    have K2 := hide hb2
    have K1 := hide hl2
    have K3 := hide ht2
    have K4 := hide hd2
    have hlen : o + (n + 2) ≤ zs2.length := by omega
    have hr2 := hr.grown hgw hs
    have hq1 : 1 ≤ Q := by omega
    clear hneg hl2 hb2 ht2 hd2 hv2 hlt2 h3 h2 h1 hM hr1 hz1 hS hQq
    go_wp2_with fail
    refine (addBack_any g o (n + 3) c zs2 A (n + 2) d ys _ hz2 K2.out hlen (by omega) (by unfold maxLen; omega) hr2 HY.out hs (by unfold maxLen; omega)).mono ?_
    rintro e w3 ⟨rfl, hg3, zs3, C, hz3, hl3, hb3, ht3, hd3, hv3⟩
    have hlt3 : val B9 ((zs3.drop o).take (n + 2)) < B9 ^ (n + 2) := val_take_lt B9 (by decide) (fun x hx => hb3 x (List.mem_of_mem_drop hx)) _
    have HF := hide (back_end HB.out (by rw [← HDV.out]; exact hv3) H5.out HS.out H1.out (by rw [H2.out]; have := H3.out; have := HM.out; omega) hlt3)
    have L1 := hide hl3
    have L2 := hide hb3
    have L3 := hide ht3
    have L4 := hide hd3
    clear hl3 hb3 ht3 hd3 hv3 hlt3
    go_wp2
    go_ret
    refine ⟨ret_int (by have := HQ.out; omega), only_trans hgw hg3, zs3, hz3, by rw [L1.out]; exact K1.out, L2.out, by rw [L3.out]; exact K3.out, by rw [L4.out]; exact K4.out, by rw [HF.out, H2.out]⟩
end Go.Proofs.YtoeknkakdoemfaaGreatDoor

/- The contract of natural.divideLong. -/
namespace Go.Proofs.YtoeknkakdoemfaaGreatDoor
open Go Go.RowKit

theorem scale_facts {t : Nat} (h1 : 1 ≤ t) (h2 : t < 1000000000) : 1 ≤ 1000000000 / (t + 1) ∧ 1000000000 / (t + 1) ≤ 500000000 ∧ 1000000000 / (t + 1) * (t + 1) ≤ 1000000000 ∧ 500000000 ≤ 1000000000 / (t + 1) * t := by
  have h3 : 1000000000 / (t + 1) * (t + 1) ≤ 1000000000 := Nat.div_mul_le_self _ _
  have h4 : 1 ≤ 1000000000 / (t + 1) := by rw [Nat.le_div_iff_mul_le (by omega)]; omega
  have h5 : 1000000000 < (1000000000 / (t + 1) + 1) * (t + 1) := by
    have := Nat.lt_mul_div_succ 1000000000 (show 0 < t + 1 by omega)
    rwa [Nat.mul_comm] at this
  generalize 1000000000 / (t + 1) = s at *
  have e1 : s * (t + 1) = s * t + s := by rw [Nat.mul_add, Nat.mul_one]
  have e2 : (s + 1) * (t + 1) = s * t + s + t + 1 := by rw [Nat.add_mul, Nat.one_mul, e1]; omega
  refine ⟨h4, ?_, h3, ?_⟩
  · have : s * 2 ≤ s * (t + 1) := Nat.mul_le_mul_left _ (by omega)
    omega
  · rcases Nat.lt_or_ge s 2 with h | h
    · obtain rfl : s = 1 := by omega
      omega
    · obtain ⟨p, rfl⟩ : ∃ p, s = p + 2 := ⟨s - 2, by omega⟩
      obtain ⟨r, rfl⟩ : ∃ r, t = r + 1 := ⟨t - 1, by omega⟩
      have e3 : (p + 2) * (r + 1) = p * r + p + 2 * r + 2 := by rw [Nat.add_mul, Nat.mul_add]; omega
      omega

/-- the divisor, scaled -/
theorem divisor_facts {zs : List Nat} {n v t s : Nat} (hl : zs.length = n + 3) (hz : ∀ x ∈ zs, x < B9) (hv : val B9 zs = s * v) (hvl : (dig B9 v).length = n + 2) (ht : (dig B9 v)[n + 1]? = some t) (hs : s = 1000000000 / (t + 1)) :
    val B9 (zs.take (n + 2)) = s * v ∧ ∃ d1, (zs.take (n + 2))[n + 1]? = some d1 ∧ 500000000 ≤ d1 := by
  have htb : t < 1000000000 := dig_lt B9 (by decide) v t (List.mem_of_getElem? ht)
  have hsp := val_split B9 ht
  rw [val_dig B9 (by decide), List.drop_eq_nil_of_le (by omega)] at hsp
  simp only [val, Nat.mul_zero, Nat.add_zero] at hsp
  have hlow := val_take_lt B9 (by decide) (dig_lt B9 (by decide) v) (n + 1)
  have hp : 0 < B9 ^ (n + 1) := Nat.pow_pos (by decide)
  have ht1 : 1 ≤ t := by
    rcases Nat.eq_zero_or_pos t with h | h
    · rw [h, Nat.mul_zero] at hsp
      have := (dig_length_le B9 (by decide) (n + 1) v).2 (by omega)
      omega
    · exact h
  obtain ⟨s1, s2, s3, s4⟩ := scale_facts ht1 htb
  rw [← hs] at s1 s2 s3 s4
  generalize val B9 ((dig B9 v).take (n + 1)) = lo at *
  -- s * v is below B9 ^ (n + 2)
  have hup : s * v < B9 ^ (n + 2) := by
    have e1 : v < B9 ^ (n + 1) * (t + 1) := by rw [Nat.mul_add, Nat.mul_one]; omega
    have e2 : s * v < s * (B9 ^ (n + 1) * (t + 1)) := Nat.mul_lt_mul_of_pos_left e1 (by omega)
    have e3 : s * (B9 ^ (n + 1) * (t + 1)) = B9 ^ (n + 1) * (s * (t + 1)) := Nat.mul_left_comm _ _ _
    have e4 : B9 ^ (n + 1) * (s * (t + 1)) ≤ B9 ^ (n + 1) * B9 := Nat.mul_le_mul_left _ s3
    rw [Nat.pow_succ B9 (n + 1)]
    omega
  have g2 : zs[n + 2]? = some zs[n + 2] := List.getElem?_eq_getElem (by omega)
  generalize zs[n + 2] = z2 at g2
  have hs2 := val_split B9 g2
  rw [List.drop_eq_nil_of_le (by omega)] at hs2
  simp only [val, Nat.mul_zero, Nat.add_zero] at hs2
  have hz2 : z2 = 0 := by
    rcases Nat.eq_zero_or_pos z2 with h | h
    · exact h
    · have : B9 ^ (n + 2) * 1 ≤ B9 ^ (n + 2) * z2 := Nat.mul_le_mul_left _ h
      omega
  rw [hz2, Nat.mul_zero, Nat.add_zero] at hs2
  refine ⟨by rw [← hs2, hv], ?_⟩
  have g1 : zs[n + 1]? = some zs[n + 1] := List.getElem?_eq_getElem (by omega)
  generalize zs[n + 1] = d1 at g1
  refine ⟨d1, by rw [List.getElem?_take, if_pos (by omega)]; exact g1, ?_⟩
  have g1' : (zs.take (n + 2))[n + 1]? = some d1 := by rw [List.getElem?_take, if_pos (by omega)]; exact g1
  have hs1 := val_split B9 g1'
  rw [List.drop_eq_nil_of_le (by rw [List.length_take]; omega), ← hs2, hv, List.take_take, Nat.min_eq_left (by omega)] at hs1
  simp only [val, Nat.mul_zero, Nat.add_zero] at hs1
  have hl1 := val_take_lt B9 (by decide) hz (n + 1)
  have h5 : s * t * B9 ^ (n + 1) < (d1 + 1) * B9 ^ (n + 1) := by
    have e1 : s * v = s * lo + s * t * B9 ^ (n + 1) := by rw [hsp, Nat.mul_add, Nat.mul_left_comm, Nat.mul_comm (B9 ^ (n + 1))]
    have e2 : (d1 + 1) * B9 ^ (n + 1) = B9 ^ (n + 1) * d1 + B9 ^ (n + 1) := by rw [Nat.add_mul, Nat.one_mul, Nat.mul_comm]
    omega
  have := Nat.lt_of_mul_lt_mul_right h5
  omega
/-- the first remainder is below the divisor -/
theorem first_rest {X : List Nat} {m n u v s : Nat} (hX : val B9 X = s * u) (hl : X.length = m + n + 3) (hu : (dig B9 u).length = m + n + 2) (hv : (dig B9 v).length = n + 2) (hs : 0 < s) : val B9 (X.drop (m + 1)) < s * v := by
  have h1 : u < B9 ^ (m + n + 2) := (dig_length_le B9 (by decide) _ u).1 (by omega)
  have h2 : B9 ^ (n + 1) ≤ v := by
    rcases Nat.lt_or_ge v (B9 ^ (n + 1)) with h | h
    · have := (dig_length_le B9 (by decide) (n + 1) v).2 h
      omega
    · exact h
  have h3 : val B9 X = val B9 (X.take (m + 1)) + B9 ^ (m + 1) * val B9 (X.drop (m + 1)) := by
    have := val_append B9 (X.take (m + 1)) (X.drop (m + 1))
    rwa [List.take_append_drop, List.length_take, Nat.min_eq_left (by omega)] at this
  have h4 : B9 ^ (m + 1) * val B9 (X.drop (m + 1)) < B9 ^ (m + 1) * (s * v) := by
    have a1 : s * u < s * B9 ^ (m + n + 2) := Nat.mul_lt_mul_of_pos_left h1 hs
    have a2 : B9 ^ (m + n + 2) = B9 ^ (m + 1) * B9 ^ (n + 1) := by rw [← Nat.pow_add]; congr 1; omega
    have a3 : s * (B9 ^ (m + 1) * B9 ^ (n + 1)) = B9 ^ (m + 1) * (s * B9 ^ (n + 1)) := Nat.mul_left_comm _ _ _
    have a4 : B9 ^ (m + 1) * (s * B9 ^ (n + 1)) ≤ B9 ^ (m + 1) * (s * v) := Nat.mul_le_mul_left _ (Nat.mul_le_mul_left _ h2)
    rw [a2, a3] at a1
    omega
  exact Nat.lt_of_mul_lt_mul_left h4

theorem zeros_lt {k : Nat} : ∀ x ∈ List.replicate k 0, x < B9 := fun x hx => by rw [List.eq_of_mem_replicate hx]; decide
/-- two slices of values -/
def GivesTwo (u v : Nat) (w : World) (e : Ending) (w' : World) : Prop :=
  ∃ A n c A' n' c', e = .returned (.tuple #[.slice A n c, .slice A' n' c']) ∧ RL w' .u32 A n (dig B9 u) ∧ n ≤ c ∧ c ≤ maxLen ∧ RL w' .u32 A' n' (dig B9 v) ∧ n' ≤ c' ∧ c' ≤ maxLen ∧ Below w.heap.size w w'

set_option maxHeartbeats 1000000 in
theorem divideLong_any (A : Option Addr) (m n c : Nat) (u : Nat) (A' : Option Addr) (d : Nat) (v : Nat) (w : World) (hr : RL w .u32 A (m + n + 2) (dig B9 u)) (hr' : RL w .u32 A' (n + 2) (dig B9 v)) (hN : m + n ≤ 1000000) :
    Calls Tryz.prog 103 #[.slice A (m + n + 2) c, .slice A' (n + 2) d] w (GivesTwo (u / v) (u % v) w) := by
  obtain ⟨b, o, t, rfl, ht, hcell⟩ := hr'.at_ (j := n + 1) (by omega)
  have hcell : w.cell? ⟨b, o + (n + 1), none⟩ = some (.int .u32 (t : Int)) := hcell
  have htb : t < 1000000000 := dig_lt B9 (by decide) v t (List.mem_of_getElem? ht)
  obtain ⟨s, hs⟩ : ∃ s, s = 1000000000 / (t + 1) := ⟨_, rfl⟩
  have hsI : (1000000000 : Int) / ((t : Int) + 1) = (s : Int) := by rw [hs]; exact (cast_div 1000000000 (t + 1))
  have HS := hide hs
  have HT := hide ht
  have ht1 : 1 ≤ t := (nd_top hr'.len (by omega) ht).2 |> Nat.pos_of_ne_zero
  obtain ⟨hs1, hs2, _, _⟩ := scale_facts ht1 htb
  rw [← hs] at hs1 hs2
  clear hs ht
  go_enter Tryz.func103, Tryz.ntmps103
  go_wp2_with (at_make; refine wpList_make_zero _ rfl _ _ 22 rfl 71 .u32 4 Tryz.underlying22 u32_info .i64 .i64 _ _ (m + n + 3) rfl rfl (by go_num) (by go_num) (by omega) (by omega) ?_; intro g1 w1 hg1 hown1 hbel1)
  have hgl1 := hown1.lt
  refine (addMultiple_any g1 0 (m + n + 3) (m + n + 3) _ A (m + n + 2) c (dig B9 u) s w1 hown1 zeros_lt (by rw [List.getElem?_replicate, if_pos (by omega)]) (by omega) (by unfold maxLen; omega) (hr.below hbel1) (dig_lt B9 (by decide) u) (hr.sp hg1) (by unfold maxLen; omega) (by omega)).mono ?_
  rintro e w2 ⟨rfl, hgr1, X, hX, hXl, hXb, _, hXv⟩
  have hb2 := below_only hbel1 hgr1 hbel1.size hg1
  have hXv2 : val B9 X = s * u := by rw [hXv, val_replicate_zero, val_dig B9 (by decide)]; simp
  have hXl2 : X.length = m + n + 3 := by rw [hXl]; simp
  have KX1 := hide hXv2
  have KX2 := hide hXl2
  have KX3 := hide hXb
  clear hXl hXv hXv2 hXl2 hXb hgr1 hown1 hbel1
  go_wp2_with (at_make; refine wpList_make_zero _ rfl _ _ 22 rfl 71 .u32 4 Tryz.underlying22 u32_info .i64 .i64 _ _ (n + 3) rfl rfl (by go_num) (by go_num) (by omega) (by omega) ?_; intro g2 w3 hg2 hown2 hbel2)
  have hX3 := hX.below' hbel2
  have hne12 : g1 < g2 := by have := hX.lt; omega
  have hb3 := hb2.trans (hbel2.mono hb2.size)
  refine (addMultiple_any g2 0 (n + 3) (n + 3) _ (some ⟨b, o, none⟩) (n + 2) d (dig B9 v) s w3 hown2 zeros_lt (by rw [List.getElem?_replicate, if_pos (by omega)]) (by omega) (by unfold maxLen; omega) (hr'.below hb3) (dig_lt B9 (by decide) v) (hr'.sp (by have := hb2.size; omega)) (by unfold maxLen; omega) (by omega)).mono ?_
  rintro e w4 ⟨rfl, hgr2, Y, hY, hYl, hYb, _, hYv⟩
  have hb4 := below_only hb3 hgr2 hb3.size (by have := hb2.size; omega)
  have hX4 := hX3.grown hgr2 (by omega)
  have hYv2 : val B9 Y = s * v := by rw [hYv, val_replicate_zero, val_dig B9 (by decide)]; simp
  have hYl2 : Y.length = n + 3 := by rw [hYl]; simp
  obtain ⟨hYt, d1, hd1, hhalf⟩ := divisor_facts hYl2 hYb hYv2 hr'.len HT.out HS.out
  have KY1 := hide hYt
  have KY2 := hide hYl2
  have KY3 := hide hYb
  have KY4 := hide hd1
  clear hYt hYl hYl2 hYb hYv hYv2 hd1 hgr2 hown2 hbel2 hX hX3 hb2 hb3
  go_wp2_with (at_make; refine wpList_make_zero _ rfl _ _ 22 rfl 71 .u32 4 Tryz.underlying22 u32_info .i64 .i64 _ _ (m + 1) rfl rfl (by go_num) (by go_num) (by omega) (by omega) ?_; intro g3 w5 hg3 hown3 hbel3)
  have hX5 := hX4.below' hbel3
  have hY5 := hY.below' hbel3
  have hne13 : g1 < g3 := by have := hX4.lt; omega
  have hne23 : g2 < g3 := by have := hY.lt; omega
  have hb5 := hb4.trans (hbel3.mono hb4.size)
  rw [show ((m : Int) + (n : Int) + 2 - ((n : Int) + 2)) = (m : Int) from by omega]
  have hlen : Hid ((dig B9 u).length = m + n + 2) := hr.len
  have hlen' : Hid ((dig B9 v).length = n + 2) := hr'.len
  clear hbel3 hX4 hY hr hr' hb4
  go_loopw [10] (fun i wr => ∃ (k : Nat) (Z q : List Nat), k ≤ m + 1 ∧ i = .int .i64 ((k : Int) - 1) ∧ Own wr g1 .u32 71 Z ∧ Own wr g2 .u32 71 Y ∧ Own wr g3 .u32 71 q ∧ Below w.heap.size w wr ∧ Z.length = m + n + 3 ∧ q.length = m + 1 ∧ (∀ x ∈ Z, x < B9) ∧ (∀ x ∈ q, x < B9) ∧
      Z.take k = X.take k ∧ val B9 ((Z.drop k).take (n + 2)) = val B9 (X.drop k) % (s * v) ∧ val B9 (q.drop k) = val B9 (X.drop k) / (s * v)) (fun i _ => (intOf i + 1).toNat)
  case atStart =>
    have h1 := first_rest KX1.out KX2.out hlen.out hlen'.out hs1
    have h2 : (X.drop (m + 1)).take (n + 2) = X.drop (m + 1) := List.take_of_length_le (by rw [List.length_drop, KX2.out]; omega)
    have h3 : (List.replicate (m + 1) 0).drop (m + 1) = [] := List.drop_eq_nil_of_le (by simp)
    exact ⟨m + 1, X, List.replicate (m + 1) 0, by omega, by go_num, hX5, hY5, hown3, hb5, KX2.out, by simp, KX3.out, zeros_lt, rfl, by rw [h2, Nat.mod_eq_of_lt h1], by rw [h3, Nat.div_eq_of_lt h1]; rfl⟩
  case round =>
    obtain ⟨k, Z, q, hk, rfl, hZ, hYr, hq, hbr, hZl, hql, hZb, hqb, htk, hR, hQ⟩ := hrel
    clear hX5 hY5 hb5 hown3
    have J1 := hide hZl
    have J2 := hide hql
    have J3 := hide hZb
    have J4 := hide hqb
    have J5 := hide htk
    have J6 := hide hR
    have J7 := hide hQ
    by_cases h0 : k = 0
    · subst h0
      have HT2 := hide (show trimL q = dig B9 (u / v) from by
        rw [trimL_dig B9 (by decide) q hqb]
        have h1 : val B9 q = val B9 X / (s * v) := hQ
        rw [h1, KX1.out, Nat.mul_div_mul_left _ _ hs1])
      have HR2 := hide (show val B9 (Z.take (n + 2)) = s * (u % v) from by
        have h1 : val B9 (Z.take (n + 2)) = val B9 X % (s * v) := hR
        rw [h1, KX1.out, Nat.mul_mod_mul_left])
      have hZt : RL wr .u32 (some ⟨g1, 0, none⟩) (n + 2) (Z.take (n + 2)) := (hZ.rl (n := m + n + 3) hZl).take_ (by omega)
      have hZtb : Hid (∀ x ∈ Z.take (n + 2), x < B9) := fun x hx => hZb x (List.mem_of_mem_take hx)
      clear hZl hql hZb hqb htk hR hQ
      go_wp2_with fail
      refine (divideShort_any _ (n + 2) _ (Z.take (n + 2)) s wr hZt (by omega) hZtb.out (by omega) (by omega)).mono ?_
      rintro e w6 ⟨A6, n6, c6, rfl, hr6, hn6, hc6, hb6⟩
      have hv6 : val B9 (Z.take (n + 2)) / s = u % v := by rw [HR2.out, Nat.mul_div_cancel_left _ hs1]
      rw [hv6] at hr6
      have hq6 := hq.below' hb6
      clear hv6
      go_wp2_with fail
      refine (trim_any _ (m + 1) (m + 1) q _ (hq6.rl J2.out) (Nat.le_refl _) (by unfold maxLen; omega)).mono ?_
      rintro e w' ⟨rfl, rfl⟩
      have h3 := hq6.trim (n := m + 1) HT2.out J2.out
      rw [HT2.out]
      go_wp2
      go_ret2
      exact ⟨_, _, _, _, _, _, rfl, h3.1, h3.2, by unfold maxLen; omega, hr6, hn6, hc6, hbr.trans (hb6.mono hbr.size)⟩
    · obtain ⟨k, rfl⟩ : ∃ j, k = j + 1 := ⟨k - 1, by omega⟩
      have hkX : k < X.length := by have := KX2.out; omega
      have gx : X[k]? = some X[k] := List.getElem?_eq_getElem hkX
      generalize X[k] = x at gx
      have hxb : x < 1000000000 := KX3.out x (List.mem_of_getElem? gx)
      have gz : Z[k]? = some x := by
        have h1 := congrArg (fun l : List Nat => l[k]?) htk
        simp only [List.getElem?_take] at h1
        rw [if_pos (by omega), if_pos (by omega)] at h1
        rw [h1, gx]
      have hdv0 : 0 < s * v := by
        rcases Nat.eq_zero_or_pos (s * v) with h | h
        · have := KY1.out
          rw [h] at this
          have h4 := val_split B9 KY4.out
          have h5 : 0 < B9 ^ (n + 1) * (d1 + B9 * val B9 ((Y.take (n + 2)).drop (n + 1 + 1))) := Nat.mul_pos (Nat.pow_pos (by decide)) (by omega)
          omega
        · exact h
      obtain ⟨dv, hdv⟩ : ∃ dv, dv = s * v := ⟨_, rfl⟩
      rw [← hdv] at hR hQ hdv0
      obtain ⟨R, hRe⟩ : ∃ R, R = val B9 ((Z.drop (k + 1)).take (n + 2)) := ⟨_, rfl⟩
      rw [← hRe] at hR
      have hRlt : R < dv := by rw [hR]; exact Nat.mod_lt _ hdv0
      have hpv : val B9 ((Z.drop k).take (n + 3)) = R * B9 + x := by
        have hl := lt_of_getElem? gz
        have e1 : Z.drop k = x :: Z.drop (k + 1) := by
          rw [List.drop_eq_getElem_cons hl]
          rw [List.getElem?_eq_getElem hl] at gz
          rw [Option.some.inj gz]
        rw [e1, List.take_succ_cons]
        simp only [val]
        rw [← hRe, Nat.mul_comm B9 R]
        omega
      have hlt : R * B9 + x < B9 * dv := by
        have h1 : (R + 1) * B9 ≤ dv * B9 := Nat.mul_le_mul_right _ hRlt
        rw [Nat.add_mul, Nat.one_mul, Nat.mul_comm dv] at h1
        have : x < B9 := hxb
        omega
      obtain ⟨qd, hqd⟩ : ∃ qd, (R * B9 + x) / dv = qd := ⟨_, rfl⟩
      have hqdb : qd < 1000000000 := by rw [← hqd]; exact div_bound hRlt hxb
      have hst := div_step (D := dv) (V := val B9 (X.drop (k + 1))) (x := x) (b := B9) hdv0
      rw [← val_drop_step B9 gx, ← hR, ← hQ, hqd] at hst
      have HST := hide hst
      have HDV := hide hdv
      have HPV := hide hpv
      have HLT := hide hlt
      have HQD := hide hqd
      have gq : q[k]? = some q[k] := List.getElem?_eq_getElem (by omega)
      generalize q[k] = qk at gq
      have HGQ := hide gq
      have hkq : k < q.length := by omega
      have hsp : Sp (some ⟨g2, 0, none⟩) (n + 2) g1 := fun _ b o e => by injection e with e; injection e with e1 e2; omega
      have hYr2 : RL wr .u32 (some ⟨g2, 0, none⟩) (n + 2) (Y.take (n + 2)) := (hYr.rl (n := n + 3) KY2.out).take_ (by omega)
      have hYb : Hid (∀ x ∈ Y.take (n + 2), x < B9) := fun x hx => KY3.out x (List.mem_of_mem_take hx)
      have hkl : k + n + 3 ≤ Z.length := by omega
      clear hZl hql hZb hqb htk hR hQ gx gz hdv hRe hpv hlt hqd hst gq
      rw [show (((k + 1 : Nat) : Int) - 1) = (k : Int) from by omega]
      go_wp2_with fail
      rw [show k + (n + 2) + 1 - k = n + 3 from by omega]
      refine (takeMultiple_any g1 k n _ Z (some ⟨g2, 0, none⟩) _ (Y.take (n + 2)) wr hZ J3.out hkl (by omega) hYr2 hYb.out hsp d1 KY4.out hhalf (R * B9 + x) dv HPV.out (by rw [KY1.out, HDV.out]) HLT.out qd HQD.out).mono ?_
      rintro e w6 ⟨rfl, hg6, Z6, hZ6, hZl6, hZb6, htk6, hdr6, hv6⟩
      have hY6 := hYr.grown hg6 (by omega)
      have hq6 := hq.grown hg6 (by omega)
      have hold : w6.cell? ⟨g3, k, none⟩ = some (.int .u32 (qk : Int)) := hq6.cell HGQ.out
      have hfz := hq6.frozen k
      have hb6 := below_only hbr hg6 hbr.size hg1
      have M1 := hide hZl6
      have M2 := hide hZb6
      have M3 := hide htk6
      have M4 := hide hv6
      have hg30 : w.heap.size ≤ g3 := by omega
      clear hZl6 hZb6 htk6 hdr6 hv6
      go_wp2
      go_roundw
      case rel =>
        refine ⟨k, Z6, q.set k qd, by omega, rfl, hZ6.far (by simp; omega) _, hY6.far (by simp; omega) _, hq6.put k rfl, hb6.setCell hg30 _, by rw [M1.out]; exact J1.out, by rw [List.length_set]; exact J2.out, M2.out, all_set J4.out hqdb, ?_, ?_, ?_⟩
        · rw [M3.out]
          have h1 := congrArg (List.take k) J5.out
          rwa [List.take_take, List.take_take, Nat.min_eq_left (by omega)] at h1
        · rw [M4.out, ← HDV.out]; exact HST.out.2.symm
        · rw [val_drop_set B9 q k qd hkq, ← HDV.out]
          exact HST.out.1.symm
      case measure => simp [intOf]
end Go.Proofs.YtoeknkakdoemfaaGreatDoor

/- The contracts of natural.divide, natural.DivMod. -/
namespace Go.Proofs.YtoeknkakdoemfaaGreatDoor
open Go Go.RowKit

set_option maxHeartbeats 1000000 in
theorem divide_any (A : Option Addr) (n c : Nat) (u : Nat) (A' : Option Addr) (m d : Nat) (v : Nat) (w : World) (hr : RL w .u32 A n (dig B9 u)) (hr' : RL w .u32 A' m (dig B9 v)) (hv : v ≠ 0) (hN : n ≤ 1000000) (hM : m ≤ 1000000) :
    Calls Tryz.prog 75 #[.slice A n c, .slice A' m d] w (GivesTwo (u / v) (u % v) w) := by
  have hm0 : 0 < m := by
    rcases Nat.eq_zero_or_pos m with h | h
    · have := (dig_eq_nil B9 (by decide)).1 (List.eq_nil_of_length_eq_zero (by rw [hr'.len]; exact h) : dig B9 v = [])
      exact absurd this hv
    · exact h
  by_cases huv : u < v
  · have HC := hide (cmpI_lt huv)
    have H1 := hide (Nat.div_eq_of_lt huv)
    have H2 := hide (Nat.mod_eq_of_lt huv)
    clear huv
    go_enter Tryz.func75, Tryz.ntmps75
    go_wp2_with fail
    refine (compare_as (-1) A A' n m c d u v w hr hr' (by unfold maxLen; omega) HC.out).mono ?_
    rintro e w1 ⟨rfl, k1, rfl⟩
    have hr1 := hr.drewN k1
    go_wp2_with fail
    refine (clone_any A n c _ _ hr1 (by omega)).mono ?_
    rintro e w2 ⟨A2, n2, c2, rfl, hr2, hn2, hc2, hb2⟩
    go_wp2
    go_ret2
    refine ⟨none, 0, 0, A2, n2, c2, rfl, ?_, by omega, by simp [maxLen], ?_, hn2, hc2, (below_drewN (Below.refl _ _) k1).trans hb2⟩
    · rw [H1.out]; exact RL.nil_
    · rw [H2.out]; exact hr2
  · have hcmp : ∃ r, cmpI u v = r ∧ 0 ≤ r := by
      rcases Nat.lt_or_ge v u with h | h
      · exact ⟨1, cmpI_gt h, by omega⟩
      · exact ⟨0, cmpI_eq (by omega), by omega⟩
    obtain ⟨r, hc0, hr0⟩ := hcmp
    have HC := hide hc0
    have hle : m ≤ n := by rw [← hr.len, ← hr'.len]; exact dig_mono B9 (by decide) (by omega)
    have hdr : decide (r < 0) = false := by simp; omega
    clear hc0 huv
    by_cases hm1 : m = 1
    · subst hm1
      obtain ⟨b, o, x, rfl, hx, hcell⟩ := hr'.at_ (j := 0) (by omega)
      have hcell : w.cell? ⟨b, o, none⟩ = some (.int .u32 (x : Int)) := hcell
      have hxb : x < 1000000000 := dig_lt B9 (by decide) v x (List.mem_of_getElem? hx)
      have hxv : x = v := by
        have h1 := val_split B9 hx
        rw [val_dig B9 (by decide), List.drop_eq_nil_of_le (by rw [hr'.len]; omega)] at h1
        simp [val] at h1
        exact h1.symm
      subst hxv
      have HX := hide hr.len
      clear hx
      go_enter Tryz.func75, Tryz.ntmps75
      go_wp2_with fail
      refine (compare_as r A _ n 1 c d u x w hr hr' (by unfold maxLen; omega) HC.out).mono ?_
      rintro e w1 ⟨rfl, k1, rfl⟩
      have hr1 := hr.drewN k1
      have hcell : (w.drewN k1).cell? ⟨b, o, none⟩ = some (.int .u32 (x : Int)) := hcell
      go_wp2_with fail
      refine (divideShort_any A n c (dig B9 u) x _ hr1 (by omega) (dig_lt B9 (by decide) u) (by omega) (by omega)).mono ?_
      rintro e w2 ⟨A2, n2, c2, rfl, hr2, hn2, hc2, hb2⟩
      rw [val_dig B9 (by decide)] at hr2
      have hq : u % x < x := Nat.mod_lt _ (by omega)
      rw [val_dig B9 (by decide)]
      generalize hR : u % x = R at *
      have HR := hide hR
      clear hR
      go_wp2_with fail
      have ho : RL (w2.alloc (Obj.cells #[Value.int IntKind.u32 (R : Int)] 71)) .u32 (some ⟨w2.heap.size, 0, none⟩) 1 [R] := RL.one w2 .u32 71 rfl
      refine (trim_any _ 1 1 [R] _ ho (Nat.le_refl _) (by unfold maxLen; omega)).mono ?_
      rintro e w' ⟨rfl, rfl⟩
      have e1 : trimL [R] = dig B9 R := by
        rw [trimL_dig B9 (by decide) [R] (by intro y hy; simp at hy; subst hy; show y < 1000000000; omega)]
        simp [val]
      have h3 := (Own.new w2 .u32 71 [R]).trim (n := 1) e1 rfl
      have hb3 : Below w.heap.size w (w2.alloc (Obj.cells #[Value.int IntKind.u32 (R : Int)] 71)) := ((below_drewN (Below.refl _ _) k1).trans hb2).alloc hb2.size _
      have hr3 := hr2.below ((Below.refl _ _).alloc (Nat.le_refl _) (Obj.cells #[Value.int IntKind.u32 (R : Int)] 71))
      rw [e1]
      clear e1
      go_wp2
      go_ret2
      exact ⟨A2, n2, c2, _, _, _, rfl, hr3, hn2, hc2, h3.1, h3.2, by simp [maxLen], hb3⟩
    · obtain ⟨p, rfl⟩ : ∃ p, m = p + 2 := ⟨m - 2, by omega⟩
      obtain ⟨q, rfl⟩ : ∃ q, n = q + p + 2 := ⟨n - (p + 2), by omega⟩
      have hne : ((p : Int) + 2 == 1) = false := by simp; omega
      go_enter Tryz.func75, Tryz.ntmps75
      go_wp2_with fail
      refine (compare_as r A A' (q + p + 2) (p + 2) c d u v w hr hr' (by unfold maxLen; omega) HC.out).mono ?_
      rintro e w1 ⟨rfl, k1, rfl⟩
      have hr1 := hr.drewN k1
      have hr1' := hr'.drewN k1
      go_wp2_with fail
      refine (divideLong_any A q p c u A' d v _ hr1 hr1' (by omega)).mono ?_
      rintro e w2 ⟨A2, n2, c2, A3, n3, c3, rfl, hr2, hn2, hc2, hr3, hn3, hc3, hb2⟩
      go_wp2
      go_ret2
      exact ⟨A2, n2, c2, A3, n3, c3, rfl, hr2, hn2, hc2, hr3, hn3, hc3, (below_drewN (Below.refl _ _) k1).trans hb2⟩

set_option maxHeartbeats 1000000 in
theorem divMod_any (A : Option Addr) (n c : Nat) (xs : List Nat) (A' : Option Addr) (m d : Nat) (ys : List Nat) (w : World) (hr : RL w .u32 A n xs) (hn : n ≤ c) (hc : c ≤ maxLen) (hN : n ≤ 900000) (hx : ∀ x ∈ xs, x < 4294967296)
    (hr' : RL w .u32 A' m ys) (hm : m ≤ d) (hd : d ≤ maxLen) (hM : m ≤ 900000) (hy : ∀ x ∈ ys, x < 4294967296) :
    Calls Tryz.prog 42 #[.agg #[.slice A n c], .agg #[.slice A' m d]] w fun e w' =>
      (val B9 ys ≠ 0 → GivesDM (val B9 xs / val B9 ys) (val B9 xs % val B9 ys) 0 w e w') ∧ (val B9 ys = 0 → GivesDM 0 0 12 w e w') := by
  have HX := hide hx
  have HY := hide hy
  clear hx hy
  go_enter Tryz.func42, Tryz.ntmps42
  go_wp2
  obtain ⟨W, hWe⟩ : ∃ W, ((((w.alloc (Obj.cells #[Value.slice A n c] 24)).alloc (Obj.cells #[Value.slice A' m d] 24)).alloc (Obj.cells #[Value.slice none 0 0] 24)).alloc (Obj.cells #[Value.slice none 0 0] 24)) = W := ⟨_, rfl⟩
  obtain ⟨hW, h1, h2, h3, h4, hz⟩ := box4 w (.slice A n c) (.slice A' m d) (.slice none 0 0) (.slice none 0 0) 24 24 24 24 W hWe
  rw [hWe]
  have HZ := hide hz
  have H3 := hide h3
  have H4 := hide h4
  have hz2 : w.heap.size + 3 < W.heap.size := by omega
  clear hz h3 h4 hWe
  have hrW := hr.below hW
  have hrW' := hr'.below hW
  have KS : Hid (∀ w', Below W.heap.size W w' → w'.cell? ⟨w.heap.size, 0, none⟩ = some (.slice A n c) ∧ w'.cell? ⟨w.heap.size + 1, 0, none⟩ = some (.slice A' m d)) :=
    fun w' h => ⟨(h.cell (p := ⟨w.heap.size, 0, none⟩) (by simp; omega)).trans h1, (h.cell (p := ⟨w.heap.size + 1, 0, none⟩) (by simp; omega)).trans h2⟩
  have KC : Hid (∀ w', Below W.heap.size W w' → (w'.cell? ⟨w.heap.size + 2, 0, none⟩ = some (.slice none 0 0) ∧ w'.frozen? ⟨w.heap.size + 2, 0, none⟩ = false) ∧ (w'.cell? ⟨w.heap.size + 3, 0, none⟩ = some (.slice none 0 0) ∧ w'.frozen? ⟨w.heap.size + 3, 0, none⟩ = false)) :=
    fun w' h => ⟨⟨(h.cell (p := ⟨w.heap.size + 2, 0, none⟩) (by simp; omega)).trans (by rw [cell_of_row _ _ _ _ _ _ H3.out]; rfl), (h.frozen (p := ⟨w.heap.size + 2, 0, none⟩) (by simp; omega)).trans (frozen_of_row _ _ _ _ _ H3.out)⟩,
      ⟨(h.cell (p := ⟨w.heap.size + 3, 0, none⟩) hz2).trans (by rw [cell_of_row _ _ _ _ _ _ H4.out]; rfl), (h.frozen (p := ⟨w.heap.size + 3, 0, none⟩) hz2).trans (frozen_of_row _ _ _ _ _ H4.out)⟩⟩
  go_region_held3 (fun w' => w'.cell? ⟨w.heap.size, 0, none⟩ = some (.slice A n c) ∧ w'.cell? ⟨w.heap.size + 1, 0, none⟩ = some (.slice A' m d))
    (first | exact KS.out _ hbB | exact KS.out _ hbA | exact KS.out _ ((Below.refl _ _).drew))
    (first
      | (go_at_call_of 72 (Value.slice A n c); refine (canon_any A n c xs _ (hrW.below ((Below.refl _ _).drew)) hn hc (by omega) HX.out).mono ?_; rintro e w1 ⟨A1, n1, c1, rfl, hr1, hn1, hc1, hb1⟩; have hbA : Below W.heap.size W w1 := ((Below.refl _ _).drew).trans hb1)
      | (go_at_call_of 72 (Value.slice A' m d); refine (canon_any A' m d ys _ (hrW'.below hbA) hm hd (by omega) HY.out).mono ?_; rintro e w2 ⟨A2, n2, c2, rfl, hr2, hn2, hc2, hb2⟩; have hbB : Below W.heap.size W w2 := hbA.trans (hb2.mono hbA.size)))
  have hl1 : n1 ≤ n + 1 := dig_len_u32 hr1.len hr.len HX.out
  have hl2 : n2 ≤ m + 1 := dig_len_u32 hr2.len hr'.len HY.out
  have hr1' := hr1.below hb2
  clear hr hr' hrW hrW' hb1 hb2 hbA h1 h2 hr1 KS
  by_cases h0 : n2 = 0
  · subst h0
    have HV := hide ((dig_eq_nil B9 (by decide)).1 (List.eq_nil_of_length_eq_zero hr2.len))
    obtain ⟨⟨hcl, hfl⟩, ⟨hcl', hfl'⟩⟩ := KC.out _ hbB
    clear hr2 hr1'
    go_wp2
    refine bodyPost_ret (v := .tuple #[.agg #[.slice none 0 0], .agg #[.slice none 0 0], .int .i64 12]) (by simp [results, Tryz.results42, go_sem, hcl, hcl']) rfl ?_
    refine ⟨fun h => absurd HV.out h, fun _ => ?_⟩
    exact fin_structDM (u := 0) (v := 0) (n := 0) (c := 0) (n' := 0) (c' := 0) hW hbB (by omega) H3.out H4.out RL.nil_ (by omega) (by simp [maxLen]) RL.nil_ (by omega) (by simp [maxLen])
  · have HV : Hid (val B9 ys ≠ 0) := by
      intro h
      rw [h] at hr2
      exact h0 hr2.len.symm
    have hne : ((n2 : Int) == 0) = false := by simp; exact h0
    go_wp2_with fail
    refine (divide_any A1 n1 c1 (val B9 xs) A2 n2 c2 (val B9 ys) _ hr1' hr2 HV.out (by omega) (by omega)).mono ?_
    rintro e w3 ⟨A3, n3, c3, A4, n4, c4, rfl, hr3, hn3, hc3, hr4, hn4, hc4, hb3⟩
    have hbC := hbB.trans (hb3.mono hbB.size)
    obtain ⟨⟨hcl, hfl⟩, ⟨hcl', hfl'⟩⟩ := KC.out _ hbC
    clear hr2 hr1' hb3
    go_wp2
    refine bodyPost_ret (v := .tuple #[.agg #[.slice A3 n3 c3], .agg #[.slice A4 n4 c4], .int .i64 0]) (by simp [results, Tryz.results42, go_sem, hcl, hcl']) rfl ?_
    refine ⟨fun _ => ?_, fun h => absurd h HV.out⟩
    exact fin_structDM hW hbC (by omega) H3.out H4.out hr3 hn3 hc3 hr4 hn4 hc4
end Go.Proofs.YtoeknkakdoemfaaGreatDoor
