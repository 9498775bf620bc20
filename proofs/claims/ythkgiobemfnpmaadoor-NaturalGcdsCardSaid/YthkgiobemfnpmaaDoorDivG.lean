/- The contracts of natural.guessLimb, natural.subtractMultiple, natural.addBack. -/
import Derived.Test.YthkgiobemfnpmaaDoorDivS
import Derived.IntWalk
namespace Go.Proofs.YthkgiobemfnpmaaDoor
open Go Go.RowKit

set_option maxHeartbeats 1000000 in
theorem guessLimb_any (g o n c : Nat) (ps : List Nat) (A : Option Addr) (d : Nat) (ys : List Nat) (w : World) (hp : RL w .u32 (some ⟨g, o, none⟩) (n + 3) ps) (hr : RL w .u32 A (n + 2) ys) (hN : n ≤ 2000000)
    (d1 d0 t2 t1 t0 : Nat) (hd1 : ys[n + 1]? = some d1) (hd0 : ys[n]? = some d0) (ht2 : ps[n + 2]? = some t2) (ht1 : ps[n + 1]? = some t1) (ht0 : ps[n]? = some t0)
    (b1 : d1 < 1000000000) (b0 : d0 < 1000000000) (c2 : t2 < 1000000000) (c1 : t1 < 1000000000) (c0 : t0 < 1000000000) (hhalf : 500000000 ≤ d1) (htop : t2 ≤ d1) (Q : Nat) (hQ : ((t2 * 1000000000 + t1) * 1000000000 + t0) / (d1 * 1000000000 + d0) = Q) :
    Calls Tryd.prog 71 #[.slice (some ⟨g, o, none⟩) (n + 3) c, .slice A (n + 2) d] w fun e w' =>
      e = .returned (.int .u64 (Q : Int)) ∧ ∃ k, w' = w.drewN k := by
  obtain ⟨b, p, x, rfl, hx, hc1⟩ := hr.at_ (j := n + 1) (by omega)
  obtain rfl : x = d1 := by rw [hx] at hd1; exact Option.some.inj hd1
  obtain ⟨x', hx', hc0⟩ := hr.cell (j := n) (by omega)
  obtain rfl : x' = d0 := by rw [hx'] at hd0; exact Option.some.inj hd0
  obtain ⟨z2, hz2, hq2⟩ := hp.cell (j := n + 2) (by omega)
  obtain rfl : z2 = t2 := by rw [hz2] at ht2; exact Option.some.inj ht2
  obtain ⟨z1, hz1, hq1⟩ := hp.cell (j := n + 1) (by omega)
  obtain rfl : z1 = t1 := by rw [hz1] at ht1; exact Option.some.inj ht1
  obtain ⟨z0, hz0, hq0⟩ := hp.cell (j := n) (by omega)
  obtain rfl : z0 = t0 := by rw [hz0] at ht0; exact Option.some.inj ht0
  have HQ := hide hQ
  clear hQ hx hx' hz2 hz1 hz0 hd1 hd0 ht2 ht1 ht0 hp hr
  have hc1 : w.cell? ⟨b, p + (n + 1), none⟩ = some (.int .u32 (x : Int)) := hc1
  have hq2 : w.cell? ⟨g, o + (n + 2), none⟩ = some (.int .u32 (z2 : Int)) := hq2
  have i1 : (0 : Int) ≤ (n : Int) + 1 := by omega
  have i2 : (n : Int) + 1 < (n : Int) + 2 := by omega
  have i3 : (0 : Int) ≤ (n : Int) := by omega
  have i4 : (n : Int) < (n : Int) + 2 := by omega
  go_enter Tryd.func71, Tryd.ntmps71
  go_wp2
  have e1 : IntKind.i64.wrap ((n : Int) + 2 - 1) = (n : Int) + 1 := by rw [show (n : Int) + 2 - 1 = (n : Int) + 1 from by omega]; exact IntWalk.i64_in _ (by omega)
  have e2 : IntKind.i64.wrap ((n : Int) + 2 - 2) = (n : Int) := by rw [show (n : Int) + 2 - 2 = (n : Int) from by omega]; exact IntWalk.i64_in _ (by omega)
  have e3 : ((n : Int) + 1).toNat = n + 1 := by omega
  have e4 : ((n : Int) + 2).toNat = n + 2 := by omega
  go_quiet (fail)
  clear e1 e2 hc1 hc0
  go_wp2
  have hq2 : (w.drewN nq).cell? ⟨g, o + (n + 2), none⟩ = some (.int .u32 (z2 : Int)) := hq2
  have hq1 : (w.drewN nq).cell? ⟨g, o + (n + 1), none⟩ = some (.int .u32 (z1 : Int)) := hq1
  have hq0 : (w.drewN nq).cell? ⟨g, o + n, none⟩ = some (.int .u32 (z0 : Int)) := hq0
  generalize hWe : w.drewN nq = w2 at *
  have HW := hide hWe
  clear hWe
  have i5 : (0 : Int) ≤ (n : Int) + 2 := by omega
  have i6 : (n : Int) + 2 < (n : Int) + 3 := by omega
  have i7 : (n : Int) + 1 < (n : Int) + 3 := by omega
  have i8 : (n : Int) < (n : Int) + 3 := by omega
  have e1 : IntKind.i64.wrap ((n : Int) + 2 - 1) = (n : Int) + 1 := by rw [show (n : Int) + 2 - 1 = (n : Int) + 1 from by omega]; exact IntWalk.i64_in _ (by omega)
  have e5 : IntKind.u64.wrap ((z2 : Int) * 1000000000) = (z2 : Int) * 1000000000 := IntWalk.u64_in _ (by omega)
  have e6 : IntKind.u64.wrap ((z2 : Int) * 1000000000 + (z1 : Int)) = (z2 : Int) * 1000000000 + (z1 : Int) := IntWalk.u64_in _ (by omega)
  go_quiet (fail)
  clear e1 e3 e4 e5 e6
  go_wp2
  have hq0 : (w2.drewN nq).cell? ⟨g, o + n, none⟩ = some (.int .u32 (z0 : Int)) := hq0
  clear hq2 hq1
  generalize hWe : w2.drewN nq = w3 at *
  have HW2 := hide hWe
  clear hWe
  obtain ⟨T, hT⟩ : ∃ T, T = z2 * 1000000000 + z1 := ⟨_, rfl⟩
  obtain ⟨G, hG⟩ : ∃ G, G = T / x := ⟨_, rfl⟩
  obtain ⟨R, hR⟩ : ∃ R, R = T % x := ⟨_, rfl⟩
  have hGR : G * x + R = T := by rw [hG, hR]; exact Nat.div_add_mod' T x
  have hRx : R < x := by rw [hR]; exact Nat.mod_lt _ (by omega)
  have hGb : G ≤ 1000000001 := by
    rw [hG, ← Nat.lt_succ_iff, Nat.div_lt_iff_lt_mul (by omega)]
    show T < 1000000002 * x
    have : z2 * 1000000000 ≤ x * 1000000000 := Nat.mul_le_mul_right _ htop
    omega
  have hlow : (T * 1000000000 + z0) / (x * 1000000000 + x') ≤ G := by rw [hG]; exact guess_first (by omega) (by omega) c0
  have eT : (z2 : Int) * 1000000000 + (z1 : Int) = (T : Int) := by omega
  have e1 : (T : Int) / (x : Int) = (G : Int) := by rw [hG, cast_div]
  have e2 : (T : Int) % (x : Int) = (R : Int) := by rw [hR, cast_mod]
  have hx0 : ((x : Int) == 0) = false := by simp; omega
  rw [eT]
  have HGR := hide hGR
  have HLOW := hide hlow
  have HTT := hide hT
  have x1 : (1 : Int) ≤ (x : Int) := by omega
  clear hGR hlow hG hR hT eT
  go_quiet (fail)
  go_wp2
  rw [e2]
  clear e1 e2
  have hq0 : (w3.drewN nq).cell? ⟨g, o + n, none⟩ = some (.int .u32 (z0 : Int)) := hq0
  generalize hWe : w3.drewN nq = w4 at *
  have HW3 := hide hWe
  clear hWe
  go_loop [9, 10] (fun s t => ∃ G R : Nat, s = .int .u64 (G : Int) ∧ t = .int .u64 (R : Int) ∧ G * x + R = T ∧ G ≤ 1000000001 ∧ R < 2000000000 ∧ (T * 1000000000 + z0) / (x * 1000000000 + x') ≤ G) (fun s _ => (intOf s).toNat)
  case atStart => exact ⟨G, R, rfl, rfl, HGR.out, hGb, by omega, HLOW.out⟩
  case round =>
    obtain ⟨G1, R1, rfl, rfl, hg, hg1, hr1, hlow⟩ := hrel
    have hpp : G1 * x' ≤ 1000000001 * 999999999 := Nat.mul_le_mul hg1 (by omega)
    have hp1 : (G1 : Int) * (x' : Int) ≤ 1000000001 * 999999999 := by rw [← Int.natCast_mul]; omega
    have hp0 : 0 ≤ (G1 : Int) * (x' : Int) := by rw [← Int.natCast_mul]; omega
    by_cases hlt : R1 * 1000000000 + z0 < G1 * x'
    · have hd : decide ((R1 : Int) * 1000000000 + (z0 : Int) < (G1 : Int) * (x' : Int)) = true := by
        rw [← Int.natCast_mul]; simp; omega
      have hstep := guess_go hg hlt
      have hG0 : 1 ≤ G1 := by
        rcases Nat.eq_zero_or_pos G1 with h0 | h0
        · rw [h0, Nat.zero_mul] at hlt; omega
        · exact h0
      have HN := hide (show (G1 - 1) * x + (R1 + x) = T from by
        obtain ⟨G2, rfl⟩ : ∃ y, G1 = y + 1 := ⟨G1 - 1, by omega⟩
        rw [Nat.add_sub_cancel, ← hg, Nat.add_mul, Nat.one_mul]; omega)
      have HL2 := hide (show (T * 1000000000 + z0) / (x * 1000000000 + x') ≤ G1 - 1 from by
        have : (T * 1000000000 + z0) / (x * 1000000000 + x') < G1 := (Nat.div_lt_iff_lt_mul (by omega)).2 hstep
        omega)
      have hRs : R1 < 1000000000 := by omega
      clear hg hlow hstep hlt hpp
      go_wp2
      go_round
      case rel => exact ⟨G1 - 1, R1 + x, by go_num, by go_num, HN.out, by omega, by omega, HL2.out⟩
      case measure => simp [intOf]; omega
    · have hd : decide ((R1 : Int) * 1000000000 + (z0 : Int) < (G1 : Int) * (x' : Int)) = false := by
        rw [← Int.natCast_mul]; simp; omega
      have HE := hide (show G1 = (T * 1000000000 + z0) / (x * 1000000000 + x') from by
        apply Nat.le_antisymm
        · rw [Nat.le_div_iff_mul_le (by omega)]
          exact guess_end hg (by omega)
        · exact hlow)
      clear hg hlow hlt hpp
      go_wp2
      go_ret
      exact ⟨ret_int (by rw [HE.out, HTT.out, HQ.out]), _, by rw [← HW3.out, ← HW2.out, ← HW.out, World.drewN_drewN, World.drewN_drewN]⟩

/-- what subtractMultiple leaves in block g, at o -/
def Subbed (w : World) (g : Nat) (zs : List Nat) (o n D V : Nat) (neg : Bool) (w' : World) : Prop :=
  w.grownBy w' (some g) ∧ ∃ zs' B, Own w' g .u32 49 zs' ∧ zs'.length = zs.length ∧ (∀ x ∈ zs', x < B9) ∧ zs'.take o = zs.take o ∧ zs'.drop (o + n) = zs.drop (o + n) ∧
    val B9 ((zs'.drop o).take n) + D = val B9 ((zs.drop o).take n) + B9 ^ n * B ∧ neg = decide (V < B)

set_option maxHeartbeats 1000000 in
theorem subtractMultiple_any (g o m c : Nat) (zs : List Nat) (A : Option Addr) (n d : Nat) (ys : List Nat) (F t : Nat) (w : World) (hz : Own w g .u32 49 zs) (hzb : ∀ x ∈ zs, x < B9) (ht : zs[o + n]? = some t) (hm : n < m) (hmm : m ≤ maxLen)
    (hr : RL w .u32 A n ys) (hy : ∀ x ∈ ys, x < B9) (hs : Sp A n g) (hn : n ≤ maxLen) (hF : F ≤ 1000000001) (D : Nat) (hD : F * val B9 ys = D) :
    Calls Tryd.prog 72 #[.slice (some ⟨g, o, none⟩) m c, .slice A n d, .int .u64 (F : Int)] w fun e w' => ∃ neg, e = .returned (.bool neg) ∧ Subbed w g zs o n D t neg w' := by
  have HZB := hide hzb
  have HT := hide ht
  have HY := hide hy
  have HD := hide hD
  have HL := hide hr.len
  have hlz := lt_of_getElem? ht
  unfold maxLen at hn hmm
  clear hzb ht hy hD
  go_enter Tryd.func72, Tryd.ntmps72
  go_wp2
  go_loopw [7, 8, 9, 10, 13] (fun c7 _ _ _ i wr => ∃ (k B : Nat) (zk : List Nat), k ≤ n ∧ B ≤ F + 1 ∧ c7 = .int .u64 B ∧ i = .int .i64 k ∧ zk.length = zs.length ∧ Own wr g .u32 49 zk ∧ w.grownBy wr (some g) ∧
      val B9 ((zk.drop o).take k) + F * val B9 (ys.take k) = val B9 ((zs.drop o).take k) + B9 ^ k * B ∧ (∀ x ∈ zk, x < B9) ∧ zk.drop (o + k) = zs.drop (o + k) ∧ zk.take o = zs.take o) (fun _ _ _ _ i _ => n - (intOf i).toNat)
  case atStart => exact ⟨0, 0, zs, by omega, by omega, rfl, rfl, rfl, hz, World.grownBy.refl _ _, by simp [val], HZB.out, rfl, rfl⟩
  case round =>
    obtain ⟨k, B, zk, hk, hB, rfl, rfl, hzl, hzo, hzg, hzv, hzd, hdr, htk⟩ := hrel
    have hr3 := hr.grown hzg hs
    have HZL := hide hzl
    have HZV := hide hzv
    have HZD := hide hzd
    have HDR := hide hdr
    have HTK := hide htk
    by_cases hlt : k < n
    · obtain ⟨b, p, y, rfl, hy, hcell⟩ := hr3.at_ hlt
      have hyb : y < 1000000000 := HY.out y (List.mem_of_getElem? hy)
      have hkz : o + k < zk.length := by omega
      have hgz : zk[o + k]? = some zk[o + k] := List.getElem?_eq_getElem hkz
      generalize zk[o + k] = z at hgz
      have hold : wr.cell? ⟨g, o + k, none⟩ = some (.int .u32 (z : Int)) := hzo.cell hgz
      have hzlt : z < 1000000000 := HZD.out z (List.mem_of_getElem? hgz)
      have hfz := hzo.frozen (o + k)
      have hFy : F * y ≤ 1000000001 * 999999999 := Nat.mul_le_mul hF (by omega)
      have hFq : B + F * y ≤ F * 1000000000 + 1 := by
        have h1 : F * (y + 1) ≤ F * 1000000000 := Nat.mul_le_mul_left _ (by omega)
        rw [Nat.mul_add, Nat.mul_one] at h1
        omega
      obtain ⟨P, hP⟩ : ∃ P, P = F * y := ⟨_, rfl⟩
      have eP : (F : Int) * (y : Int) = (P : Int) := by rw [hP, Int.natCast_mul]
      have hPb : P ≤ 1000000001 * 999999999 := by omega
      have hBP : B + P ≤ F * 1000000000 + 1 := by rw [hP]; exact hFq
      have hkd : k < (zk.drop o).length := by rw [List.length_drop]; omega
      have hgd : (zs.drop o)[k]? = some z := by rw [List.getElem?_drop, ← getElem?_of_drop hdr (Nat.le_refl _)]; exact hgz
      have hstep : ∀ v B', v + (B + P) = z + B9 * B' → val B9 (((zk.set (o + k) v).drop o).take (k + 1)) + F * val B9 (ys.take (k + 1)) = val B9 ((zs.drop o).take (k + 1)) + B9 ^ (k + 1) * B' := by
        intro v B' e
        rw [drop_set_add]
        exact smul_step hkd hgd hy (by rw [← hP]; exact e) hzv
      have HS := hide hstep
      have HP := hide eP
      clear hy hzl hzv hzd hdr htk hgz hgd hkd hstep hP hFq hFy
      by_cases hzt : z < (B + P) % 1000000000
      · go_wp2
        go_roundw
        case rel =>
          refine ⟨k + 1, (B + P) / 1000000000 + 1, zk.set (o + k) (z + 1000000000 - (B + P) % 1000000000), by omega, by omega, by go_num, by go_num, by rw [List.length_set]; exact HZL.out,
            ((hzo.put (o + k) (x := z + 1000000000) (by omega)).put (o + k) (x := z + 1000000000 - (B + P) % 1000000000) (by omega)).cast (by rw [List.set_set]), only_setCell (only_setCell hzg (.inl rfl) _) (.inl rfl) _, HS.out _ _ (by show _ = z + 1000000000 * _; omega), all_set HZD.out (by show _ < 1000000000; omega), ?_, ?_⟩
          · show (zk.set (o + k) _).drop (o + (k + 1)) = _
            rw [drop_set_lt _ _ _ _ (by omega)]
            exact drop_of_drop HDR.out (by omega)
          · rw [take_set_lt _ _ _ _ (by omega)]; exact HTK.out
        case measure => simp [intOf]; omega
      · go_wp2
        go_roundw
        case rel =>
          refine ⟨k + 1, (B + P) / 1000000000, zk.set (o + k) (z - (B + P) % 1000000000), by omega, by omega, by go_num, by go_num, by rw [List.length_set]; exact HZL.out,
            hzo.put (o + k) (by omega), only_setCell hzg (.inl rfl) _, HS.out _ _ (by show _ = z + 1000000000 * _; omega), all_set HZD.out (by show _ < 1000000000; omega), ?_, ?_⟩
          · show (zk.set (o + k) _).drop (o + (k + 1)) = _
            rw [drop_set_lt _ _ _ _ (by omega)]
            exact drop_of_drop HDR.out (by omega)
          · rw [take_set_lt _ _ _ _ (by omega)]; exact HTK.out
        case measure => simp [intOf]; omega
    · obtain rfl : k = n := by omega
      have hgz : zk[o + k]? = some t := by rw [getElem?_of_drop hdr (Nat.le_refl _)]; exact HT.out
      have hcell : wr.cell? ⟨g, o + k, none⟩ = some (.int .u32 (t : Int)) := hzo.cell hgz
      have htb : t < 1000000000 := HZD.out t (List.mem_of_getElem? hgz)
      have HV := hide (show val B9 ((zk.drop o).take k) + D = val B9 ((zs.drop o).take k) + B9 ^ k * B from by
        rw [← HD.out, ← hzv, List.take_of_length_le (l := ys) (by rw [HL.out]; exact Nat.le_refl _)])
      clear hgz hzl hzv hzd hdr htk
      go_wp2
      go_ret
      exact ⟨decide (t < B), by simp, hzg, zk, B, hzo, HZL.out, HZD.out, HTK.out, HDR.out, HV.out, rfl⟩

/-- what addBack leaves -/
def Added (w : World) (g : Nat) (zs : List Nat) (o n D : Nat) (e : Ending) (w' : World) : Prop :=
  e = .returned (.tuple #[]) ∧ w.grownBy w' (some g) ∧ ∃ zs' B, Own w' g .u32 49 zs' ∧ zs'.length = zs.length ∧ (∀ x ∈ zs', x < B9) ∧ zs'.take o = zs.take o ∧ zs'.drop (o + n) = zs.drop (o + n) ∧
    val B9 ((zs'.drop o).take n) + B9 ^ n * B = val B9 ((zs.drop o).take n) + D

theorem back_step {b : Nat} {dk ds ys : List Nat} {k B y z : Nat} (hk : k < dk.length) (hz : ds[k]? = some z) (hy : ys[k]? = some y)
    (h : val b (dk.take k) + b ^ k * B = val b (ds.take k) + val b (ys.take k)) :
    val b ((dk.set k ((B + (z + y)) % b)).take (k + 1)) + b ^ (k + 1) * ((B + (z + y)) / b) = val b (ds.take (k + 1)) + val b (ys.take (k + 1)) := by
  rw [put_step b dk k _ hk, val_take_succ b hz, val_take_succ b hy, Nat.mul_add, Nat.mul_add]
  omega

set_option maxHeartbeats 1000000 in
theorem addBack_any (g o m c : Nat) (zs : List Nat) (A : Option Addr) (n d : Nat) (ys : List Nat) (w : World) (hz : Own w g .u32 49 zs) (hzb : ∀ x ∈ zs, x < B9) (ho : o + n ≤ zs.length) (hm : n < m) (hmm : m ≤ maxLen)
    (hr : RL w .u32 A n ys) (hy : ∀ x ∈ ys, x < B9) (hs : Sp A n g) (hn : n ≤ maxLen) :
    Calls Tryd.prog 73 #[.slice (some ⟨g, o, none⟩) m c, .slice A n d] w (Added w g zs o n (val B9 ys)) := by
  have HZB := hide hzb
  have HY := hide hy
  have HL := hide hr.len
  unfold maxLen at hn hmm
  clear hzb hy
  go_enter Tryd.func73, Tryd.ntmps73
  go_wp2
  go_loopw [4, 5, 6, 9] (fun c4 _ _ i wr => ∃ (k B : Nat) (zk : List Nat), k ≤ n ∧ B ≤ 1 ∧ c4 = .int .u32 B ∧ i = .int .i64 k ∧ zk.length = zs.length ∧ Own wr g .u32 49 zk ∧ w.grownBy wr (some g) ∧
      val B9 ((zk.drop o).take k) + B9 ^ k * B = val B9 ((zs.drop o).take k) + val B9 (ys.take k) ∧ (∀ x ∈ zk, x < B9) ∧ zk.drop (o + k) = zs.drop (o + k) ∧ zk.take o = zs.take o) (fun _ _ _ i _ => n - (intOf i).toNat)
  case atStart => exact ⟨0, 0, zs, by omega, by omega, rfl, rfl, rfl, hz, World.grownBy.refl _ _, by simp [val], HZB.out, rfl, rfl⟩
  case round =>
    obtain ⟨k, B, zk, hk, hB, rfl, rfl, hzl, hzo, hzg, hzv, hzd, hdr, htk⟩ := hrel
    have hr3 := hr.grown hzg hs
    have HZL := hide hzl
    have HZV := hide hzv
    have HZD := hide hzd
    have HDR := hide hdr
    have HTK := hide htk
    by_cases hlt : k < n
    · obtain ⟨b, p, y, rfl, hy, hcell⟩ := hr3.at_ hlt
      have hyb : y < 1000000000 := HY.out y (List.mem_of_getElem? hy)
      have hkz : o + k < zk.length := by omega
      have hgz : zk[o + k]? = some zk[o + k] := List.getElem?_eq_getElem hkz
      generalize zk[o + k] = z at hgz
      have hold : wr.cell? ⟨g, o + k, none⟩ = some (.int .u32 (z : Int)) := hzo.cell hgz
      have hzlt : z < 1000000000 := HZD.out z (List.mem_of_getElem? hgz)
      have hfz := hzo.frozen (o + k)
      have hkd : k < (zk.drop o).length := by rw [List.length_drop]; omega
      have hgd : (zs.drop o)[k]? = some z := by rw [List.getElem?_drop, ← getElem?_of_drop hdr (Nat.le_refl _)]; exact hgz
      have HS := hide (show val B9 (((zk.set (o + k) ((B + (z + y)) % B9)).drop o).take (k + 1)) + B9 ^ (k + 1) * ((B + (z + y)) / B9) = val B9 ((zs.drop o).take (k + 1)) + val B9 (ys.take (k + 1)) from by
        rw [drop_set_add]; exact back_step hkd hgd hy hzv)
      clear hy hzl hzv hzd hdr htk hgz hgd hkd
      go_wp2
      go_roundw
      case rel =>
        refine ⟨k + 1, (B + (z + y)) / 1000000000, zk.set (o + k) ((B + (z + y)) % 1000000000), by omega, by omega, by go_num, by go_num, by rw [List.length_set]; exact HZL.out,
          hzo.put (o + k) (by omega), only_setCell hzg (.inl rfl) _, HS.out, all_set HZD.out (by show _ < 1000000000; omega), ?_, ?_⟩
        · show (zk.set (o + k) _).drop (o + (k + 1)) = _
          rw [drop_set_lt _ _ _ _ (by omega)]
          exact drop_of_drop HDR.out (by omega)
        · rw [take_set_lt _ _ _ _ (by omega)]; exact HTK.out
      case measure => simp [intOf]; omega
    · obtain rfl : k = n := by omega
      have HV := hide (show val B9 ((zk.drop o).take k) + B9 ^ k * B = val B9 ((zs.drop o).take k) + val B9 ys from by
        rw [hzv, List.take_of_length_le (i := k) (l := ys) (by rw [HL.out]; exact Nat.le_refl _)])
      clear hzl hzv hzd hdr htk
      go_wp2
      refine bodyPost_end (results_none rfl _ _ _) rfl ?_
      exact ⟨rfl, hzg, zk, B, hzo, HZL.out, HZD.out, HTK.out, HDR.out, HV.out⟩
end Go.Proofs.YthkgiobemfnpmaaDoor
