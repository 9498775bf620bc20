/- The contract of the reference's Mul. -/
import Derived.Test.YtoeknkakdoemfaaGreatDoorRNorm
import Derived.Test.YtoeknkakdoemfaaGreatDoorBox
import Derived.Test.YtoeknkakdoemfaaGreatDoorMul
import Derived.Test.YtoeknkakdoemfaaGreatDoorROf
import Derived.Test.YtoeknkakdoemfaaGreatDoorSimple
import Derived.Test.YtoeknkakdoemfaaGreatDoorRSub
import Derived.Test.YtoeknkakdoemfaaGreatDoorBaseB
import Derived.Deep.RegionHeld3
import Derived.Deep.CutRange
import Derived.Test.YtoeknkakdoemfaaGreatDoorRCmp
import Derived.Test.YtoeknkakdoemfaaGreatDoorBaseM
import Derived.WalkSpells
import Derived.Deep.AppendLies
import Derived.Deep.RegionLaw
import Derived.Test.YtoeknkakdoemfaaGreatDoorGcd
import Derived.Test.YtoeknkakdoemfaaGreatDoorRAdd
namespace Go.Proofs.YtoeknkakdoemfaaGreatDoor
open Go Go.RowKit

theorem rmul_step {b : Nat} {zk : List Nat} {p z S : Nat} (hz : zk[p]? = some z) : val b (zk.set p (S % b)) + b ^ p * z + b ^ (p + 1) * (S / b) = val b zk + b ^ p * S := by
  have h := val_set (b := b) (v := S % b) hz
  have e : b ^ p * (S % b) + b ^ (p + 1) * (S / b) = b ^ p * S := by rw [Nat.pow_succ, Nat.mul_assoc, ← Nat.mul_add, Nat.mod_add_div]
  omega
theorem rmul_in {b F C z x i k V0 V1 W : Nat} {zs zk : List Nat} (hz : zk[i + k]? = some z) (h : val b zk + b ^ (i + k) * C = W + b ^ i * (F * V0)) (hV : V1 = V0 + b ^ k * x) (S : Nat) (hS : S = z + C + F * x) (e : zk.set (i + k) (S % b) = zs) :
    val b zs + b ^ (i + (k + 1)) * (S / b) = W + b ^ i * (F * V1) := by
  have h1 := rmul_step (b := b) (S := S) hz
  subst e
  have e1 : b ^ (i + k) * S = b ^ (i + k) * z + b ^ (i + k) * C + b ^ (i + k) * (F * x) := by rw [hS, Nat.mul_add, Nat.mul_add]
  have e2 : b ^ i * (F * V1) = b ^ i * (F * V0) + b ^ (i + k) * (F * x) := by
    rw [hV, Nat.mul_add, Nat.mul_add, Nat.pow_add]
    congr 1
    rw [Nat.mul_assoc, Nat.mul_left_comm F (b ^ k) x]
  have e3 : i + (k + 1) = i + k + 1 := by omega
  rw [e3]
  omega

set_option maxHeartbeats 2000000 in
theorem rmul_any (A : Option Addr) (n c : Nat) (xs : List Nat) (A' : Option Addr) (m d : Nat) (ys : List Nat) (w : World) (hr : RL w .u32 A n xs) (hn : n ≤ c) (hc : c ≤ maxLen) (hN : n ≤ 100000) (hx : ∀ x ∈ xs, x < 4294967296)
    (hr' : RL w .u32 A' m ys) (hm : m ≤ d) (hd : d ≤ maxLen) (hM : m ≤ 100000) (hy : ∀ x ∈ ys, x < 4294967296) (u v : Nat) (hu : val B9 xs = u) (hv : val B9 ys = v) (T : Nat) (hT : u * v = T) :
    Calls Tryz.prog 86 #[.agg #[.slice A n c], .agg #[.slice A' m d]] w (GivesN T w) := by
  have HX := hide hx
  have HY := hide hy
  have HU := hide hu
  have HV := hide hv
  have HL := hide hr.len
  have HL' := hide hr'.len
  clear hx hy hu hv
  have HT := hide hT
  clear hT
  go_enter Tryz.func86, Tryz.ntmps86
  go_wp2_with fail
  generalize hW : ((w.alloc _).alloc _).alloc _ = W
  obtain ⟨hbW, b0, b1, b2, hz⟩ := boxes3 hW
  clear hW
  refine (rnorm_any A n c xs _ (hr.below hbW) hn hc (by omega) HX.out u HU.out).mono ?_
  rintro e w1 ⟨A1, n1, c1, rfl, r1, hn1, hc1, hb1⟩
  have hl1 : n1 ≤ n + 1 := dig_len_u32 (n := n1) (m := n) (xs := xs) (by rw [HU.out]; exact r1.len) HL.out HX.out
  have b0 := b0.below' hb1
  have b1 := b1.below' hb1
  have b2 := b2.below' hb1
  have hrB := hr'.below (hbW.trans (hb1.mono hbW.size))
  have hbA := hbW.trans (hb1.mono hbW.size)
  have f0 := b0.frozen 0
  have k0 := b0.cell
  have k1 := b1.cell
  clear hr hr' hb1 hbW
  go_wp2_with fail
  generalize hW2 : w1.setCell _ _ = w2
  have r2 : RL w2 .u32 A1 n1 (dig B9 u) := by rw [← hW2]; exact r1.put b0 _
  have rB2 : RL w2 .u32 A' m ys := by rw [← hW2]; exact hrB.put b0 _
  have c0 : Box w2 w.heap.size #[.slice A1 n1 c1] 24 := by rw [← hW2]; exact b0.put _
  have e1 := b1.far (p := ⟨w.heap.size, 0, none⟩) (by simp) (.slice A1 n1 c1)
  rw [hW2] at e1
  have e2 := b2.far (p := ⟨w.heap.size, 0, none⟩) (by simp) (.slice A1 n1 c1)
  rw [hW2] at e2
  have hb2 : Below w.heap.size w w2 := by rw [← hW2]; exact hbA.setCell (by simp) _
  clear hW2 r1 hrB b0 b1 hbA f0 k0 k1
  refine (rnorm_any A' m d ys _ rB2 hm hd (by omega) HY.out v HV.out).mono ?_
  rintro e w3 ⟨A3, n3, c3, rfl, r3, hn3, hc3, hb3⟩
  have hl3 : n3 ≤ m + 1 := dig_len_u32 (n := n3) (m := m) (xs := ys) (by rw [HV.out]; exact r3.len) HL'.out HY.out
  have b0 := c0.below' hb3
  have b1 := e1.below' hb3
  have b2 := e2.below' hb3
  have r2 := r2.below hb3
  have hbA := hb2.trans (hb3.mono hb2.size)
  have r4 : RL (w3.setCell ⟨w.heap.size + 1, 0, none⟩ (.slice A3 n3 c3)) .u32 A1 n1 (dig B9 u) := r2.put b1 _
  have r5 : RL (w3.setCell ⟨w.heap.size + 1, 0, none⟩ (.slice A3 n3 c3)) .u32 A3 n3 (dig B9 v) := r3.put b1 _
  have d0 : Box (w3.setCell ⟨w.heap.size + 1, 0, none⟩ (.slice A3 n3 c3)) w.heap.size #[.slice A1 n1 c1] 24 := b0.far (by simp) _
  have d1 : Box (w3.setCell ⟨w.heap.size + 1, 0, none⟩ (.slice A3 n3 c3)) (w.heap.size + 1) #[.slice A3 n3 c3] 24 := b1.put _
  have d2 := b2.far (p := ⟨w.heap.size + 1, 0, none⟩) (by simp) (.slice A3 n3 c3)
  have hb4 : Below w.heap.size w (w3.setCell ⟨w.heap.size + 1, 0, none⟩ (.slice A3 n3 c3)) := hbA.setCell (by simp) _
  have f1 := b1.frozen 0
  have g0 := b0.cell
  have g1 := b1.cell
  clear r2 r3 b0 b1 hbA c0 e1 rB2 hb2 hb3 b2 e2
  have k0 := d0.cell
  have k1 := d1.cell
  have HR4 := hide r4.len
  have HR5 := hide r5.len
  have hc1' : n1 ≤ maxLen := Nat.le_trans hn1 hc1
  have hc3' : n3 ≤ maxLen := Nat.le_trans hn3 hc3
  unfold maxLen at hc1' hc3'
  go_wp2_with (at_make; refine wpList_make_zero _ rfl _ _ 22 rfl 71 .u32 4 Tryz.underlying22 u32_info .i64 .i64 _ _ (n1 + n3 + 1) rfl rfl (by go_num) (by go_num) (by omega) (by omega) ?_; intro g w5 hg hown hbel)
  generalize w3.setCell (⟨w.heap.size + 1, 0, none⟩ : Addr) (.slice A3 n3 c3) = W4 at *
  have lt0 := d0.lt
  have lt1 := d1.lt
  have lt2 := d2.lt
  clear f1 g0 g1 k0 k1
  go_loopw [6, 7, 8, 9] (fun i _ _ _ wr => ∃ (k : Nat) (zs : List Nat), k ≤ n1 ∧ i = .int .i64 (k : Int) ∧ zs.length = n1 + n3 + 1 ∧ Own wr g .u32 71 zs ∧ Below W4.heap.size W4 wr ∧
      val B9 zs = val B9 ((dig B9 u).take k) * v ∧ (∀ x ∈ zs, x < B9) ∧ zs.drop (k + n3) = List.replicate (n1 + 1 - k) 0) (fun i _ _ _ _ => n1 - (intOf i).toNat)
  case atStart => exact ⟨0, List.replicate (n1 + n3 + 1) 0, by omega, rfl, by simp, hown, hbel, by simp [val, val_replicate_zero], fun x hx => by rw [List.eq_of_mem_replicate hx]; decide, by simp; omega⟩
  case round =>
    obtain ⟨i, zs, hi, rfl, hzl, hzo, hzb, hzv, hzd, hzr⟩ := hrel
    clear hown hbel
    have HZL := hide hzl
    have HZV := hide hzv
    have HZD := hide hzd
    have HZR := hide hzr
    have q0 := (d0.below hzb lt0).cell
    have q1 := (d1.below hzb lt1).cell
    by_cases hlt : i < n1
    · have ra := r4.below hzb
      obtain ⟨ba, oa, F, eA1, hF, hcellF⟩ := ra.at_ hlt
      have hFb : F < 1000000000 := dig_lt B9 (by decide) u F (List.mem_of_getElem? hF)
      have HF := hide hF
      have HA1 := hide eA1
      have hzI : Hid (zs[i + n3]? = some 0) := by
        have h1 := congrArg (fun l : List Nat => l[0]?) hzr
        simp only [List.getElem?_drop] at h1
        show zs[i + n3]? = some 0
        rw [Nat.add_zero] at h1
        rw [h1, List.getElem?_replicate, if_pos (by omega)]
      clear hF hzl hzv hzd hzr hcellF ra eA1
      go_wp2
      go_loopw [7, 8, 9] (fun cc k _ wq => ∃ (j C : Nat) (zk : List Nat), j ≤ n3 + 1 ∧ (n3 < j → C = 0) ∧ C < 1000000000 ∧ cc = .int .u64 (C : Int) ∧ k = .int .i64 (j : Int) ∧ zk.length = n1 + n3 + 1 ∧ Own wq g .u32 71 zk ∧ Below W4.heap.size W4 wq ∧
          val B9 zk + B9 ^ (i + j) * C = val B9 zs + B9 ^ i * (F * val B9 ((dig B9 v).take j)) ∧ (∀ x ∈ zk, x < B9) ∧ zk.drop (i + j) = zs.drop (i + j)) (fun _ k _ _ => n3 + 1 - (intOf k).toNat)
      case atStart => exact ⟨0, 0, zs, by omega, fun _ => rfl, by omega, rfl, rfl, HZL.out, hzo, hzb, by simp [val], HZD.out, rfl⟩
      case round =>
        obtain ⟨j, C, zk, hj, hC0, hCb, rfl, rfl, hkl, hko, hkb, hkv, hkd, hkr⟩ := hrel
        have p0 := (d0.below hkb lt0).cell
        have p1 := (d1.below hkb lt1).cell
        have HKL := hide hkl
        have HKV := hide hkv
        have HKD := hide hkd
        have HKR := hide hkr
        have HC0 := hide hC0
        clear hkl hkv hkd hkr hC0 q0 q1
        by_cases hj3 : j < n3
        · have hkz : i + j < zk.length := by rw [HKL.out]; omega
          obtain ⟨z, hz⟩ : ∃ z, zk[i + j]? = some z := ⟨_, List.getElem?_eq_getElem hkz⟩
          have hzlt : z < 1000000000 := HKD.out z (List.mem_of_getElem? hz)
          have hold : wr.cell? ⟨g, i + j, none⟩ = some (.int .u32 (z : Int)) := hko.cell hz
          have hfz := hko.frozen (i + j)
          obtain ⟨bb, ob, x, rfl, hx, hcellx⟩ := (r5.below hkb).at_ hj3
          have hxb : x < 1000000000 := dig_lt B9 (by decide) v x (List.mem_of_getElem? hx)
          obtain rfl := HA1.out
          obtain ⟨F', hF', hcellF⟩ := (r4.below hkb).cell hlt
          obtain rfl : F' = F := by have := HF.out; rw [hF'] at this; exact Option.some.inj this
          have hFx : F' * x ≤ 999999998000000001 := by
            have : F' * x ≤ 999999999 * 999999999 := Nat.mul_le_mul (by omega) (by omega)
            omega
          have hFx1 : (F' : Int) * (x : Int) ≤ 999999998000000001 := by rw [← Int.natCast_mul]; omega
          have hFx0 : 0 ≤ (F' : Int) * (x : Int) := by rw [← Int.natCast_mul]; omega
          have HS := hide (rmul_in hz HKV.out (val_take_succ B9 hx) (z + C + F' * x) rfl rfl)
          clear hx hF' hz hkz
          go_wp2
          go_quiet (fail)
          have hold2 : (wr.drewN nq).cell? ⟨g, i + j, none⟩ = some (.int .u32 (z : Int)) := hold
          have hfz2 : (wr.drewN nq).frozen? ⟨g, i + j, none⟩ = false := hfz
          have hko2 : Own (wr.drewN nq) g .u32 71 zk := hko
          have hkb2 := below_drewN hkb nq
          generalize wr.drewN nq = W5 at *
          go_wp2
          go_roundw
          case rel =>
            have eI : (F' : Int) * (x : Int) = ((F' * x : Nat) : Int) := (Int.natCast_mul F' x).symm
            rw [eI]
            refine ⟨j + 1, (z + C + F' * x) / 1000000000, zk.set (i + j) ((z + C + F' * x) % 1000000000), by omega, fun h => absurd h (by omega), by omega, by go_num, by go_num, by rw [List.length_set]; exact HKL.out, hko2.put (i + j) (by omega), hkb2.setCell (by omega) _, HS.out, all_set HKD.out (Nat.mod_lt _ (by decide)), ?_⟩
            show (zk.set (i + j) _).drop (i + (j + 1)) = _
            rw [drop_set_lt _ _ _ _ (by omega)]
            exact drop_of_drop HKR.out (by omega)
          case measure => simp [intOf]; omega
        · have hd3 : decide (j < n3) = false := by simp; omega
          by_cases hC : C = 0
          · subst hC
            have HV1 := hide (show val B9 zk = val B9 ((dig B9 u).take (i + 1)) * v from by
              have h1 := HKV.out
              rw [Nat.mul_zero, Nat.add_zero, val_take_dig B9 (by decide) v j (by rw [HR5.out]; omega)] at h1
              rw [h1, HZV.out, val_take_succ B9 HF.out, Nat.add_mul, Nat.mul_assoc])
            have HR1 := hide (show zk.drop (i + 1 + n3) = List.replicate (n1 + 1 - (i + 1)) 0 from by
              have h0 : zk.drop (i + n3 + 1) = zs.drop (i + n3 + 1) := by
                rcases Nat.lt_or_ge n3 j with h | h
                · have : j = n3 + 1 := by omega
                  subst this
                  exact HKR.out
                · have : j = n3 := by omega
                  subst this
                  exact drop_of_drop HKR.out (by omega)
              rw [show i + 1 + n3 = i + n3 + 1 from by omega, h0]
              have h5 := congrArg (List.drop 1) HZR.out
              rw [List.drop_drop] at h5
              rw [h5]
              simp
              omega)
            clear hj3
            go_wp2
            go_roundw
            case rel => exact ⟨i + 1, zk, by omega, by go_num, HKL.out, hko, hkb, HV1.out, HKD.out, HR1.out⟩
            case measure => simp [intOf]; omega
          · obtain rfl : j = n3 := by
              rcases Nat.lt_or_ge n3 j with h | h
              · exact absurd (HC0.out h) hC
              · omega
            have hz : zk[i + j]? = some 0 := by rw [getElem?_of_drop HKR.out (Nat.le_refl _)]; exact hzI.out
            have hold : wr.cell? ⟨g, i + j, none⟩ = some (.int .u32 ((0 : Nat) : Int)) := hko.cell hz
            have hfz := hko.frozen (i + j)
            have HS := hide (rmul_in (x := 0) (V1 := val B9 ((dig B9 v).take (j + 1))) hz HKV.out (by rw [Nat.mul_zero, Nat.add_zero]; exact val_take_all B9 (by rw [HR5.out]; omega) (by rw [HR5.out]; omega)) C (by omega) rfl)
            have hkz : i + j < n1 + j + 1 := by omega
            clear hz
            go_wp2
            go_roundw
            case rel =>
              refine ⟨j + 1, C / 1000000000, zk.set (i + j) (C % 1000000000), by omega, fun _ => by omega, by omega, by go_num, by go_num, by rw [List.length_set]; exact HKL.out, hko.put (i + j) (by omega), hkb.setCell (by omega) _, HS.out, all_set HKD.out (Nat.mod_lt _ (by decide)), ?_⟩
              show (zk.set (i + j) _).drop (i + (j + 1)) = _
              rw [drop_set_lt _ _ _ _ (by omega)]
              exact drop_of_drop HKR.out (by omega)
            case measure => simp [intOf]
    · obtain rfl : i = n1 := by omega
      have HE := hide (show val B9 zs = T from by
        rw [hzv, List.take_of_length_le (by rw [HR4.out]; exact Nat.le_refl _), val_dig B9 (by decide), HT.out])
      have HU32 := hide (show ∀ x ∈ zs, x < 4294967296 from fun x hx => by have : x < 1000000000 := HZD.out x hx; omega)
      have hbA := hb4.trans (hzb.mono hb4.size)
      have d2w := d2.below hzb lt2
      have hrl := hzo.rl hzl
      clear hzl hzv hzd hzr
      go_wp2_with fail
      refine (rnorm_any _ (i + n3 + 1) (i + n3 + 1) zs _ hrl (Nat.le_refl _) (by unfold maxLen; omega) (by omega) HU32.out T HE.out).mono ?_
      rintro e w6 ⟨A6, n6, c6, rfl, r6, hn6, hc6, hb6⟩
      have q2 := (d2w.below' hb6).cell
      have g2 := (d2w.below' hb6).frozen 0
      go_wp2
      refine bodyPost_ret (v := .agg #[.slice A6 n6 c6]) (by simp [results, Tryz.results86, go_sem, q2]) rfl ?_
      exact fin_struct hbA hb6 (by omega) d2w r6 hn6 hc6
end Go.Proofs.YtoeknkakdoemfaaGreatDoor

/- The reference's Mul and Of in the shape that its callers ask for. -/
namespace Go.Proofs.YtoeknkakdoemfaaGreatDoor
open Go Go.RowKit

theorem fin_boxE {w W : World} {g : Nat} {S A : Option Addr} {m d n c u : Nat} {t : TypeId} {er : Int} (hb : Below w.heap.size w W) (b : Box W g #[.slice S m d] t) (hg : w.heap.size ≤ g) (hr : RL W .u32 A n (dig B9 u)) (hn : n ≤ c) (hc : c ≤ maxLen) :
    GivesNE u er w (.returned (.tuple #[.agg #[.slice A n c], .int .i64 er])) (W.setCell ⟨g, 0, none⟩ (.slice A n c)) :=
  ⟨A, n, c, rfl, hr.put b _, hn, hc, hb.setCell hg _⟩
theorem fin_box {w W : World} {g : Nat} {S A : Option Addr} {m d n c u : Nat} {t : TypeId} (hb : Below w.heap.size w W) (b : Box W g #[.slice S m d] t) (hg : w.heap.size ≤ g) (hr : RL W .u32 A n (dig B9 u)) (hn : n ≤ c) (hc : c ≤ maxLen) :
    GivesN u w (.returned (.agg #[.slice A n c])) (W.setCell ⟨g, 0, none⟩ (.slice A n c)) :=
  ⟨A, n, c, rfl, hr.put b _, hn, hc, hb.setCell hg _⟩
theorem nd_pow {u k : Nat} (h : u < 10 ^ k) (hk : 1 ≤ k) : nd u ≤ k := by
  unfold nd
  split
  · exact hk
  · exact (dig_length_le 10 (by decide) k u).2 h
theorem nd_four {u : Nat} (h : u < B9 ^ 4) : nd u ≤ 36 := nd_pow (by rw [pow_B9] at h; exact h) (by decide)
theorem pow_four {u k : Nat} (h : u < B9 ^ 4) : u ^ k < B9 ^ (4 * k + 1) := by
  have h1 : u ^ k ≤ (B9 ^ 4) ^ k := Nat.pow_le_pow_left (Nat.le_of_lt h) k
  rw [← Nat.pow_mul] at h1
  exact Nat.lt_of_le_of_lt h1 (Nat.pow_lt_pow_right (by decide) (by omega))

theorem rof_one (w : World) : Calls Tryz.prog 71 #[.int .u64 1] w (GivesN 1 w) := rof_any 1 w (by omega)
theorem rmul_g (A : Option Addr) (n c u : Nat) (A' : Option Addr) (m d : Nat) (ys : List Nat) (w : World) (hr : RL w .u32 A n (dig B9 u)) (hn : n ≤ c) (hc : c ≤ maxLen) (hN : n ≤ 100000) (hr' : RL w .u32 A' m ys) (hm : m ≤ d) (hd : d ≤ maxLen) (hM : m ≤ 100000) (hy : ∀ x ∈ ys, x < 4294967296) (v T : Nat) (hv : val B9 ys = v) (hT : u * v = T) :
    Calls Tryz.prog 86 #[.agg #[.slice A n c], .agg #[.slice A' m d]] w (GivesN T w) :=
  rmul_any A n c (dig B9 u) A' m d ys w hr hn hc hN (fun x hx => by have : x < 1000000000 := dig_lt B9 (by decide) _ x hx; omega) hr' hm hd hM hy u v (val_dig B9 (by decide) u) hv T hT

end Go.Proofs.YtoeknkakdoemfaaGreatDoor

/- The reference's Norm and Sub once more, with the place where their results lie. -/
namespace Go.Proofs.YtoeknkakdoemfaaGreatDoor
open Go Go.RowKit

/-- the slice lies in a block that is new since w -/
def Fresh (w : World) (A : Option Addr) (n : Nat) : Prop := 0 < n → ∃ b o, A = some ⟨b, o, none⟩ ∧ w.heap.size ≤ b
def GivesNF (u : Nat) (w : World) (e : Ending) (w' : World) : Prop :=
  ∃ A n c, e = .returned (.agg #[.slice A n c]) ∧ RL w' .u32 A n (dig B9 u) ∧ n ≤ c ∧ c ≤ maxLen ∧ Below w.heap.size w w' ∧ Fresh w A n
def GivesNEF (u : Nat) (er : Int) (w : World) (e : Ending) (w' : World) : Prop :=
  ∃ A n c, e = .returned (.tuple #[.agg #[.slice A n c], .int .i64 er]) ∧ RL w' .u32 A n (dig B9 u) ∧ n ≤ c ∧ c ≤ maxLen ∧ Below w.heap.size w w' ∧ Fresh w A n
theorem gives_fresh {u : Nat} {w w' : World} {A : Option Addr} {n c : Nat} (h : GivesN u w (.returned (.agg #[.slice A n c])) w') (hf : Fresh w A n) : GivesNF u w (.returned (.agg #[.slice A n c])) w' := by
  obtain ⟨A', n', c', e, h1, h2, h3, h4⟩ := h
  injection e with e; injection e with e; injection e with e; injection e with e _; injection e with e1 e2 e3
  subst e1; subst e2; subst e3
  exact ⟨_, _, _, rfl, h1, h2, h3, h4, hf⟩
theorem gives_freshE {u : Nat} {er : Int} {w w' : World} {A : Option Addr} {n c : Nat} (h : GivesNE u er w (.returned (.tuple #[.agg #[.slice A n c], .int .i64 er])) w') (hf : Fresh w A n) : GivesNEF u er w (.returned (.tuple #[.agg #[.slice A n c], .int .i64 er])) w' := by
  obtain ⟨A', n', c', e, h1, h2, h3, h4⟩ := h
  injection e with e; injection e with e; injection e with e; injection e with e _; injection e with e; injection e with e; injection e with e _; injection e with e1 e2 e3
  subst e1; subst e2; subst e3
  exact ⟨_, _, _, rfl, h1, h2, h3, h4, hf⟩
theorem row_base {w : World} {base n c : Nat} {k : IntKind} {t : TypeId} {A : Option Addr} {xs : List Nat} (h : Row w base k t A n c xs) (b o : Nat) (e : A = some ⟨b, o, none⟩) : base ≤ b := by
  subst e
  rcases h.2 with ⟨h1, _⟩ | ⟨g, cap, cur, hv, _⟩
  · cases h1
  · injection hv with e1 _ _
    injection e1 with e1
    injection e1 with e1 _
    subst e1
    exact (World.ownsRow.lt h b rfl).1
theorem Fresh.sp {w : World} {A : Option Addr} {n g : Nat} (h : Fresh w A n) (hg : g < w.heap.size) : Sp A n g := by
  intro hn b o e
  obtain ⟨b', o', e', hb⟩ := h hn
  rw [e] at e'
  injection e' with e'
  injection e' with e1 _
  omega
theorem RL.off {w : World} {k : IntKind} {A : Option Addr} {n : Nat} {xs : List Nat} {p : Addr} (h : RL w k A n xs) (hs : Sp A n p.block) (u : Value) : RL (w.setCell p u) k A n xs :=
  ⟨h.1, fun hn => by
    obtain ⟨b, o, e, hc⟩ := h.2 hn
    have hne := hs hn b o e
    exact ⟨b, o, e, fun j x hx => (World.cell?_of_block (a := ⟨b, o + j, none⟩) (Below.heap_setCell w p u b hne)).trans (hc j x hx)⟩⟩

set_option maxHeartbeats 1000000 in
theorem rnorm_fresh (A : Option Addr) (n c : Nat) (xs : List Nat) (w : World) (hr : RL w .u32 A n xs) (hn : n ≤ c) (_hc : c ≤ maxLen) (hN : n ≤ 900000) (hx : ∀ x ∈ xs, x < 4294967296) (V : Nat) (hV : val B9 xs = V) :
    Calls Tryz.prog 70 #[.agg #[.slice A n c]] w (GivesNF V w) := by
  have HX := hide hx
  have HL := hide hr.len
  have HV := hide hV
  clear hx hV
  go_enter Tryz.func70, Tryz.ntmps70
  go_wp2_with fail
  generalize hW : (w.alloc _).alloc _ = W
  obtain ⟨hbW, h1, h2, hz⟩ := boxPR hW
  have hrW := hr.below hbW
  have hz0 : w.heap.size < W.heap.size := by omega
  have hz1 : w.heap.size + 1 < W.heap.size := by omega
  have H2 := hide h2
  clear hW hr hz h2
  go_loopw [3, 4, 5] (fun s v i wr => ∃ (k C c' : Nat) (A' : Option Addr) (out : List Nat), k ≤ n + 1 ∧ C ≤ 4 ∧ (n < k → C = 0) ∧ s = .slice A' k c' ∧ v = .int .u64 (C : Int) ∧ i = .int .i64 (k : Int) ∧ Row wr W.heap.size .u32 71 A' k c' out ∧ Below W.heap.size W wr ∧
      val B9 out + B9 ^ k * C = val B9 (xs.take k) ∧ ∀ x ∈ out, x < B9) (fun _ _ i _ => n + 1 - (intOf i).toNat)
  case atStart => exact ⟨0, 0, 0, none, [], by omega, by omega, fun _ => rfl, rfl, rfl, rfl, Row.nil_, Below.refl _ _, by simp [val], fun x hx => by simp at hx⟩
  case round =>
    obtain ⟨k, C, c', A', out, hk, hC, hC0, rfl, rfl, rfl, hrow, hbel, hval, hall⟩ := hrel
    have hcl : wr.cell? ⟨w.heap.size, 0, none⟩ = some (.slice A n c) := (hbel.cell (p := ⟨w.heap.size, 0, none⟩) hz0).trans h1
    have HK := hide hrow.len
    have HVL := hide hval
    have HA := hide hall
    have HC0 := hide hC0
    have hbs := hbel.size
    have hkc := hrow.le.1
    have hcm := hrow.le.2
    unfold maxLen at hcm
    clear hval hall hC0
    by_cases hlt : k < n
    · obtain ⟨b, o, x, rfl, hx, hcell⟩ := (hrW.below hbel).at_ hlt
      have hxb := HX.out x (List.mem_of_getElem? hx)
      have HS := hide (show val B9 (out ++ [(C + x) % B9]) + B9 ^ (k + 1) * ((C + x) / B9) = val B9 (xs.take (k + 1)) from by
        rw [app_step B9 out (C + x) HK.out, val_take_succ B9 hx, ← HVL.out, Nat.mul_add, Nat.add_assoc])
      clear hx h1
      go_wp2_with (at_builtin; refine wpList_append_rl _ rfl _ _ 22 rfl W.heap.size 71 .u32 4 Tryz.underlying22 u32_info A' k c' out rfl (hrow.alloc _) (some ⟨wr.heap.size, 0, none⟩) 1 1 [(C + x) % B9] rfl (RL.one wr .u32 71 (by show _ = (((C + x) % 1000000000 : Nat) : Int); omega)) (by omega) (k + 1) rfl (by omega) (by simp; omega) ?_; intro A2 c2 w1 hrow1 hbel1 hsz1)
      go_roundw
      case rel => exact ⟨k + 1, (C + x) / B9, c2, A2, out ++ [(C + x) % B9], by omega, by show (C + x) / 1000000000 ≤ 4; omega, fun h => absurd h (by omega), rfl, by show _ = Value.int .u64 (((C + x) / 1000000000 : Nat) : Int); go_num, by go_num, hrow1, (hbel.alloc hbs _).trans hbel1, HS.out, all_snoc HA.out (Nat.mod_lt _ (by decide))⟩
      case measure => simp [intOf]; omega
    · by_cases h0 : C = 0
      · subst h0
        have HD := hide (show trimL out = dig B9 V from by
          have h3 := HVL.out
          rw [Nat.mul_zero, Nat.add_zero, List.take_of_length_le (by rw [HL.out]; omega), HV.out] at h3
          rw [trimL_dig B9 (by decide) out HA.out, h3])
        have hbF := hbel
        have hcl1 : wr.cell? ⟨w.heap.size + 1, 0, none⟩ = some (.slice none 0 0) := (hbel.cell (p := ⟨w.heap.size + 1, 0, none⟩) hz1).trans (by rw [cell_of_row _ _ _ _ _ _ H2.out]; rfl)
        have hfl1 : wr.frozen? ⟨w.heap.size + 1, 0, none⟩ = false := (hbel.frozen (p := ⟨w.heap.size + 1, 0, none⟩) hz1).trans (frozen_of_row _ _ _ _ _ H2.out)
        go_wp2
        go_loopg [3] k (fun gk s wq => ∃ m : Nat, m = gk ∧ m ≤ k ∧ s = .slice A' m c' ∧ wq = wr ∧ trimL (out.take m) = trimL out)
        case atStart => exact ⟨k, rfl, by omega, rfl, rfl, by rw [List.take_of_length_le (by rw [HK.out]; omega)]⟩
        case round =>
          obtain ⟨m, rfl, hm, rfl, rfl, ht⟩ := hrel
          have HT := hide ht
          clear ht
          by_cases hm0 : m = 0
          · subst hm0
            have HE := hide (show dig B9 V = [] from by rw [← HD.out, ← HT.out]; rfl)
            go_wp2
            refine bodyPost_ret (v := .agg #[.slice A' 0 c']) (by simp [results, Tryz.results70, go_sem, hcl1]) rfl ?_
            exact gives_fresh (fin_struct hbW hbF (by omega) H2.out (by rw [HE.out]; exact RL.nil_) (by omega) hrow.le.2) (fun h => absurd h (by omega))
          · obtain ⟨b, o, x, rfl, hx, hcell⟩ := hrow.rl.at_ (j := m - 1) (by omega)
            have HX' := hide hx
            clear hx
            by_cases hx0 : x = 0
            · subst hx0
              have HT2 := hide (trim_zero hm0 HT.out HX'.out)
              go_wp2
              go_roundg (m - 1)
              case measure => omega
              case rel => exact ⟨m - 1, rfl, by omega, by go_num, rfl, HT2.out⟩
            · have HE := hide (trim_pos hm0 HT.out HX'.out hx0)
              have h4 := hrow.rl.take_ hm
              have h5 : out.take m = dig B9 V := by
                have := trimL_eq_take out
                rw [HE.out] at this
                rw [← this, HD.out]
              rw [h5] at h4
              have H4 := hide h4
              have HFR := hide (row_base hrow b o rfl)
              have hrc := hrow.le.2
              clear h4 h5
              go_wp2
              refine bodyPost_ret (v := .agg #[.slice (some ⟨b, o, none⟩) m c']) (by simp [results, Tryz.results70, go_sem, hcl1]) rfl ?_
              exact gives_fresh (fin_struct hbW hbF (by omega) H2.out H4.out (by omega) hrc) (fun _ => ⟨b, o, rfl, Nat.le_trans hbW.size HFR.out⟩)
      · obtain rfl : k = n := by
          rcases Nat.lt_or_ge n k with h | h
          · exact absurd (HC0.out h) h0
          · omega
        have HS := hide (show val B9 (out ++ [C % B9]) + B9 ^ (k + 1) * (C / B9) = val B9 (xs.take (k + 1)) from by
          rw [app_step B9 out C HK.out, HVL.out, List.take_of_length_le (by rw [HL.out]; omega), List.take_of_length_le (by rw [HL.out]; omega)])
        clear h1
        go_wp2_with (at_builtin; refine wpList_append_rl _ rfl _ _ 22 rfl W.heap.size 71 .u32 4 Tryz.underlying22 u32_info A' k c' out rfl (hrow.alloc _) (some ⟨wr.heap.size, 0, none⟩) 1 1 [C % B9] rfl (RL.one wr .u32 71 (by show _ = ((C % 1000000000 : Nat) : Int); omega)) (by omega) (k + 1) rfl (by omega) (by simp; omega) ?_; intro A2 c2 w1 hrow1 hbel1 hsz1)
        go_roundw
        case rel => exact ⟨k + 1, C / B9, c2, A2, out ++ [C % B9], by omega, by show C / 1000000000 ≤ 4; omega, fun _ => by show C / 1000000000 = 0; omega, rfl, by show _ = Value.int .u64 ((C / 1000000000 : Nat) : Int); go_num, by go_num, hrow1, (hbel.alloc hbs _).trans hbel1, HS.out, all_snoc HA.out (Nat.mod_lt _ (by decide))⟩
        case measure => simp [intOf]

set_option maxHeartbeats 2000000 in
theorem rsub_fresh (A : Option Addr) (n c : Nat) (xs : List Nat) (A' : Option Addr) (m d : Nat) (ys : List Nat) (w : World) (hr : RL w .u32 A n xs) (hn : n ≤ c) (hc : c ≤ maxLen) (hN : n ≤ 100000) (hx : ∀ x ∈ xs, x < 4294967296)
    (hr' : RL w .u32 A' m ys) (hm : m ≤ d) (hd : d ≤ maxLen) (hM : m ≤ 100000) (hy : ∀ x ∈ ys, x < 4294967296) (u v : Nat) (hu : val B9 xs = u) (hv : val B9 ys = v) (huv : v ≤ u) (T : Nat) (hT : u - v = T) :
    Calls Tryz.prog 88 #[.agg #[.slice A n c], .agg #[.slice A' m d]] w (GivesNEF T 0 w) := by
  have HX := hide hx
  have HY := hide hy
  have HU := hide hu
  have HV := hide hv
  have HL := hide hr.len
  have HL' := hide hr'.len
  clear hx hy hu hv
  have HUV := hide huv
  have HT := hide hT
  clear hT
  obtain ⟨r, hr0, hR⟩ : ∃ r, decide (r < (0 : Int)) = false ∧ cmpI u v = r := ⟨_, by unfold cmpI; split <;> simp; omega; split <;> simp, rfl⟩
  have HR := hide hR
  clear huv hR
  go_enter Tryz.func88, Tryz.ntmps88
  go_wp2_with fail
  generalize hW : ((w.alloc _).alloc _).alloc _ = W
  obtain ⟨hbW, b0, b1, b2, hz⟩ := boxes3 hW
  clear hW
  refine (rcmp_any A n c xs A' m d ys _ (hr.below hbW) hn hc (by omega) HX.out (hr'.below hbW) hm hd (by omega) HY.out u v HU.out HV.out r HR.out).mono ?_
  rintro e w0 ⟨rfl, hx⟩
  have b0 := b0.below' hx
  have b1 := b1.below' hx
  have b2 := b2.below' hx
  have hbW := hbW.trans (hx.mono hbW.size)
  have k0 := b0.cell
  have k1 := b1.cell
  have k2 := b2.cell
  have f2 := b2.frozen 0
  clear hx hz
  have hr := hr.below hbW
  have hr' := hr'.below hbW
  go_wp2_with fail
  refine (rnorm_any A n c xs _ hr hn hc (by omega) HX.out u HU.out).mono ?_
  rintro e w1 ⟨A1, n1, c1, rfl, r1, hn1, hc1, hb1⟩
  have hl1 : n1 ≤ n + 1 := dig_len_u32 (n := n1) (m := n) (xs := xs) (by rw [HU.out]; exact r1.len) HL.out HX.out
  have b0 := b0.below' hb1
  have b1 := b1.below' hb1
  have b2 := b2.below' hb1
  have hrB := hr'.below hb1
  have hbA := hbW.trans (hb1.mono hbW.size)
  clear k0 k1 k2 f2
  have f0 := b0.frozen 0
  have k0 := b0.cell
  have k1 := b1.cell
  clear hr hr' hb1 hbW
  go_wp2_with fail
  generalize hW2 : w1.setCell _ _ = w2
  have r2 : RL w2 .u32 A1 n1 (dig B9 u) := by rw [← hW2]; exact r1.put b0 _
  have rB2 : RL w2 .u32 A' m ys := by rw [← hW2]; exact hrB.put b0 _
  have c0 : Box w2 w.heap.size #[.slice A1 n1 c1] 24 := by rw [← hW2]; exact b0.put _
  have e1 := b1.far (p := ⟨w.heap.size, 0, none⟩) (by simp) (.slice A1 n1 c1)
  rw [hW2] at e1
  have e2 := b2.far (p := ⟨w.heap.size, 0, none⟩) (by simp) (.slice A1 n1 c1)
  rw [hW2] at e2
  have hb2 : Below w.heap.size w w2 := by rw [← hW2]; exact hbA.setCell (by simp) _
  clear hW2 r1 hrB b0 b1 hbA f0 k0 k1
  refine (rnorm_any A' m d ys _ rB2 hm hd (by omega) HY.out v HV.out).mono ?_
  rintro e w3 ⟨A3, n3, c3, rfl, r3, hn3, hc3, hb3⟩
  have hl3 : n3 ≤ m + 1 := dig_len_u32 (n := n3) (m := m) (xs := ys) (by rw [HV.out]; exact r3.len) HL'.out HY.out
  have b0 := c0.below' hb3
  have b1 := e1.below' hb3
  have b2 := e2.below' hb3
  have r2 := r2.below hb3
  have hbA := hb2.trans (hb3.mono hb2.size)
  have r4 : RL (w3.setCell ⟨w.heap.size + 1, 0, none⟩ (.slice A3 n3 c3)) .u32 A1 n1 (dig B9 u) := r2.put b1 _
  have r5 : RL (w3.setCell ⟨w.heap.size + 1, 0, none⟩ (.slice A3 n3 c3)) .u32 A3 n3 (dig B9 v) := r3.put b1 _
  have d0 : Box (w3.setCell ⟨w.heap.size + 1, 0, none⟩ (.slice A3 n3 c3)) w.heap.size #[.slice A1 n1 c1] 24 := b0.far (by simp) _
  have d1 : Box (w3.setCell ⟨w.heap.size + 1, 0, none⟩ (.slice A3 n3 c3)) (w.heap.size + 1) #[.slice A3 n3 c3] 24 := b1.put _
  have d2 := b2.far (p := ⟨w.heap.size + 1, 0, none⟩) (by simp) (.slice A3 n3 c3)
  have hb4 : Below w.heap.size w (w3.setCell ⟨w.heap.size + 1, 0, none⟩ (.slice A3 n3 c3)) := hbA.setCell (by simp) _
  have f1 := b1.frozen 0
  have g0 := b0.cell
  have g1 := b1.cell
  clear r2 r3 b0 b1 hbA c0 e1 rB2 hb2 hb3 b2 e2
  have k0 := d0.cell
  have k1 := d1.cell
  have HR4 := hide r4.len
  have HR5 := hide r5.len
  have hc1' : n1 ≤ maxLen := Nat.le_trans hn1 hc1
  have hc3' : n3 ≤ maxLen := Nat.le_trans hn3 hc3
  unfold maxLen at hc1' hc3'
  have hle : n3 ≤ n1 := by
    have := dig_mono B9 (by decide) HUV.out
    rw [HR4.out, HR5.out] at this
    exact this
  go_wp2_with fail
  generalize w3.setCell (⟨w.heap.size + 1, 0, none⟩ : Addr) (.slice A3 n3 c3) = W4 at *
  have lt0 := d0.lt
  have lt1 := d1.lt
  have lt2 := d2.lt
  clear f1 g0 g1 k0 k1
  go_loopw [6, 7, 8, 9] (fun s bo i _ wr => ∃ (k C c' : Nat) (A' : Option Addr) (out : List Nat), k ≤ n1 ∧ C ≤ 1 ∧ s = .slice A' k c' ∧ bo = .int .i64 (C : Int) ∧ i = .int .i64 (k : Int) ∧ Row wr W4.heap.size .u32 71 A' k c' out ∧ Below W4.heap.size W4 wr ∧
      val B9 out + val B9 ((dig B9 v).take k) = val B9 ((dig B9 u).take k) + B9 ^ k * C ∧ ∀ x ∈ out, x < B9) (fun _ _ i _ _ => n1 - (intOf i).toNat)
  case atStart => exact ⟨0, 0, 0, none, [], by omega, by omega, rfl, rfl, rfl, Row.nil_, Below.refl _ _, by simp [val], fun x hx => by simp at hx⟩
  case round =>
    obtain ⟨k, C, c', A', out, hk, hC, rfl, rfl, rfl, hrow, hbel, hval, hall⟩ := hrel
    have q0 := (d0.below hbel lt0).cell
    have q1 := (d1.below hbel lt1).cell
    have HK := hide hrow.len
    have HVL := hide hval
    have HA := hide hall
    have hbs := hbel.size
    have hkc := hrow.le.1
    have hcm := hrow.le.2
    have hra := r4.below hbel
    have hrb := r5.below hbel
    unfold maxLen at hcm
    clear hval hall
    by_cases ha : k < n1
    · obtain ⟨b, o, x, rfl, hx, hcell⟩ := hra.at_ ha
      have hxb : x < 1000000000 := dig_lt B9 (by decide) u x (List.mem_of_getElem? hx)
      by_cases hb : k < n3
      · obtain ⟨b', o', y, rfl, hy, hcell'⟩ := hrb.at_ hb
        have hyb : y < 1000000000 := dig_lt B9 (by decide) v y (List.mem_of_getElem? hy)
        by_cases hneg : x < C + y
        · have hd5 : decide ((x : Int) - (C : Int) - (y : Int) < 0) = true := by simp; omega
          have HZ := hide (show x + 1000000000 - C - y + (C + y) = x + B9 * 1 from by show _ = x + 1000000000 * 1; omega)
          have HS := hide (rsub_step HK.out hx HZ.out (val_take_succ B9 hy) HVL.out)
          have HA2 := hide (all_snoc (v := x + 1000000000 - C - y) HA.out (show x + 1000000000 - C - y < 1000000000 by omega))
          clear hx hy hra hrb
          go_wp2_with (at_builtin; refine wpList_append_rl _ rfl _ _ 22 rfl W4.heap.size 71 .u32 4 Tryz.underlying22 u32_info A' k c' out rfl (hrow.alloc _) (some ⟨wr.heap.size, 0, none⟩) 1 1 [x + 1000000000 - C - y] rfl (RL.one wr .u32 71 (by omega)) (by omega) (k + 1) rfl (by omega) (by simp; omega) ?_; intro A2 c2 w5 hrow1 hbel1 hsz1)
          go_roundw
          case rel => exact ⟨k + 1, 1, c2, A2, out ++ [x + 1000000000 - C - y], by omega, by omega, rfl, rfl, by go_num, hrow1, (hbel.alloc hbs _).trans hbel1, HS.out, HA2.out⟩
          case measure => simp [intOf]; omega
        · have hd5 : decide ((x : Int) - (C : Int) - (y : Int) < 0) = false := by simp; omega
          have HZ := hide (show x - C - y + (C + y) = x + B9 * 0 from by show _ = x + 1000000000 * 0; omega)
          have HS := hide (rsub_step HK.out hx HZ.out (val_take_succ B9 hy) HVL.out)
          have HA2 := hide (all_snoc (v := x - C - y) HA.out (show x - C - y < 1000000000 by omega))
          clear hx hy hra hrb
          go_wp2_with (at_builtin; refine wpList_append_rl _ rfl _ _ 22 rfl W4.heap.size 71 .u32 4 Tryz.underlying22 u32_info A' k c' out rfl (hrow.alloc _) (some ⟨wr.heap.size, 0, none⟩) 1 1 [x - C - y] rfl (RL.one wr .u32 71 (by omega)) (by omega) (k + 1) rfl (by omega) (by simp; omega) ?_; intro A2 c2 w5 hrow1 hbel1 hsz1)
          go_roundw
          case rel => exact ⟨k + 1, 0, c2, A2, out ++ [x - C - y], by omega, by omega, rfl, rfl, by go_num, hrow1, (hbel.alloc hbs _).trans hbel1, HS.out, HA2.out⟩
          case measure => simp [intOf]; omega
      · have hd3 : decide (k < n3) = false := by simp; omega
        by_cases hneg : x < C
        · have hd5 : decide ((x : Int) - (C : Int) < 0) = true := by simp; omega
          have HZ := hide (show x + 1000000000 - C + (C + 0) = x + B9 * 1 from by show _ = x + 1000000000 * 1; omega)
          have HS := hide (rsub_step HK.out hx HZ.out (val_take_none' (by rw [HR5.out]; omega)) HVL.out)
          have HA2 := hide (all_snoc (v := x + 1000000000 - C) HA.out (show x + 1000000000 - C < 1000000000 by omega))
          clear hx  hra hrb
          go_wp2_with (at_builtin; refine wpList_append_rl _ rfl _ _ 22 rfl W4.heap.size 71 .u32 4 Tryz.underlying22 u32_info A' k c' out rfl (hrow.alloc _) (some ⟨wr.heap.size, 0, none⟩) 1 1 [x + 1000000000 - C] rfl (RL.one wr .u32 71 (by omega)) (by omega) (k + 1) rfl (by omega) (by simp; omega) ?_; intro A2 c2 w5 hrow1 hbel1 hsz1)
          go_roundw
          case rel => exact ⟨k + 1, 1, c2, A2, out ++ [x + 1000000000 - C], by omega, by omega, rfl, rfl, by go_num, hrow1, (hbel.alloc hbs _).trans hbel1, HS.out, HA2.out⟩
          case measure => simp [intOf]; omega
        · have hd5 : decide ((x : Int) - (C : Int) < 0) = false := by simp; omega
          have HZ := hide (show x - C + (C + 0) = x + B9 * 0 from by show _ = x + 1000000000 * 0; omega)
          have HS := hide (rsub_step HK.out hx HZ.out (val_take_none' (by rw [HR5.out]; omega)) HVL.out)
          have HA2 := hide (all_snoc (v := x - C) HA.out (show x - C < 1000000000 by omega))
          clear hx  hra hrb
          go_wp2_with (at_builtin; refine wpList_append_rl _ rfl _ _ 22 rfl W4.heap.size 71 .u32 4 Tryz.underlying22 u32_info A' k c' out rfl (hrow.alloc _) (some ⟨wr.heap.size, 0, none⟩) 1 1 [x - C] rfl (RL.one wr .u32 71 (by omega)) (by omega) (k + 1) rfl (by omega) (by simp; omega) ?_; intro A2 c2 w5 hrow1 hbel1 hsz1)
          go_roundw
          case rel => exact ⟨k + 1, 0, c2, A2, out ++ [x - C], by omega, by omega, rfl, rfl, by go_num, hrow1, (hbel.alloc hbs _).trans hbel1, HS.out, HA2.out⟩
          case measure => simp [intOf]; omega
    · obtain rfl : k = n1 := by omega
      have HE := hide (show val B9 out = T from by
        have h3 := HVL.out
        rw [val_take_dig B9 (by decide) v k (by rw [HR5.out]; exact hle), val_take_dig B9 (by decide) u k (by rw [HR4.out]; exact Nat.le_refl _)] at h3
        rw [← HT.out]
        exact rsub_end HK.out HA.out h3 HUV.out)
      have HU32 := hide (show ∀ x ∈ out, x < 4294967296 from fun x hx => by have : x < 1000000000 := HA.out x hx; omega)
      have hbA := hb4.trans (hbel.mono hb4.size)
      have d2w := d2.below hbel lt2
      have hrl := hrow.rl
      clear hra hrb
      go_wp2_with fail
      refine (rnorm_fresh A' k c' out _ hrl hkc (by unfold maxLen; omega) (by omega) HU32.out T HE.out).mono ?_
      rintro e w6 ⟨A6, n6, c6, rfl, r6, hn6, hc6, hb6, hf6⟩
      have q2 := (d2w.below' hb6).cell
      have g2 := (d2w.below' hb6).frozen 0
      go_wp2
      refine bodyPost_ret (v := .tuple #[.agg #[.slice A6 n6 c6], .int .i64 0]) (by simp [results, Tryz.results88, go_sem, q2]) rfl ?_
      exact gives_freshE (fin_structE hbA hb6 (by omega) d2w r6 hn6 hc6) (fun h => by obtain ⟨b, o, e1, e2⟩ := hf6 h; exact ⟨b, o, e1, Nat.le_trans hbA.size e2⟩)

end Go.Proofs.YtoeknkakdoemfaaGreatDoor

/- Division by the reference: plain mathematics, and words for its memory. -/
namespace Go.Proofs.YtoeknkakdoemfaaGreatDoor
open Go Go.RowKit

theorem dig_get (b : Nat) (hb : 2 ≤ b) : ∀ (k v x : Nat), (dig b v)[k]? = some x → x = v / b ^ k % b
  | k, v, x, h => by
    by_cases h0 : v = 0
    · subst h0; rw [dig_zero] at h; cases h
    · rw [dig_pos b hb v h0] at h
      cases k with
      | zero => simp at h; rw [Nat.pow_zero, Nat.div_one]; exact h.symm
      | succ k =>
        rw [List.getElem?_cons_succ] at h
        have := dig_get b hb k (v / b) x h
        rw [this, Nat.div_div_eq_div_mul, Nat.pow_succ, Nat.mul_comm (b ^ k) b]
theorem dig_len_eq {v n : Nat} (h1 : B9 ^ n ≤ v) (h2 : v < B9 ^ (n + 1)) : (dig B9 v).length = n + 1 := by
  have e1 := (dig_length_le B9 (by decide) (n + 1) v).2 h2
  have e2 : ¬ (dig B9 v).length ≤ n := fun h => by
    have := (dig_length_le B9 (by decide) n v).1 h
    omega
  omega
theorem dig_len_ge {v n : Nat} (h : (dig B9 v).length = n + 1) : B9 ^ n ≤ v ∧ v < B9 ^ (n + 1) := by
  refine ⟨?_, (dig_length_le B9 (by decide) _ _).1 (by omega)⟩
  rcases Nat.lt_or_ge v (B9 ^ n) with h1 | h1
  · have := (dig_length_le B9 (by decide) n v).2 h1
    omega
  · exact h1
/-- the greatest limb -/
theorem dig_top {v n x : Nat} (h : (dig B9 v).length = n + 1) (hx : (dig B9 v)[n]? = some x) : x = v / B9 ^ n ∧ 1 ≤ x := by
  obtain ⟨h1, h2⟩ := dig_len_ge h
  have e := dig_get B9 (by decide) n v x hx
  have e2 : v / B9 ^ n < B9 := (Nat.div_lt_iff_lt_mul (Nat.pow_pos (by decide))).2 (by rw [Nat.pow_succ, Nat.mul_comm] at h2; exact h2)
  rw [Nat.mod_eq_of_lt e2] at e
  refine ⟨e, ?_⟩
  rw [e]
  exact (Nat.le_div_iff_mul_le (Nat.pow_pos (by decide))).2 (by omega)
/-- the factor, and what it makes of the divisor -/
theorem factor_fits {v n x f : Nat} (h : (dig B9 v).length = n + 1) (hx : (dig B9 v)[n]? = some x) (hf : 1000000000 / (x + 1) = f) : 1 ≤ f ∧ f < 1000000000 ∧ (dig B9 (v * f)).length = n + 1 := by
  obtain ⟨e1, e2⟩ := dig_top h hx
  obtain ⟨h1, h2⟩ := dig_len_ge h
  have hxb : x < 1000000000 := dig_lt B9 (by decide) v x (List.mem_of_getElem? hx)
  have hf1 : 1 ≤ f := by rw [← hf]; exact (Nat.le_div_iff_mul_le (by omega)).2 (by omega)
  have hf2 : f * (x + 1) ≤ 1000000000 := by rw [← hf]; exact Nat.div_mul_le_self _ _
  have hv : v < (x + 1) * B9 ^ n := by
    have := Nat.lt_succ_iff.1 (Nat.lt_succ_of_le (Nat.le_of_eq e1.symm))
    have h3 := Nat.div_add_mod v (B9 ^ n)
    have h4 := Nat.mod_lt v (Nat.pow_pos (n := n) (show 0 < B9 by decide))
    rw [← e1] at h3
    rw [Nat.add_mul, Nat.one_mul, Nat.mul_comm x]
    omega
  refine ⟨hf1, ?_, dig_len_eq ?_ ?_⟩
  · have : f * 2 ≤ f * (x + 1) := Nat.mul_le_mul_left _ (by omega)
    omega
  · have : v * 1 ≤ v * f := Nat.mul_le_mul_left _ hf1
    omega
  · have h5 : v * f < (x + 1) * B9 ^ n * f := Nat.mul_lt_mul_of_pos_right hv hf1
    have h6 : (x + 1) * B9 ^ n * f = f * (x + 1) * B9 ^ n := by rw [Nat.mul_comm _ f, Nat.mul_assoc]
    have h7 : f * (x + 1) * B9 ^ n ≤ 1000000000 * B9 ^ n := Nat.mul_le_mul_right _ hf2
    rw [Nat.pow_succ, Nat.mul_comm (B9 ^ n)]
    show v * f < 1000000000 * B9 ^ n
    omega
/-- a guess is never too small -/
theorem guess_ge {R y top n : Nat} (hy : y / B9 ^ n = top) (ht : 1 ≤ top) (hR : R / y ≤ 999999999) : R / y ≤ min (R / B9 ^ n / top) 999999999 := by
  refine Nat.le_min.2 ⟨?_, hR⟩
  rw [Nat.div_div_eq_div_mul]
  refine Nat.div_le_div_left ?_ (Nat.mul_pos (Nat.pow_pos (by decide)) ht)
  rw [← hy]
  exact Nat.mul_div_le y _
theorem div_small {R y n : Nat} (hR : R < B9 ^ n) (hy : B9 ^ n ≤ y) : R / y = 0 := Nat.div_eq_of_lt (by omega)

/-- a natural of a value in a box of its own -/
def Boxed (W : World) (u : Nat) (s : Value) (wx : World) : Prop :=
  ∃ (g : Nat) (A : Option Addr) (n c : Nat), s = .pointer (some ⟨g, 0, none⟩) ∧ Box wx g #[.slice A n c] 24 ∧ RL wx .u32 A n (dig B9 u) ∧ n ≤ c ∧ c ≤ maxLen ∧ W.heap.size ≤ g ∧ Below W.heap.size W wx
theorem boxed_new {W w7 : World} {u : Nat} {A : Option Addr} {n c : Nat} (E : Below W.heap.size W w7) (h : RL w7 .u32 A n (dig B9 u)) (hn : n ≤ c) (hc : c ≤ maxLen) :
    Boxed W u (.pointer (some ⟨w7.heap.size, 0, none⟩)) (w7.alloc (.cells #[.slice A n c] 24)) :=
  ⟨w7.heap.size, A, n, c, rfl, Box.new _ _ _, h.below ((Below.refl _ _).alloc (Nat.le_refl _) _), hn, hc, E.size, E.alloc E.size _⟩
theorem boxed_old {W v w7 : World} {u : Nat} {A S : Option Addr} {n c k l : Nat} (E : Below W.heap.size W v) (hx : Below (v.alloc (.cells #[.slice S k l] 24)).heap.size (v.alloc (.cells #[.slice S k l] 24)) w7) (h : RL w7 .u32 A n (dig B9 u)) (hn : n ≤ c) (hc : c ≤ maxLen) :
    Boxed W u (.pointer (some ⟨v.heap.size, 0, none⟩)) (w7.setCell ⟨v.heap.size, 0, none⟩ (.slice A n c)) := by
  have b : Box w7 v.heap.size #[.slice S k l] 24 := (Box.new v _ _).below' hx
  exact ⟨v.heap.size, A, n, c, rfl, b.put _, h.put b _, hn, hc, E.size, ((E.alloc E.size _).trans (hx.mono (by simp; have := E.size; omega))).setCell E.size _⟩
theorem fin_boxDM {w W : World} {g g' : Nat} {S S' A A' : Option Addr} {m d m' d' n c n' c' u v : Nat} {t t' : TypeId} {er : Int} (hb : Below w.heap.size w W) (b : Box W g #[.slice S m d] t) (b' : Box W g' #[.slice S' m' d'] t') (hne : g' ≠ g) (hg : w.heap.size ≤ g) (hg' : w.heap.size ≤ g')
    (hr : RL W .u32 A n (dig B9 u)) (hn : n ≤ c) (hc : c ≤ maxLen) (hr' : RL W .u32 A' n' (dig B9 v)) (hn' : n' ≤ c') (hc' : c' ≤ maxLen) :
    GivesDM u v er w (.returned (.tuple #[.agg #[.slice A n c], .agg #[.slice A' n' c'], .int .i64 er])) ((W.setCell ⟨g, 0, none⟩ (.slice A n c)).setCell ⟨g', 0, none⟩ (.slice A' n' c')) := by
  have b2 := b'.far (p := ⟨g, 0, none⟩) hne (.slice A n c)
  exact ⟨A, n, c, A', n', c', rfl, (hr.put b _).put b2 _, hn, hc, (hr'.put b _).put b2 _, hn', hc', (hb.setCell hg _).setCell hg' _⟩
theorem step_append_rl {P : Program} {w : World} {ops : Array Oper} {o : Oper} {a : Act} {K : Act → World → Prop} {Q : Exit → Act → World → Prop} {E : Prop} (hgd : o.guard = none) (s x : Operand) (t : TypeId)
    (ho : o.op = .call { callee := .builtin .append, args := #[s, x], argTypes := #[t, t] })
    (base : Nat) (e : TypeId) (k : IntKind) (bytes : Nat) (ht : P.underlying t = some (.slice e)) (h2 : (P.info? e).map (fun i => (i.zero, i.size, i.bytes)) = some (some (.int k 0), 1, bytes))
    (S : Option Addr) (n cs : Nat) (xs : List Nat) (hs : a.eval s = .slice S n cs) (hown : Row w base k e S n cs xs)
    (A : Option Addr) (m c : Nat) (news : List Nat) (hx : a.eval x = .slice A m c) (hr : RL w k A m news) (hby : bytes ≤ 8) (p : Nat) (hp : p = n + m) (hN : p ≤ 1099511627776) (hbase : base ≤ w.heap.size)
    (h : ∀ A' c' w', Row w' base k e A' p c' (xs ++ news) → Below base w w' → w.heap.size ≤ w'.heap.size → K (a.put o.dst (.slice A' p c')) w') :
    if Region.wanted o (yielded ops a.tmps) = true then Oper.wp P o a w K Q else E := by
  have hw : Region.wanted o (yielded ops a.tmps) = true := by simp [Region.wanted, hgd]
  rw [if_pos hw]
  subst hp
  obtain ⟨A', c', w', hrun, h2, h3, h4⟩ := run_append_rl (P := P) w base t o.type e k bytes ht h2 S n cs xs hown A m c news hr hby hN hbase
  unfold Oper.wp execOp
  simp only [ho, resolve, invoke, builtin, Sem.run_bind, Sem.run_pure, Result.andThen_ok, List.map_toArray, List.map_cons, List.map_nil, hs, hx, hrun]
  exact h A' c' w' h2 h3 h4
theorem Row.one (w : World) (k : IntKind) (t : TypeId) {v : Int} {x : Nat} (e : v = (x : Int)) : Row (w.alloc (.cells #[.int k v] t)) w.heap.size k t (some ⟨w.heap.size, 0, none⟩) 1 1 [x] := by
  subst e
  exact World.ownsRow_lit (size := 1) w #[.int k x] 1 (Nat.le_refl _) (by simp [maxLen]) (by simp)
end Go.Proofs.YtoeknkakdoemfaaGreatDoor

/- The contract of the reference's DivMod: the short ways. -/
namespace Go.Proofs.YtoeknkakdoemfaaGreatDoor
open Go Go.RowKit

theorem gives_drew {u v : Nat} {er : Int} {w w' : World} {e : Ending} (h : GivesDM u v er w e w') : GivesDM u v er w e w'.drew := by
  obtain ⟨A, n, c, A', n', c', rfl, h1, h2, h3, h4, h5, h6, h7⟩ := h
  exact ⟨A, n, c, A', n', c', rfl, h1, h2, h3, h4, h5, h6, h7.drew⟩
set_option maxHeartbeats 8000000 in
set_option maxRecDepth 100000 in
theorem rdiv_zero (A : Option Addr) (n c : Nat) (xs : List Nat) (A' : Option Addr) (m d : Nat) (ys : List Nat) (w : World) (hr : RL w .u32 A n xs) (hn : n ≤ c) (hc : c ≤ maxLen) (hN : n ≤ 50000) (hx : ∀ x ∈ xs, x < 4294967296)
    (hr' : RL w .u32 A' m ys) (hm : m ≤ d) (hd : d ≤ maxLen) (hM : m ≤ 50000) (hy : ∀ x ∈ ys, x < 4294967296) (u v : Nat) (hu : val B9 xs = u) (hv : val B9 ys = v) (h0 : v = 0) :
    Calls Tryz.prog 80 #[.agg #[.slice A n c], .agg #[.slice A' m d]] w (GivesDM 0 0 12 w) := by
  have HX := hide hx
  have HY := hide hy
  have HU := hide hu
  have HV := hide hv
  have HL := hide hr.len
  have HL' := hide hr'.len
  clear hx hy hu hv
  have H0 := hide h0
  clear h0
  go_enter Tryz.func80, Tryz.ntmps80
  go_wp2_with fail
  generalize hW : (((w.alloc _).alloc _).alloc _).alloc _ = W
  obtain ⟨hbW, b0, b1, b2, b3, hz⟩ := boxes4 hW
  clear hW
  refine (rnorm_any A n c xs _ (hr.below hbW) hn hc (by omega) HX.out u HU.out).mono ?_
  rintro e w1 ⟨A1, n1, c1, rfl, r1, hn1, hc1, hb1⟩
  have hl1 : n1 ≤ n + 1 := dig_len_u32 (n := n1) (m := n) (xs := xs) (by rw [HU.out]; exact r1.len) HL.out HX.out
  have b0 := b0.below' hb1
  have b1 := b1.below' hb1
  have b2 := b2.below' hb1
  have b3 := b3.below' hb1
  have hrB := hr'.below (hbW.trans (hb1.mono hbW.size))
  have hbA := hbW.trans (hb1.mono hbW.size)
  have f0 := b0.frozen 0
  have k0 := b0.cell
  have k1 := b1.cell
  clear hr hr' hb1 hbW
  go_wp2_with fail
  generalize hW2 : w1.setCell _ _ = w2
  have r2 : RL w2 .u32 A1 n1 (dig B9 u) := by rw [← hW2]; exact r1.put b0 _
  have rB2 : RL w2 .u32 A' m ys := by rw [← hW2]; exact hrB.put b0 _
  have c0 : Box w2 w.heap.size #[.slice A1 n1 c1] 24 := by rw [← hW2]; exact b0.put _
  have e1 := b1.far (p := ⟨w.heap.size, 0, none⟩) (by simp) (.slice A1 n1 c1)
  rw [hW2] at e1
  have e2 := b2.far (p := ⟨w.heap.size, 0, none⟩) (by simp) (.slice A1 n1 c1)
  rw [hW2] at e2
  have e3 := b3.far (p := ⟨w.heap.size, 0, none⟩) (by simp) (.slice A1 n1 c1)
  rw [hW2] at e3
  have hb2 : Below w.heap.size w w2 := by rw [← hW2]; exact hbA.setCell (by simp) _
  clear hW2 r1 hrB b0 b1 hbA f0 k0 k1
  refine (rnorm_any A' m d ys _ rB2 hm hd (by omega) HY.out v HV.out).mono ?_
  rintro e w3 ⟨A3, n3, c3, rfl, r3, hn3, hc3, hb3⟩
  have hl3 : n3 ≤ m + 1 := dig_len_u32 (n := n3) (m := m) (xs := ys) (by rw [HV.out]; exact r3.len) HL'.out HY.out
  have b0 := c0.below' hb3
  have b1 := e1.below' hb3
  have b2 := e2.below' hb3
  have b3 := e3.below' hb3
  have r2 := r2.below hb3
  have hbA := hb2.trans (hb3.mono hb2.size)
  have r4 : RL (w3.setCell ⟨w.heap.size + 1, 0, none⟩ (.slice A3 n3 c3)) .u32 A1 n1 (dig B9 u) := r2.put b1 _
  have r5 : RL (w3.setCell ⟨w.heap.size + 1, 0, none⟩ (.slice A3 n3 c3)) .u32 A3 n3 (dig B9 v) := r3.put b1 _
  have d0 : Box (w3.setCell ⟨w.heap.size + 1, 0, none⟩ (.slice A3 n3 c3)) w.heap.size #[.slice A1 n1 c1] 24 := b0.far (by simp) _
  have d1 : Box (w3.setCell ⟨w.heap.size + 1, 0, none⟩ (.slice A3 n3 c3)) (w.heap.size + 1) #[.slice A3 n3 c3] 24 := b1.put _
  have d2 := b2.far (p := ⟨w.heap.size + 1, 0, none⟩) (by simp) (.slice A3 n3 c3)
  have d3 := b3.far (p := ⟨w.heap.size + 1, 0, none⟩) (by simp) (.slice A3 n3 c3)
  have hb4 : Below w.heap.size w (w3.setCell ⟨w.heap.size + 1, 0, none⟩ (.slice A3 n3 c3)) := hbA.setCell (by simp) _
  have f1 := b1.frozen 0
  have g0 := b0.cell
  have g1 := b1.cell
  clear r2 r3 b0 b1 hbA c0 e1 rB2 hb2 hb3 b2 e2 b3 e3
  have k0 := d0.cell
  have k1 := d1.cell
  have HR4 := hide r4.len
  have HR5 := hide r5.len
  have hc1' : n1 ≤ maxLen := Nat.le_trans hn1 hc1
  have hc3' : n3 ≤ maxLen := Nat.le_trans hn3 hc3
  unfold maxLen at hc1' hc3'
  obtain rfl : n3 = 0 := by have h := HR5.out; rw [H0.out] at h; exact h.symm
  have k2 := d2.cell
  have k3 := d3.cell
  have f2 := d2.frozen 0
  have f3 := d3.frozen 0
  have hG := fin_boxDM (er := 12) hb4 d2 d3 (by omega) (by omega) (by omega) (show RL _ .u32 none 0 (dig B9 0) from RL.nil_) (Nat.le_refl 0) (by simp [maxLen]) (show RL _ .u32 none 0 (dig B9 0) from RL.nil_) (Nat.le_refl 0) (by simp [maxLen])
  have HG := hide hG
  clear hG
  go_wp2
  refine bodyPost_ret (v := .tuple #[.agg #[.slice none 0 0], .agg #[.slice none 0 0], .int .i64 12]) (by simp [results, Tryz.results80, go_sem, k2, k3]) rfl ?_
  exact HG.out

set_option maxHeartbeats 8000000 in
set_option maxRecDepth 100000 in
theorem rdiv_less (A : Option Addr) (n c : Nat) (xs : List Nat) (A' : Option Addr) (m d : Nat) (ys : List Nat) (w : World) (hr : RL w .u32 A n xs) (hn : n ≤ c) (hc : c ≤ maxLen) (hN : n ≤ 50000) (hx : ∀ x ∈ xs, x < 4294967296)
    (hr' : RL w .u32 A' m ys) (hm : m ≤ d) (hd : d ≤ maxLen) (hM : m ≤ 50000) (hy : ∀ x ∈ ys, x < 4294967296) (u v : Nat) (hu : val B9 xs = u) (hv : val B9 ys = v) (h0 : v ≠ 0) (huv : u < v) :
    Calls Tryz.prog 80 #[.agg #[.slice A n c], .agg #[.slice A' m d]] w (GivesDM 0 u 0 w) := by
  have HX := hide hx
  have HY := hide hy
  have HU := hide hu
  have HV := hide hv
  have HL := hide hr.len
  have HL' := hide hr'.len
  clear hx hy hu hv
  have H0 := hide h0
  have HUV := hide (cmpI_lt huv)
  clear h0 huv
  go_enter Tryz.func80, Tryz.ntmps80
  go_wp2_with fail
  generalize hW : (((w.alloc _).alloc _).alloc _).alloc _ = W
  obtain ⟨hbW, b0, b1, b2, b3, hz⟩ := boxes4 hW
  clear hW
  refine (rnorm_any A n c xs _ (hr.below hbW) hn hc (by omega) HX.out u HU.out).mono ?_
  rintro e w1 ⟨A1, n1, c1, rfl, r1, hn1, hc1, hb1⟩
  have hl1 : n1 ≤ n + 1 := dig_len_u32 (n := n1) (m := n) (xs := xs) (by rw [HU.out]; exact r1.len) HL.out HX.out
  have b0 := b0.below' hb1
  have b1 := b1.below' hb1
  have b2 := b2.below' hb1
  have b3 := b3.below' hb1
  have hrB := hr'.below (hbW.trans (hb1.mono hbW.size))
  have hbA := hbW.trans (hb1.mono hbW.size)
  have f0 := b0.frozen 0
  have k0 := b0.cell
  have k1 := b1.cell
  clear hr hr' hb1 hbW
  go_wp2_with fail
  generalize hW2 : w1.setCell _ _ = w2
  have r2 : RL w2 .u32 A1 n1 (dig B9 u) := by rw [← hW2]; exact r1.put b0 _
  have rB2 : RL w2 .u32 A' m ys := by rw [← hW2]; exact hrB.put b0 _
  have c0 : Box w2 w.heap.size #[.slice A1 n1 c1] 24 := by rw [← hW2]; exact b0.put _
  have e1 := b1.far (p := ⟨w.heap.size, 0, none⟩) (by simp) (.slice A1 n1 c1)
  rw [hW2] at e1
  have e2 := b2.far (p := ⟨w.heap.size, 0, none⟩) (by simp) (.slice A1 n1 c1)
  rw [hW2] at e2
  have e3 := b3.far (p := ⟨w.heap.size, 0, none⟩) (by simp) (.slice A1 n1 c1)
  rw [hW2] at e3
  have hb2 : Below w.heap.size w w2 := by rw [← hW2]; exact hbA.setCell (by simp) _
  clear hW2 r1 hrB b0 b1 hbA f0 k0 k1
  refine (rnorm_any A' m d ys _ rB2 hm hd (by omega) HY.out v HV.out).mono ?_
  rintro e w3 ⟨A3, n3, c3, rfl, r3, hn3, hc3, hb3⟩
  have hl3 : n3 ≤ m + 1 := dig_len_u32 (n := n3) (m := m) (xs := ys) (by rw [HV.out]; exact r3.len) HL'.out HY.out
  have b0 := c0.below' hb3
  have b1 := e1.below' hb3
  have b2 := e2.below' hb3
  have b3 := e3.below' hb3
  have r2 := r2.below hb3
  have hbA := hb2.trans (hb3.mono hb2.size)
  have r4 : RL (w3.setCell ⟨w.heap.size + 1, 0, none⟩ (.slice A3 n3 c3)) .u32 A1 n1 (dig B9 u) := r2.put b1 _
  have r5 : RL (w3.setCell ⟨w.heap.size + 1, 0, none⟩ (.slice A3 n3 c3)) .u32 A3 n3 (dig B9 v) := r3.put b1 _
  have d0 : Box (w3.setCell ⟨w.heap.size + 1, 0, none⟩ (.slice A3 n3 c3)) w.heap.size #[.slice A1 n1 c1] 24 := b0.far (by simp) _
  have d1 : Box (w3.setCell ⟨w.heap.size + 1, 0, none⟩ (.slice A3 n3 c3)) (w.heap.size + 1) #[.slice A3 n3 c3] 24 := b1.put _
  have d2 := b2.far (p := ⟨w.heap.size + 1, 0, none⟩) (by simp) (.slice A3 n3 c3)
  have d3 := b3.far (p := ⟨w.heap.size + 1, 0, none⟩) (by simp) (.slice A3 n3 c3)
  have hb4 : Below w.heap.size w (w3.setCell ⟨w.heap.size + 1, 0, none⟩ (.slice A3 n3 c3)) := hbA.setCell (by simp) _
  have f1 := b1.frozen 0
  have g0 := b0.cell
  have g1 := b1.cell
  clear r2 r3 b0 b1 hbA c0 e1 rB2 hb2 hb3 b2 e2 b3 e3
  have k0 := d0.cell
  have k1 := d1.cell
  have HR4 := hide r4.len
  have HR5 := hide r5.len
  have hc1' : n1 ≤ maxLen := Nat.le_trans hn1 hc1
  have hc3' : n3 ≤ maxLen := Nat.le_trans hn3 hc3
  unfold maxLen at hc1' hc3'
  have hn3' := hn3
  have hz3 : ((n3 : Int) == 0) = false := by
    have : n3 ≠ 0 := fun h => H0.out ((dig_eq_nil B9 (by decide)).1 (List.eq_nil_of_length_eq_zero (by rw [HR5.out, h])))
    simp; omega
  go_wp2_with fail
  generalize w3.setCell (⟨w.heap.size + 1, 0, none⟩ : Addr) (.slice A3 n3 c3) = W4 at *
  refine (rcmp_d A1 n1 c1 u A3 n3 c3 v _ r4 hn1 hc1 (by omega) r5 hn3' hc3 (by omega) (-1) HUV.out).mono ?_
  rintro e w5 ⟨rfl, hx⟩
  have d0 := d0.below' hx
  have d2 := d2.below' hx
  have d3 := d3.below' hx
  have r6 := r4.below hx
  have hb6 := hb4.trans (hx.mono hb4.size)
  have j0 := d0.cell
  have j2 := d2.cell
  have j3 := d3.cell
  have f2 := d2.frozen 0
  have f3 := d3.frozen 0
  clear hx k0 k1 f1 g0 g1 d1 r4 r5
  have hG := fin_boxDM (er := 0) hb6 d2 d3 (by omega) (by omega) (by omega) (show RL _ .u32 none 0 (dig B9 0) from RL.nil_) (Nat.le_refl 0) (by simp [maxLen]) r6 hn1 hc1
  have HG := hide hG
  clear hG
  go_wp2_with fail
  go_region
  go_wp2
  refine bodyPost_ret (v := .tuple #[.agg #[.slice none 0 0], .agg #[.slice A1 n1 c1], .int .i64 0]) (by simp [results, Tryz.results80, go_sem, j2, j3]) rfl ?_
  exact gives_drew HG.out
end Go.Proofs.YtoeknkakdoemfaaGreatDoor

/- The contract of the reference's DivMod: the long way. -/
namespace Go.Proofs.YtoeknkakdoemfaaGreatDoor
open Go Go.RowKit

/-- what a box's one cell holds, told by the world alone -/
def slA (g : Nat) (w : World) : Option Addr := match w.cell? ⟨g, 0, none⟩ with
  | some (.slice a _ _) => a
  | _ => none
def slN (g : Nat) (w : World) : Nat := match w.cell? ⟨g, 0, none⟩ with
  | some (.slice _ n _) => n
  | _ => 0
def slC (g : Nat) (w : World) : Nat := match w.cell? ⟨g, 0, none⟩ with
  | some (.slice _ _ c) => c
  | _ => 0
theorem sl_eq {g : Nat} {w : World} {a : Option Addr} {n c : Nat} (h : w.cell? ⟨g, 0, none⟩ = some (.slice a n c)) : slA g w = a ∧ slN g w = n ∧ slC g w = c := by
  unfold slA slN slC
  rw [h]
  exact ⟨rfl, rfl, rfl⟩
theorem sl_cell {g : Nat} {w : World} {a : Option Addr} {n c : Nat} (h : w.cell? ⟨g, 0, none⟩ = some (.slice a n c)) : w.cell? ⟨g, 0, none⟩ = some (.slice (slA g w) (slN g w) (slC g w)) := by
  obtain ⟨e1, e2, e3⟩ := sl_eq h
  rw [e1, e2, e3]; exact h
theorem lenO {w : World} {A : Option Addr} {n u : Nat} (h : RL w .u32 A n (dig B9 u)) (hu : u < B9 ^ 1) : n ≤ 100000 := by
  have := len_le h.len hu
  omega
theorem lenK {w : World} {A : Option Addr} {n u k : Nat} (h : RL w .u32 A n (dig B9 u)) (hu : (dig B9 u).length ≤ k) : n ≤ k := by
  rw [← h.len]; exact hu
theorem dig_mul_len {u f n : Nat} (hu : (dig B9 u).length ≤ n) (hf : f < B9 ^ 1) : (dig B9 (u * f)).length ≤ n + 1 := by
  rw [dig_length_le B9 (by decide)] at hu ⊢
  exact mulB hu hf
/-- a step of the long division: the next limb is put before the rest -/
theorem long_step {X Y xi i : Nat} (hx : (dig B9 X)[i]? = some xi) (hY : 0 < Y) :
    val B9 ((dig B9 X).drop i) / Y = (xi + B9 * (val B9 ((dig B9 X).drop (i + 1)) % Y)) / Y + B9 * (val B9 ((dig B9 X).drop (i + 1)) / Y) ∧
    val B9 ((dig B9 X).drop i) % Y = (xi + B9 * (val B9 ((dig B9 X).drop (i + 1)) % Y)) % Y ∧ (xi + B9 * (val B9 ((dig B9 X).drop (i + 1)) % Y)) / Y ≤ 999999999 := by
  have hxb : xi < 1000000000 := dig_lt B9 (by decide) X xi (List.mem_of_getElem? hx)
  obtain ⟨h1, h2⟩ := div_step (D := Y) (V := val B9 ((dig B9 X).drop (i + 1))) (x := xi) (b := B9) hY
  rw [← val_drop_step B9 hx] at h1 h2
  have e : val B9 ((dig B9 X).drop (i + 1)) % Y * B9 + xi = xi + B9 * (val B9 ((dig B9 X).drop (i + 1)) % Y) := by rw [Nat.mul_comm, Nat.add_comm]
  rw [e] at h1 h2
  refine ⟨h1, h2, ?_⟩
  have h3 := div_bound (D := Y) (R := val B9 ((dig B9 X).drop (i + 1)) % Y) (x := xi) (b := B9) (Nat.mod_lt _ hY) hxb
  rw [e] at h3
  have : (xi + B9 * (val B9 ((dig B9 X).drop (i + 1)) % Y)) / Y < 1000000000 := h3
  omega
/-- what stays as it is while the quotient is made: both numbers in their boxes, the boxes of the results, the limbs of the quotient -/
def DW (w : World) (gx : Nat) (Ax : Option Addr) (nx cx X gy : Nat) (Ay : Option Addr) (ny cy Y gq : Nat) (zs : List Nat) (wr : World) : Prop :=
  Box wr gx #[.slice Ax nx cx] 24 ∧ RL wr .u32 Ax nx (dig B9 X) ∧ Box wr gy #[.slice Ay ny cy] 24 ∧ RL wr .u32 Ay ny (dig B9 Y) ∧
  Box wr (w.heap.size + 2) #[.slice none 0 0] 24 ∧ Box wr (w.heap.size + 3) #[.slice none 0 0] 24 ∧ Below w.heap.size w wr ∧ Own wr gq .u32 71 zs
section
variable {w : World} {gx : Nat} {Ax : Option Addr} {nx cx X gy : Nat} {Ay : Option Addr} {ny cy Y gq : Nat} {zs : List Nat} {wr w' : World}
theorem DW.below (h : DW w gx Ax nx cx X gy Ay ny cy Y gq zs wr) (hb : Below wr.heap.size wr w') : DW w gx Ax nx cx X gy Ay ny cy Y gq zs w' := by
  obtain ⟨h1, h2, h3, h4, h5, h6, h7, h8⟩ := h
  exact ⟨h1.below' hb, h2.below hb, h3.below' hb, h4.below hb, h5.below' hb, h6.below' hb, h7.trans (hb.mono h7.size), h8.below' hb⟩
theorem DW.store (h : DW w gx Ax nx cx X gy Ay ny cy Y gq zs wr) {g : Nat} {S : Option Addr} {m d : Nat} (b : Box wr g #[.slice S m d] 24) (e1 : gx ≠ g) (e2 : gy ≠ g) (e3 : w.heap.size + 3 < g) (e4 : gq ≠ g) (u : Value) : DW w gx Ax nx cx X gy Ay ny cy Y gq zs (wr.setCell ⟨g, 0, none⟩ u) := by
  obtain ⟨h1, h2, h3, h4, h5, h6, h7, h8⟩ := h
  exact ⟨h1.far e1 _, h2.put b _, h3.far e2 _, h4.put b _, h5.far (by simp; omega) _, h6.far (by simp; omega) _, h7.setCell (by simp; omega) _, h8.far e4 _⟩
theorem DW.limb (h : DW w gx Ax nx cx X gy Ay ny cy Y gq zs wr) (sx : Sp Ax nx gq) (sy : Sp Ay ny gq) (e1 : gx ≠ gq) (e2 : gy ≠ gq) (e3 : w.heap.size + 3 < gq) (i x : Nat) {v : Int} (hv : v = (x : Int)) : DW w gx Ax nx cx X gy Ay ny cy Y gq (zs.set i x) (wr.setCell ⟨gq, i, none⟩ (.int .u32 v)) := by
  obtain ⟨h1, h2, h3, h4, h5, h6, h7, h8⟩ := h
  exact ⟨h1.far e1 _, h2.off sx _, h3.far e2 _, h4.off sy _, h5.far (by simp; omega) _, h6.far (by simp; omega) _, h7.setCell (by simp; omega) _, h8.put i hv⟩
theorem DW.bx (h : DW w gx Ax nx cx X gy Ay ny cy Y gq zs wr) : Box wr gx #[.slice Ax nx cx] 24 := h.1
theorem DW.rx (h : DW w gx Ax nx cx X gy Ay ny cy Y gq zs wr) : RL wr .u32 Ax nx (dig B9 X) := h.2.1
theorem DW.by_ (h : DW w gx Ax nx cx X gy Ay ny cy Y gq zs wr) : Box wr gy #[.slice Ay ny cy] 24 := h.2.2.1
theorem DW.ry (h : DW w gx Ax nx cx X gy Ay ny cy Y gq zs wr) : RL wr .u32 Ay ny (dig B9 Y) := h.2.2.2.1
theorem DW.b2 (h : DW w gx Ax nx cx X gy Ay ny cy Y gq zs wr) : Box wr (w.heap.size + 2) #[.slice none 0 0] 24 := h.2.2.2.2.1
theorem DW.b3 (h : DW w gx Ax nx cx X gy Ay ny cy Y gq zs wr) : Box wr (w.heap.size + 3) #[.slice none 0 0] 24 := h.2.2.2.2.2.1
theorem DW.hb (h : DW w gx Ax nx cx X gy Ay ny cy Y gq zs wr) : Below w.heap.size w wr := h.2.2.2.2.2.2.1
theorem DW.own (h : DW w gx Ax nx cx X gy Ay ny cy Y gq zs wr) : Own wr gq .u32 71 zs := h.2.2.2.2.2.2.2
end

/-- the rest of one box's world: a natural stored into it -/
def Stored (W : World) (g u : Nat) (wx : World) : Prop :=
  ∃ (v : World) (A : Option Addr) (n c : Nat), wx = v.setCell ⟨g, 0, none⟩ (.slice A n c) ∧ Below W.heap.size W v ∧ RL v .u32 A n (dig B9 u) ∧ n ≤ c ∧ c ≤ maxLen

set_option maxHeartbeats 8000000 in
set_option maxRecDepth 100000 in
theorem rdiv_ok (A : Option Addr) (n c : Nat) (xs : List Nat) (A' : Option Addr) (m d : Nat) (ys : List Nat) (w : World) (hr : RL w .u32 A n xs) (hn : n ≤ c) (hc : c ≤ maxLen) (hN : n ≤ 50000) (hx : ∀ x ∈ xs, x < 4294967296)
    (hr' : RL w .u32 A' m ys) (hm : m ≤ d) (hd : d ≤ maxLen) (hM : m ≤ 50000) (hy : ∀ x ∈ ys, x < 4294967296) (u v : Nat) (hu : val B9 xs = u) (hv : val B9 ys = v) (h0 : v ≠ 0) (huv : v ≤ u) (q r : Nat) (hq : u / v = q) (hrr : u % v = r) :
    Calls Tryz.prog 80 #[.agg #[.slice A n c], .agg #[.slice A' m d]] w (GivesDM q r 0 w) := by
  have HX := hide hx
  have HY := hide hy
  have HU := hide hu
  have HV := hide hv
  have HL := hide hr.len
  have HL' := hide hr'.len
  clear hx hy hu hv
  have H0 := hide h0
  have HUV := hide huv
  have HQ := hide hq
  have HRR := hide hrr
  clear hq hrr
  go_enter Tryz.func80, Tryz.ntmps80
  go_wp2_with fail
  generalize hW : (((w.alloc _).alloc _).alloc _).alloc _ = W
  obtain ⟨hbW, b0, b1, b2, b3, hz⟩ := boxes4 hW
  clear hW
  refine (rnorm_any A n c xs _ (hr.below hbW) hn hc (by omega) HX.out u HU.out).mono ?_
  rintro e w1 ⟨A1, n1, c1, rfl, r1, hn1, hc1, hb1⟩
  have hl1 : n1 ≤ n + 1 := dig_len_u32 (n := n1) (m := n) (xs := xs) (by rw [HU.out]; exact r1.len) HL.out HX.out
  have b0 := b0.below' hb1
  have b1 := b1.below' hb1
  have b2 := b2.below' hb1
  have b3 := b3.below' hb1
  have hrB := hr'.below (hbW.trans (hb1.mono hbW.size))
  have hbA := hbW.trans (hb1.mono hbW.size)
  have f0 := b0.frozen 0
  have k0 := b0.cell
  have k1 := b1.cell
  clear hr hr' hb1 hbW
  go_wp2_with fail
  generalize hW2 : w1.setCell _ _ = w2
  have r2 : RL w2 .u32 A1 n1 (dig B9 u) := by rw [← hW2]; exact r1.put b0 _
  have rB2 : RL w2 .u32 A' m ys := by rw [← hW2]; exact hrB.put b0 _
  have c0 : Box w2 w.heap.size #[.slice A1 n1 c1] 24 := by rw [← hW2]; exact b0.put _
  have e1 := b1.far (p := ⟨w.heap.size, 0, none⟩) (by simp) (.slice A1 n1 c1)
  rw [hW2] at e1
  have e2 := b2.far (p := ⟨w.heap.size, 0, none⟩) (by simp) (.slice A1 n1 c1)
  rw [hW2] at e2
  have e3 := b3.far (p := ⟨w.heap.size, 0, none⟩) (by simp) (.slice A1 n1 c1)
  rw [hW2] at e3
  have hb2 : Below w.heap.size w w2 := by rw [← hW2]; exact hbA.setCell (by simp) _
  clear hW2 r1 hrB b0 b1 hbA f0 k0 k1
  refine (rnorm_any A' m d ys _ rB2 hm hd (by omega) HY.out v HV.out).mono ?_
  rintro e w3 ⟨A3, n3, c3, rfl, r3, hn3, hc3, hb3⟩
  have hl3 : n3 ≤ m + 1 := dig_len_u32 (n := n3) (m := m) (xs := ys) (by rw [HV.out]; exact r3.len) HL'.out HY.out
  have b0 := c0.below' hb3
  have b1 := e1.below' hb3
  have b2 := e2.below' hb3
  have b3 := e3.below' hb3
  have r2 := r2.below hb3
  have hbA := hb2.trans (hb3.mono hb2.size)
  have r4 : RL (w3.setCell ⟨w.heap.size + 1, 0, none⟩ (.slice A3 n3 c3)) .u32 A1 n1 (dig B9 u) := r2.put b1 _
  have r5 : RL (w3.setCell ⟨w.heap.size + 1, 0, none⟩ (.slice A3 n3 c3)) .u32 A3 n3 (dig B9 v) := r3.put b1 _
  have d0 : Box (w3.setCell ⟨w.heap.size + 1, 0, none⟩ (.slice A3 n3 c3)) w.heap.size #[.slice A1 n1 c1] 24 := b0.far (by simp) _
  have d1 : Box (w3.setCell ⟨w.heap.size + 1, 0, none⟩ (.slice A3 n3 c3)) (w.heap.size + 1) #[.slice A3 n3 c3] 24 := b1.put _
  have d2 := b2.far (p := ⟨w.heap.size + 1, 0, none⟩) (by simp) (.slice A3 n3 c3)
  have d3 := b3.far (p := ⟨w.heap.size + 1, 0, none⟩) (by simp) (.slice A3 n3 c3)
  have hb4 : Below w.heap.size w (w3.setCell ⟨w.heap.size + 1, 0, none⟩ (.slice A3 n3 c3)) := hbA.setCell (by simp) _
  have f1 := b1.frozen 0
  have g0 := b0.cell
  have g1 := b1.cell
  clear r2 r3 b0 b1 hbA c0 e1 rB2 hb2 hb3 b2 e2 b3 e3
  have k0 := d0.cell
  have k1 := d1.cell
  have HR4 := hide r4.len
  have HR5 := hide r5.len
  have hc1' : n1 ≤ maxLen := Nat.le_trans hn1 hc1
  have hc3' : n3 ≤ maxLen := Nat.le_trans hn3 hc3
  unfold maxLen at hc1' hc3'
  obtain ⟨N, hN3⟩ : ∃ N, n3 = N + 1 := by
    rcases n3 with _ | N
    · exact absurd ((dig_eq_nil B9 (by decide)).1 (List.eq_nil_of_length_eq_zero HR5.out)) h0
    · exact ⟨N, rfl⟩
  subst hN3
  have hN1 : N + 1 ≤ 100000 := by omega
  have hn1b : n1 ≤ 100000 := by omega
  have hz3 : (((N + 1 : Nat) : Int) == 0) = false := by simp; omega
  obtain ⟨rr, hrr0, hrr⟩ : ∃ rr, decide (rr < (0 : Int)) = false ∧ cmpI u v = rr := ⟨_, by unfold cmpI; split <;> simp; omega; split <;> simp, rfl⟩
  have HCR := hide hrr
  clear hrr h0 huv
  go_wp2_with fail
  generalize w3.setCell (⟨w.heap.size + 1, 0, none⟩ : Addr) (.slice A3 (N + 1) c3) = W4 at *
  refine (rcmp_d A1 n1 c1 u A3 (N + 1) c3 v _ r4 hn1 hc1 (by omega) r5 hn3 hc3 (by omega) rr HCR.out).mono ?_
  rintro e w5 ⟨rfl, hx⟩
  have d0 := d0.below' hx
  have d1 := d1.below' hx
  have d2 := d2.below' hx
  have d3 := d3.below' hx
  have r4 := r4.below hx
  have r5 := r5.below hx
  have hb5 := hb4.trans (hx.mono hb4.size)
  have j1 := d1.cell
  clear hx k0 k1 f1 g0 g1 hb4
  obtain ⟨b3, o3, bt, rfl, hbt, hcell⟩ := r5.at_ (j := N) (by omega)
  have hbb : bt < 1000000000 := dig_lt B9 (by decide) v bt (List.mem_of_getElem? hbt)
  obtain ⟨f, hf⟩ : ∃ f, 1000000000 / (bt + 1) = f := ⟨_, rfl⟩
  obtain ⟨hf1, hf9, hylen⟩ := factor_fits HR5.out hbt hf
  have hfq : (1000000000 : Int) / ((bt : Int) + 1) = (f : Int) := by rw [← hf]; exact cast_div 1000000000 (bt + 1)
  have hfne : ¬ ((bt : Int) + 1 = 0) := by omega
  have HFB := hide (show f < B9 ^ 1 from by simpa using hf9)
  have HYL := hide hylen
  have HOF := hide (show ∀ w', Calls Tryz.prog 71 #[.int .u64 (f : Int)] w' (GivesN f w') from fun w' => rof_any f w' (by omega))
  obtain ⟨X, hX⟩ : ∃ X, u * f = X := ⟨_, rfl⟩
  obtain ⟨Y, hY⟩ : ∃ Y, v * f = Y := ⟨_, rfl⟩
  have HX1 := hide hX
  have HY1 := hide hY
  rw [hY] at HYL
  have hXL := dig_mul_len (f := f) (Nat.le_of_eq HR4.out) HFB.out
  rw [hX] at hXL
  have HXL := hide hXL
  have hfu : 0 < f := hf1
  clear hbt hf hylen hX hY hXL
  go_wp2_with fail
  rw [hfq]
  clear hfq hfne hcell j1 hz3 hrr0
  have lt0 := d0.lt
  have lt1 := d1.lt
  have KA : Hid (∀ w', Below w5.heap.size w5 w' → w'.cell? ⟨w.heap.size, 0, none⟩ = some (.slice A1 n1 c1)) := fun w' h => (d0.below h lt0).cell
  go_cut [9] from 46 to 49 (fun sx wx => Boxed w5 X sx wx)
  case first =>
    have SC : ∀ (v wx : World) (x : Value), Below w5.heap.size w5 v → Below w5.heap.size w5 wx → Below w5.heap.size w5 (wx.setCell ⟨v.heap.size, 0, none⟩ x) := fun v wx x h1 h2 => h2.setCell h1.size x
    have SD : ∀ (wx : World) (x : Value), Below w5.heap.size w5 wx → Below w5.heap.size w5 (wx.setCell ⟨w5.heap.size, 0, none⟩ x) := fun wx x h2 => h2.setCell (Nat.le_refl _) x
    have SA : ∀ (wx : World) (o : Obj), Below w5.heap.size w5 wx → Below w5.heap.size w5 (wx.alloc o) := fun wx o h => h.alloc h.size o
    have P0 : Below w5.heap.size w5 w5.drew := (Below.refl _ _).drew
    have P1 : Below w5.heap.size w5 ((w5.alloc (.cells #[.slice none 0 0] 24)).drew) := ((Below.refl _ _).alloc (Nat.le_refl _) _).drew
    have P2 : Below w5.heap.size w5 (w5.drew.alloc (.cells #[.slice none 0 0] 24)) := ((Below.refl _ _).drew).alloc (Nat.le_refl _) _
    have bx1 : Box ((w5.alloc (.cells #[.slice none 0 0] 24)).drew) w5.heap.size #[.slice none 0 0] 24 := Box.new w5 _ _
    go_region_held3 (fun w' => w'.cell? ⟨w.heap.size, 0, none⟩ = some (.slice A1 n1 c1))
      (first | exact KA.out _ G7 | exact KA.out _ G8 | exact KA.out _ G9 | exact KA.out _ Ga | exact KA.out _ X7 | exact KA.out _ G6 | exact KA.out _ X6 | exact KA.out _ P0 | exact KA.out _ P1 | exact KA.out _ P2)
      (first
        | (go_at_call_of 71 (Value.int .u64 (f : Int)); (with_reducible refine (HOF.out _).mono ?_); rintro e x6 ⟨A6, n6, c6, rfl, h6, hn6, hc6, hx6⟩; have X6 : Below w5.heap.size w5 x6 := P0.trans (hx6.mono P0.size); have G6 := SA x6 (.cells #[.slice none 0 0] 24) X6; have S6 := r4.below X6; have l6 := lenO h6 HFB.out; have bx6 : ∀ w', Below x6.heap.size x6 w' → 0 = 0 ∧ 0 = 0 := fun _ _ => ⟨rfl, rfl⟩)
        | (go_at_call_of 71 (Value.int .u64 (f : Int)); (with_reducible refine (HOF.out _).mono ?_); rintro e x6 ⟨A6, n6, c6, rfl, h6, hn6, hc6, hx6⟩; have X6 : Below w5.heap.size w5 x6 := P1.trans (hx6.mono P1.size); have G6 := SA x6 (.cells #[.slice none 0 0] 24) X6; have S6 := r4.below X6; have l6 := lenO h6 HFB.out; have bx6 : ∀ w', Below x6.heap.size x6 w' → w'.cell? ⟨w5.heap.size, 0, none⟩ = some (Value.slice none 0 0) ∧ w'.frozen? ⟨w5.heap.size, 0, none⟩ = false := fun w' h => ⟨((bx1.below' hx6).below' h).cell, ((bx1.below' hx6).below' h).frozen 0⟩)
        | (go_at_call_of 71 (Value.int .u64 (f : Int)); (with_reducible refine (HOF.out _).mono ?_); rintro e x6 ⟨A6, n6, c6, rfl, h6, hn6, hc6, hx6⟩; have X6 : Below w5.heap.size w5 x6 := P2.trans (hx6.mono P2.size); have G6 := SA x6 (.cells #[.slice none 0 0] 24) X6; have S6 := r4.below X6; have l6 := lenO h6 HFB.out; have bx6 : ∀ w', Below x6.heap.size x6 w' → w'.cell? ⟨w5.heap.size, 0, none⟩ = some (Value.slice none 0 0) ∧ w'.frozen? ⟨w5.heap.size, 0, none⟩ = false := fun w' h => ⟨((bx1.below' hx6).below' h).cell, ((bx1.below' hx6).below' h).frozen 0⟩)
        | (go_at_call 86; refine (rmul_g A1 n1 c1 u A6 n6 c6 (dig B9 f) _ S6 hn1 hc1 hn1b h6 hn6 hc6 l6 (dig_u32 f) f X (vd f) HX1.out).mono ?_; rintro e x7 ⟨A7, n7, c7, rfl, h7, hn7, hc7, hx7⟩; have X7 : Below w5.heap.size w5 x7 := X6.trans (hx7.mono X6.size); have G7 := SC x6 x7 (.slice A7 n7 c7) X6 X7; have G8 := SD x7 (.slice A7 n7 c7) X7; have G9 := SA x7 (.cells #[.slice none 0 0] 24) X7; have Ga := SA x7 (.cells #[.slice A7 n7 c7] 24) X7; obtain ⟨q7, f7⟩ := bx6 x7 hx7)
        | (go_at_call 86; refine (rmul_g A1 n1 c1 u A6 n6 c6 (dig B9 f) _ (S6.below ((Below.refl _ _).alloc (Nat.le_refl _) _)) hn1 hc1 hn1b (h6.below ((Below.refl _ _).alloc (Nat.le_refl _) _)) hn6 hc6 l6 (dig_u32 f) f X (vd f) HX1.out).mono ?_; rintro e x7 ⟨A7, n7, c7, rfl, h7, hn7, hc7, hx7⟩; have X7 : Below w5.heap.size w5 x7 := G6.trans (hx7.mono G6.size); have G7 := SC x6 x7 (.slice A7 n7 c7) X6 X7; have G8 := SD x7 (.slice A7 n7 c7) X7; have G9 := SA x7 (.cells #[.slice none 0 0] 24) X7; have Ga := SA x7 (.cells #[.slice A7 n7 c7] 24) X7; have bx7 : Box x7 x6.heap.size #[.slice none 0 0] 24 := (Box.new x6 #[.slice none 0 0] 24).below' hx7; have f7 := bx7.frozen 0; have q7 := bx7.cell))
    all_goals
      go_wp2_with fail
      go_meet
      first
        | exact boxed_new X7 h7 hn7 hc7
        | exact boxed_old X6 hx7 h7 hn7 hc7
        | exact boxed_old (v := w5) (Below.refl _ _) ((((Below.refl _ _).drew).trans (hx6.mono (Nat.le_refl _))).trans (hx7.mono hx6.size)) h7 hn7 hc7
  case rest =>
  obtain ⟨gx, Ax, nx, cx, rfl, bX, hX, hnx, hcx, hgx, EX⟩ := hcut
  obtain ⟨wX, rfl⟩ : ∃ W', W' = wc := ⟨_, rfl⟩
  have d1 := d1.below' EX
  have d2 := d2.below' EX
  have d3 := d3.below' EX
  have r5 := r5.below EX
  have hbX := hb5.trans (EX.mono hb5.size)
  clear EX d0 r4 KA lt0 hb5
  go_wp2_with fail
  have lt1 := d1.lt
  have KB : Hid (∀ w', Below wX.heap.size wX w' → w'.cell? ⟨w.heap.size + 1, 0, none⟩ = some (.slice (some ⟨b3, o3, none⟩) (N + 1) c3)) := fun w' h => (d1.below h lt1).cell
  go_cut [10] from 50 to 53 (fun sx wx => Boxed wX Y sx wx)
  case first =>
    have SC : ∀ (v wx : World) (x : Value), Below wX.heap.size wX v → Below wX.heap.size wX wx → Below wX.heap.size wX (wx.setCell ⟨v.heap.size, 0, none⟩ x) := fun v wx x h1 h2 => h2.setCell h1.size x
    have SD : ∀ (wx : World) (x : Value), Below wX.heap.size wX wx → Below wX.heap.size wX (wx.setCell ⟨wX.heap.size, 0, none⟩ x) := fun wx x h2 => h2.setCell (Nat.le_refl _) x
    have SA : ∀ (wx : World) (o : Obj), Below wX.heap.size wX wx → Below wX.heap.size wX (wx.alloc o) := fun wx o h => h.alloc h.size o
    have P0 : Below wX.heap.size wX wX.drew := (Below.refl _ _).drew
    have P1 : Below wX.heap.size wX ((wX.alloc (.cells #[.slice none 0 0] 24)).drew) := ((Below.refl _ _).alloc (Nat.le_refl _) _).drew
    have P2 : Below wX.heap.size wX (wX.drew.alloc (.cells #[.slice none 0 0] 24)) := ((Below.refl _ _).drew).alloc (Nat.le_refl _) _
    have bx1 : Box ((wX.alloc (.cells #[.slice none 0 0] 24)).drew) wX.heap.size #[.slice none 0 0] 24 := Box.new wX _ _
    go_region_held3 (fun w' => w'.cell? ⟨w.heap.size + 1, 0, none⟩ = some (.slice (some ⟨b3, o3, none⟩) (N + 1) c3))
      (first | exact KB.out _ G7 | exact KB.out _ G8 | exact KB.out _ G9 | exact KB.out _ Ga | exact KB.out _ X7 | exact KB.out _ G6 | exact KB.out _ X6 | exact KB.out _ P0 | exact KB.out _ P1 | exact KB.out _ P2)
      (first
        | (go_at_call_of 71 (Value.int .u64 (f : Int)); (with_reducible refine (HOF.out _).mono ?_); rintro e x6 ⟨A6, n6, c6, rfl, h6, hn6, hc6, hx6⟩; have X6 : Below wX.heap.size wX x6 := P0.trans (hx6.mono P0.size); have G6 := SA x6 (.cells #[.slice none 0 0] 24) X6; have S6 := r5.below X6; have l6 := lenO h6 HFB.out; have bx6 : ∀ w', Below x6.heap.size x6 w' → 0 = 0 ∧ 0 = 0 := fun _ _ => ⟨rfl, rfl⟩)
        | (go_at_call_of 71 (Value.int .u64 (f : Int)); (with_reducible refine (HOF.out _).mono ?_); rintro e x6 ⟨A6, n6, c6, rfl, h6, hn6, hc6, hx6⟩; have X6 : Below wX.heap.size wX x6 := P1.trans (hx6.mono P1.size); have G6 := SA x6 (.cells #[.slice none 0 0] 24) X6; have S6 := r5.below X6; have l6 := lenO h6 HFB.out; have bx6 : ∀ w', Below x6.heap.size x6 w' → w'.cell? ⟨wX.heap.size, 0, none⟩ = some (Value.slice none 0 0) ∧ w'.frozen? ⟨wX.heap.size, 0, none⟩ = false := fun w' h => ⟨((bx1.below' hx6).below' h).cell, ((bx1.below' hx6).below' h).frozen 0⟩)
        | (go_at_call_of 71 (Value.int .u64 (f : Int)); (with_reducible refine (HOF.out _).mono ?_); rintro e x6 ⟨A6, n6, c6, rfl, h6, hn6, hc6, hx6⟩; have X6 : Below wX.heap.size wX x6 := P2.trans (hx6.mono P2.size); have G6 := SA x6 (.cells #[.slice none 0 0] 24) X6; have S6 := r5.below X6; have l6 := lenO h6 HFB.out; have bx6 : ∀ w', Below x6.heap.size x6 w' → w'.cell? ⟨wX.heap.size, 0, none⟩ = some (Value.slice none 0 0) ∧ w'.frozen? ⟨wX.heap.size, 0, none⟩ = false := fun w' h => ⟨((bx1.below' hx6).below' h).cell, ((bx1.below' hx6).below' h).frozen 0⟩)
        | (go_at_call 86; refine (rmul_g (some ⟨b3, o3, none⟩) (N + 1) c3 v A6 n6 c6 (dig B9 f) _ S6 hn3 hc3 hN1 h6 hn6 hc6 l6 (dig_u32 f) f Y (vd f) HY1.out).mono ?_; rintro e x7 ⟨A7, n7, c7, rfl, h7, hn7, hc7, hx7⟩; have X7 : Below wX.heap.size wX x7 := X6.trans (hx7.mono X6.size); have G7 := SC x6 x7 (.slice A7 n7 c7) X6 X7; have G8 := SD x7 (.slice A7 n7 c7) X7; have G9 := SA x7 (.cells #[.slice none 0 0] 24) X7; have Ga := SA x7 (.cells #[.slice A7 n7 c7] 24) X7; obtain ⟨q7, f7⟩ := bx6 x7 hx7)
        | (go_at_call 86; refine (rmul_g (some ⟨b3, o3, none⟩) (N + 1) c3 v A6 n6 c6 (dig B9 f) _ (S6.below ((Below.refl _ _).alloc (Nat.le_refl _) _)) hn3 hc3 hN1 (h6.below ((Below.refl _ _).alloc (Nat.le_refl _) _)) hn6 hc6 l6 (dig_u32 f) f Y (vd f) HY1.out).mono ?_; rintro e x7 ⟨A7, n7, c7, rfl, h7, hn7, hc7, hx7⟩; have X7 : Below wX.heap.size wX x7 := G6.trans (hx7.mono G6.size); have G7 := SC x6 x7 (.slice A7 n7 c7) X6 X7; have G8 := SD x7 (.slice A7 n7 c7) X7; have G9 := SA x7 (.cells #[.slice none 0 0] 24) X7; have Ga := SA x7 (.cells #[.slice A7 n7 c7] 24) X7; have bx7 : Box x7 x6.heap.size #[.slice none 0 0] 24 := (Box.new x6 #[.slice none 0 0] 24).below' hx7; have f7 := bx7.frozen 0; have q7 := bx7.cell))
    all_goals
      go_wp2_with fail
      go_meet
      first
        | exact boxed_new X7 h7 hn7 hc7
        | exact boxed_old X6 hx7 h7 hn7 hc7
        | exact boxed_old (v := wX) (Below.refl _ _) ((((Below.refl _ _).drew).trans (hx6.mono (Nat.le_refl _))).trans (hx7.mono hx6.size)) h7 hn7 hc7
  case rest =>
  obtain ⟨gy, Ay, ny, cy, rfl, bY, hYr, hny, hcy, hgy, EY⟩ := hcut
  obtain ⟨wY, rfl⟩ : ∃ W', W' = wc := ⟨_, rfl⟩
  have d2 := d2.below' EY
  have d3 := d3.below' EY
  have ltX := bX.lt
  have bX := bX.below' EY
  have hX := hX.below EY
  have hbY := hbX.trans (EY.mono hbX.size)
  have hgyx : gx < gy := Nat.lt_of_lt_of_le ltX hgy
  clear EY d1 r5 KB lt1 hbX ltX
  obtain rfl : ny = N + 1 := hYr.len.symm.trans HYL.out
  obtain ⟨bY', oY, top, rfl, htop, hcellY⟩ := hYr.at_ (j := N) (by omega)
  have htb : top < 1000000000 := dig_lt B9 (by decide) Y top (List.mem_of_getElem? htop)
  have HTOP := hide (dig_top HYL.out htop)
  have jX := bX.cell
  have jY := bY.cell
  have hnx1 : nx ≤ n1 + 1 := lenK hX HXL.out
  clear htop
  have lx := bX.lt
  have ly := bY.lt
  have l2 := d2.lt
  have l3 := d3.lt
  go_wp2_with (at_make; refine wpList_make_zero _ rfl _ _ 22 rfl 71 .u32 4 Tryz.underlying22 u32_info .i64 .i64 _ _ nx rfl rfl (by go_num) (by go_num) (by omega) (by omega) ?_; intro gq wQ hgq hown hbq; have jX2 := ((bX.below' hbq).alloc (.cells #[.slice none 0 0] 24)).cell)
  generalize hW : wQ.alloc _ = wL
  obtain ⟨hbL, bR, -⟩ := boxes1 hW
  clear hW jX2 jX jY hcellY
  have lq := hown.lt
  have hbqL := hbq.trans (hbL.mono hbq.size)
  have DL0 := hown.below' hbL
  generalize wQ.heap.size = gr at *
  have sx : Sp Ax nx gq := hX.sp hgq
  have sy : Sp (some ⟨bY', oY, none⟩) (N + 1) gq := hYr.sp hgq
  have DL : DW w gx Ax nx cx X gy (some ⟨bY', oY, none⟩) (N + 1) cy Y gq (List.replicate nx 0) wL := ⟨bX.below' hbqL, hX.below hbqL, bY.below' hbqL, hYr.below hbqL, d2.below' hbqL, d3.below' hbqL, hbY.trans (hbqL.mono hbY.size), DL0⟩
  have hYpos : 0 < Y := by
    have := dig_len_ge HYL.out
    have h2 := Nat.pow_pos (n := N) (show 0 < B9 by decide)
    omega
  have ex : gx ≠ gr := by omega
  have ey : gy ≠ gr := by omega
  have e3 : w.heap.size + 3 < gr := by omega
  have eq : gq ≠ gr := by omega
  have exq : gx ≠ gq := by omega
  have eyq : gy ≠ gq := by omega
  have e3q : w.heap.size + 3 < gq := by omega
  have hbR0 : Box wL gr #[.slice none 0 0] 24 := bR
  clear bX hX bY hYr d2 d3 hbY hown hbq hbL hbqL bR DL0
  go_loopw [14, 15, 16] (fun i _ _ wr => ∃ (k R : Nat) (zs : List Nat) (Ar : Option Addr) (nr cr : Nat), k ≤ nx ∧ i = .int .i64 ((k : Int) - 1) ∧ zs.length = nx ∧ (∀ x ∈ zs, x < B9) ∧ val B9 (zs.drop k) = val B9 ((dig B9 X).drop k) / Y ∧ R = val B9 ((dig B9 X).drop k) % Y ∧
      DW w gx Ax nx cx X gy (some ⟨bY', oY, none⟩) (N + 1) cy Y gq zs wr ∧ Box wr gr #[.slice Ar nr cr] 24 ∧ RL wr .u32 Ar nr (dig B9 R) ∧ nr ≤ cr ∧ cr ≤ maxLen) (fun i _ _ _ => (intOf i + 1).toNat)
  case atStart =>
    have e : (dig B9 X).drop nx = [] := List.drop_eq_nil_of_le (by rw [DL.rx.len]; exact Nat.le_refl _)
    exact ⟨nx, 0, List.replicate nx 0, none, 0, 0, by omega, rfl, by simp, fun x hx => by rw [List.eq_of_mem_replicate hx]; decide, by rw [e]; simp [val], by rw [e]; simp [val], DL, hbR0, RL.nil_, by omega, by simp [maxLen]⟩
  case round =>
    obtain ⟨k, R, zs, Ar, nr, cr, hk, rfl, hzl, hzd, hzv, hRv, D0, bR, hR, hnr, hcr⟩ := hrel
    clear DL hbR0
    have HZL := hide hzl
    have HZD := hide hzd
    have HZV := hide hzv
    have HRV := hide hRv
    have hRY : R < Y := by rw [hRv]; exact Nat.mod_lt _ hYpos
    have HRY := hide hRY
    have hnrN : nr ≤ N + 1 := by
      have h1 := dig_mono B9 (by decide) (Nat.le_of_lt hRY)
      rw [hR.len, HYL.out] at h1
      exact h1
    clear hzl hzd hzv hRv hRY
    by_cases hk0 : k = 0
    · subst hk0
      obtain hsx := HZV.out
      have hval : val B9 zs = q := by
        have h1 : val B9 (zs.drop 0) = val B9 ((dig B9 X).drop 0) / Y := HZV.out
        rw [List.drop_zero, List.drop_zero, vd, ← HX1.out, ← HY1.out, Nat.mul_div_mul_right _ _ hfu, HQ.out] at h1
        exact h1
      have hRf : R / f = r := by
        have h1 : R = val B9 ((dig B9 X).drop 0) % Y := HRV.out
        rw [List.drop_zero, vd, ← HX1.out, ← HY1.out, Nat.mul_mod_mul_right] at h1
        rw [h1, Nat.mul_div_cancel _ hfu, HRR.out]
      have HVQ := hide hval
      have HRF := hide hRf
      have HZU := hide (show ∀ z ∈ zs, z < 4294967296 from fun z hz => by have : z < 1000000000 := HZD.out z hz; omega)
      have jr := bR.cell
      clear hsx hval hRf HZV HRV
      go_wp2_with (at_make; refine wpList_make_zero _ rfl _ _ 22 rfl 71 .u32 4 Tryz.underlying22 u32_info .i64 .i64 _ _ nr rfl rfl (by go_num) (by go_num) (by omega) (by omega) ?_; intro g2 wz hg2 hown2 hb2; have jr2 := (bR.below' hb2).cell)
      clear jr
      go_loopw [18, 19] (fun cc i wq => ∃ (j C : Nat) (z2 : List Nat), j ≤ nr ∧ C < f ∧ cc = .int .u64 (C : Int) ∧ i = .int .i64 ((j : Int) - 1) ∧ z2.length = nr ∧ Own wq g2 .u32 71 z2 ∧ Below wr.heap.size wr wq ∧ val B9 (z2.drop j) = val B9 ((dig B9 R).drop j) / f ∧ C = val B9 ((dig B9 R).drop j) % f ∧ ∀ x ∈ z2, x < B9) (fun _ i _ => (intOf i + 1).toNat)
      case atStart =>
        have e : (dig B9 R).drop nr = [] := List.drop_eq_nil_of_le (by rw [hR.len]; exact Nat.le_refl _)
        exact ⟨nr, 0, List.replicate nr 0, by omega, hfu, rfl, rfl, by simp, hown2, hb2, by rw [e]; simp [val], by rw [e]; simp [val], fun x hx => by rw [List.eq_of_mem_replicate hx]; decide⟩
      case round =>
        obtain ⟨j, C, z2, hj, hC, rfl, rfl, h2l, h2o, h2b, h2v, h2c, h2d⟩ := hrel
        clear hown2 hb2 jr2
        have H2L := hide h2l
        have H2V := hide h2v
        have H2C := hide h2c
        have H2D := hide h2d
        have h2r := hR.below h2b
        have jr := (bR.below' h2b).cell
        by_cases hj0 : j = 0
        · subst hj0
          have HE := hide (show val B9 z2 = r from by
            have h1 : val B9 (z2.drop 0) = val B9 ((dig B9 R).drop 0) / f := h2v
            rw [List.drop_zero, List.drop_zero, vd, HRF.out] at h1
            exact h1)
          have H2U := hide (show ∀ z ∈ z2, z < 4294967296 from fun z hz => by have : z < 1000000000 := h2d z hz; omega)
          have D1 := D0.below h2b
          have hql := D1.own.rl HZL.out
          have h2rl := h2o.rl h2l
          clear h2l h2v h2c h2d jr
          go_wp2_with fail
          refine (rnorm_any _ nx nx zs _ hql (Nat.le_refl _) (by unfold maxLen; omega) (by omega) HZU.out q HVQ.out).mono ?_
          rintro e y1 ⟨A20, n20, c20, rfl, h20, hn20, hc20, hx⟩
          have D2 := D1.below hx
          have h2rl2 := h2rl.below hx
          clear hx D1 hql h2rl
          go_wp2_with fail
          refine (rnorm_any _ nr nr z2 _ h2rl2 (Nat.le_refl _) (by unfold maxLen; omega) (by omega) H2U.out r HE.out).mono ?_
          rintro e y2 ⟨A21, n21, c21, rfl, h21, hn21, hc21, hx⟩
          have D3 := D2.below hx
          have h22 := h20.below hx
          have k2 := D3.b2.cell
          have k3 := D3.b3.cell
          have f2 := D3.b2.frozen 0
          have f3 := D3.b3.frozen 0
          have hG := fin_boxDM (er := 0) D3.hb D3.b2 D3.b3 (by omega) (by omega) (by omega) h22 hn20 hc20 h21 hn21 hc21
          have HG := hide hG
          clear hx D2 h20 h2rl2 hG
          go_wp2
          refine bodyPost_ret (v := .tuple #[.agg #[.slice A20 n20 c20], .agg #[.slice A21 n21 c21], .int .i64 0]) (by simp [results, Tryz.results80, go_sem, k2, k3]) rfl ?_
          exact HG.out
        · obtain ⟨j, rfl⟩ : ∃ i, j = i + 1 := ⟨j - 1, by omega⟩
          obtain ⟨b, o, x, rfl, hx, hcell⟩ := h2r.at_ (j := j) (by omega)
          have hxb : x < 1000000000 := dig_lt B9 (by decide) R x (List.mem_of_getElem? hx)
          have hjz : j < z2.length := by omega
          have hold : wr.cell? ⟨g2, j, none⟩ = some (.int .u32 ((z2[j]?.getD 0 : Nat) : Int)) := h2o.cell (by rw [List.getElem?_eq_getElem hjz]; rfl)
          have hfz := h2o.frozen j
          have hst := div_step (D := f) (V := val B9 ((dig B9 R).drop (j + 1))) (x := x) (b := B9) hfu
          rw [← val_drop_step B9 hx, ← h2v, ← h2c] at hst
          obtain ⟨qq, hqq⟩ : ∃ q, q = (C * B9 + x) / f := ⟨_, rfl⟩
          obtain ⟨rr, hrr⟩ : ∃ r, r = (C * B9 + x) % f := ⟨_, rfl⟩
          rw [← hqq, ← hrr] at hst
          have hqb : qq < 1000000000 := by rw [hqq]; exact div_bound hC hxb
          have hrb : rr < f := by rw [hrr]; exact Nat.mod_lt _ hfu
          have HNV := hide (show val B9 ((z2.set j qq).drop j) = val B9 ((dig B9 R).drop j) / f from by rw [val_drop_set B9 z2 j qq hjz, hst.1])
          have HNR := hide hst.2.symm
          have HND := hide (all_set (k := j) h2d (show qq < B9 from hqb))
          have hqi : ((C : Int) * 1000000000 + (x : Int)) / (f : Int) = (qq : Int) := by rw [hqq]; exact cast_div (C * B9 + x) f
          have hri : ((C : Int) * 1000000000 + (x : Int)) % (f : Int) = (rr : Int) := by rw [hrr]; exact cast_mod (C * B9 + x) f
          have hne : ¬ ((f : Int) = 0) := by omega
          rw [show (((j + 1 : Nat) : Int) - 1) = (j : Int) from by omega]
          clear hx hst hqq hrr h2l h2v h2c h2d
          go_wp2
          go_roundw
          case rel => exact ⟨j, rr, z2.set j qq, by omega, hrb, by rw [hri], rfl, by rw [List.length_set]; exact H2L.out, h2o.put j (by first | rfl | exact hqi), h2b.setCell hg2 _, HNV.out, HNR.out, HND.out⟩
          case measure => simp [intOf]
    · obtain ⟨k, rfl⟩ : ∃ j, k = j + 1 := ⟨k - 1, by omega⟩
      have rx := D0.rx
      obtain ⟨bx, ox, x, rfl, hx, hcell⟩ := rx.at_ (j := k) (by omega)
      have hxb : x < 1000000000 := dig_lt B9 (by decide) X x (List.mem_of_getElem? hx)
      have hls := long_step hx hYpos
      rw [← HRV.out] at hls
      have HLS := hide hls
      have hkz : k < zs.length := by rw [HZL.out]; omega
      have HKZ := hide hkz
      clear hx hls hkz rx
      rw [show (((k + 1 : Nat) : Int) - 1) = (k : Int) from by omega]
      have jx := D0.bx.cell
      have hki : (k : Int) < (nx : Int) := by omega
      have hk0i : (0 : Int) ≤ (k : Int) := by omega
      have jr := bR.cell
      have jr2 := (bR.alloc (.cells #[.int .u32 (x : Int)] 71)).cell
      go_wp2_with fail
      have lx2 := D0.bx.lt
      have KX : Hid (∀ w', Below wr.heap.size wr w' → w'.cell? ⟨gx, 0, none⟩ = some (.slice (some ⟨bx, ox, none⟩) nx cx) ∧ w'.cell? ⟨bx, ox + k, none⟩ = some (.int .u32 (x : Int)) ∧ w'.cell? ⟨gr, 0, none⟩ = some (.slice (slA gr w') (slN gr w') (slC gr w'))) := fun w' h => ⟨(D0.bx.below h lx2).cell, cell_later h hcell, sl_cell (bR.below' h).cell⟩
      go_cut [] from 70 to 140 (fun wx => Stored wr gr (x + B9 * R) wx)
      case first =>
        have P0 : Below wr.heap.size wr wr.drew := (Below.refl _ _).drew
        have P1 : Below wr.heap.size wr ((wr.alloc (.cells #[.int .u32 (x : Int)] 71)).drew) := ((Below.refl _ _).alloc (Nat.le_refl _) _).drew
        have P2 : Below wr.heap.size wr (wr.alloc (.cells #[.int .u32 (x : Int)] 71)) := (Below.refl _ _).alloc (Nat.le_refl _) _
        have row1 : Row ((wr.alloc (.cells #[.int .u32 (x : Int)] 71)).drew) wr.heap.size .u32 71 (some ⟨wr.heap.size, 0, none⟩) 1 1 [x] := Row.one wr .u32 71 rfl
        have rR1 : RL ((wr.alloc (.cells #[.int .u32 (x : Int)] 71)).drew) .u32 Ar nr (dig B9 R) := hR.below P1
        have HU8 := hide (show ∀ z ∈ [x] ++ dig B9 R, z < 4294967296 from by
          intro z hz
          rcases List.mem_append.1 hz with h | h
          · simp at h; omega
          · exact dig_u32 R z h)
        have HV8 := hide (show val B9 ([x] ++ dig B9 R) = x + B9 * R from by
          show x + B9 * val B9 (dig B9 R) = _
          rw [vd])
        have hbxr : bx ≠ gr := by
          rintro rfl
          have h1 := bR.at_ (ox + k)
          rw [hcell] at h1
          exact no_int1 _ _ h1.symm
        have KZ : Hid (∀ (v : World) (y : Value), Below wr.heap.size wr v → (v.setCell ⟨gr, 0, none⟩ y).cell? ⟨gx, 0, none⟩ = some (.slice (some ⟨bx, ox, none⟩) nx cx) ∧ (v.setCell ⟨gr, 0, none⟩ y).cell? ⟨bx, ox + k, none⟩ = some (.int .u32 (x : Int))) :=
          fun v y h => ⟨((D0.bx.below' h).far ex y).cell, (cell_far v ⟨gr, 0, none⟩ ⟨bx, ox + k, none⟩ y hbxr).trans (cell_later h hcell)⟩
        obtain ⟨sA, sN, sC⟩ := sl_eq jr
        have sA' : slA gr wr.drew = Ar := sA
        have sN' : slN gr wr.drew = nr := sN
        have sC' : slC gr wr.drew = cr := sC
        have jx2 := (D0.bx.alloc (.cells #[.int .u32 (x : Int)] 71)).cell
        go_region_law (first
            | (refine step_append_rl rfl _ _ 22 rfl wr.heap.size 71 .u32 4 Tryz.underlying22 u32_info _ 1 1 [x] rfl row1 Ar nr cr (dig B9 R) rfl rR1 (by omega) (1 + nr) rfl (by omega) (by simp) ?_; intro A8 c8 x8 hrow8 hbel8 hsz8; have X8 : Below wr.heap.size wr x8 := P1.trans hbel8)
            | (go_simp; go_at_call 70; (refine (rnorm_any A8 (1 + nr) c8 ([x] ++ dig B9 R) _ hrow8.rl hrow8.le.1 hrow8.le.2 (by omega) HU8.out _ HV8.out).mono ?_); rintro e x9 ⟨A9, n9, c9, rfl, h9, hn9, hc9, hx9⟩; have X9 : Below wr.heap.size wr x9 := X8.trans (hx9.mono X8.size); have j9 := (bR.below' X9).cell; have f9 := (bR.below' X9).frozen 0))
        all_goals
          go_wp2_with fail
          go_meet
          exact ⟨x9, A9, n9, c9, rfl, X9, h9, hn9, hc9⟩
      case rest =>
      obtain ⟨v1, A9, n9, c9, rfl, E9, h9, hn9, hc9⟩ := hcut
      have D1 := (D0.below E9).store (bR.below' E9) ex ey e3 eq (.slice A9 n9 c9)
      have bR1 := (bR.below' E9).put (.slice A9 n9 c9)
      have h9 := h9.put (i := 0) (bR.below' E9) (.slice A9 n9 c9)
      clear D0 bR hR hnr hcr E9 KX jx jr jr2 lx2 hcell
      generalize v1.setCell (⟨gr, 0, none⟩ : Addr) (.slice A9 n9 c9) = w9 at *
      obtain ⟨R1, hR1⟩ : ∃ R1, x + B9 * R = R1 := ⟨_, rfl⟩
      rw [hR1] at h9 HLS
      have hR1b : R1 < B9 ^ (N + 2) := by
        have h1 := HRY.out
        obtain ⟨_, h2⟩ := dig_len_ge HYL.out
        rw [← hR1, Nat.pow_succ]
        have h3 : B9 * (R + 1) ≤ B9 * B9 ^ (N + 1) := Nat.mul_le_mul_left _ (by omega)
        have h4 : B9 ^ (N + 1) * B9 = B9 * B9 ^ (N + 1) := Nat.mul_comm _ _
        rw [h4]
        have h5 : x < B9 := hxb
        rw [Nat.mul_add, Nat.mul_one] at h3
        omega
      have hl9 : n9 ≤ N + 2 := lenB1 h9 hR1b
      have HL9 := hide h9.len
      obtain ⟨t1, ht1⟩ : ∃ t1, R1 / B9 ^ (N + 1) = t1 := ⟨_, rfl⟩
      obtain ⟨t0, ht0⟩ : ∃ t0, R1 / B9 ^ N = t0 := ⟨_, rfl⟩
      have ht10 : t0 / B9 = t1 := by rw [← ht0, ← ht1, Nat.div_div_eq_div_mul, Nat.pow_succ]
      have ht1b : t1 < 1000000000 := by
        rw [← ht1]
        refine (Nat.div_lt_iff_lt_mul (Nat.pow_pos (by decide))).2 ?_
        rw [Nat.pow_succ, Nat.mul_comm] at hR1b
        exact hR1b
      obtain ⟨q0, hq0⟩ : ∃ q0, t0 / top = q0 := ⟨_, rfl⟩
      obtain ⟨G0, hG0⟩ : ∃ G0, min q0 999999999 = G0 := ⟨_, rfl⟩
      have hQG : R1 / Y ≤ G0 := by
        rw [← hG0, ← hq0, ← ht0]
        exact guess_ge HTOP.out.1.symm HTOP.out.2 HLS.out.2.2
      have hG9 : G0 ≤ 999999999 := by omega
      have HT1 := hide ht1
      have HT0 := hide ht0
      have HT10 := hide ht10
      have HQ0 := hide hq0
      have HG0 := hide hG0
      have HQG := hide hQG
      have HR1 := hide hR1
      have htop1 := HTOP.out.2
      have jr1 := bR1.cell
      clear hR1 hR1b ht1 ht0 ht10 hq0 hG0 hQG
      go_upto_if 89 with fail
      go_cut [15] from 70 to 140 (fun g wx => g = .int .u64 ((t1 * 1000000000 : Nat) : Int) ∧ wx = w9)
      case first =>
        by_cases hl : n9 = N + 2
        · obtain ⟨b, o, y, rfl, hy, hcell⟩ := h9.at_ (j := N + 1) (by omega)
          obtain ⟨e1, _⟩ := dig_top (n := N + 1) (by rw [HL9.out, hl]) hy
          have HY := hide (show y = t1 from e1.trans HT1.out)
          have hyb : y < 1000000000 := dig_lt B9 (by decide) R1 y (List.mem_of_getElem? hy)
          clear hy e1
          go_wp2_with fail
          go_meet
          exact ⟨by rw [← HY.out]; go_num, rfl⟩
        · have hd : decide (N + 1 < n9) = false := by simp; omega
          have hd2 : decide (((N : Int) + 1) < (n9 : Int)) = false := by simp; omega
          have HE := hide (show t1 = 0 from by
            rw [← HT1.out]
            exact Nat.div_eq_of_lt ((dig_length_le B9 (by decide) (N + 1) R1).1 (by rw [HL9.out]; omega)))
          go_wp2_with fail
          go_meet
          exact ⟨by rw [HE.out]; rfl, rfl⟩
      case rest =>
      obtain ⟨rfl, rfl⟩ := hcut
      obtain ⟨w9, rfl⟩ : ∃ W', W' = wc := ⟨_, rfl⟩
      obtain ⟨g1, hg1⟩ : ∃ g1, t1 * 1000000000 = g1 := ⟨_, rfl⟩
      rw [hg1]
      have hg1b : g1 ≤ 999999999000000000 := by omega
      go_upto_if 101 with fail
      go_cut [15] from 70 to 140 (fun g wx => g = .int .u64 (G0 : Int) ∧ wx = w9)
      case first =>
        by_cases hl : N + 1 ≤ n9
        · obtain ⟨b, o, y, rfl, hy, hcell⟩ := h9.at_ (j := N) (by omega)
          have hyb : y < 1000000000 := dig_lt B9 (by decide) R1 y (List.mem_of_getElem? hy)
          have e1 : y = t0 % B9 := by rw [← HT0.out]; exact dig_get B9 (by decide) N R1 y hy
          have e2 : g1 + y = t0 := by
            rw [← hg1, e1, ← HT10.out, Nat.mul_comm]
            exact Nat.div_add_mod t0 B9
          have hsum : (g1 : Int) + (y : Int) = (t0 : Int) := by omega
          have hqu : (t0 : Int) / (top : Int) = (q0 : Int) := by rw [← HQ0.out]; exact cast_div t0 top
          have hne : ¬ ((top : Int) = 0) := by omega
          have hq0b : q0 ≤ 999999999999999999 := by rw [← HQ0.out]; exact Nat.le_trans (Nat.div_le_self _ _) (by omega)
          have hmin : min (q0 : Int) 999999999 = (G0 : Int) := by have := HG0.out; omega
          have hd : decide (n9 < N + 1) = false := by simp; omega
          clear hy e1 e2 hg1
          go_wp2_with fail
          go_meet
          exact ⟨by first | rfl | rw [hmin] | rw [hqu, hmin] | rw [hsum, hqu, hmin], rfl⟩
        · have hd : decide (N + 1 ≤ n9) = false := by simp; omega
          have hd2 : decide (((N : Int) + 1) ≤ (n9 : Int)) = false := by simp; omega
          have h0 : t0 = 0 := by
            rw [← HT0.out]
            exact Nat.div_eq_of_lt ((dig_length_le B9 (by decide) N R1).1 (by rw [HL9.out]; omega))
          have HE := hide (show g1 = 0 ∧ G0 = 0 from by
            have h1 := HT10.out
            have h2 := HQ0.out
            have h3 := HG0.out
            rw [h0] at h1 h2
            rw [Nat.zero_div] at h1 h2
            omega)
          clear h0 hg1
          go_wp2_with fail
          go_meet
          exact ⟨by rw [HE.out.1, HE.out.2], rfl⟩
      case rest =>
      obtain ⟨rfl, rfl⟩ := hcut
      obtain ⟨w9, rfl⟩ : ∃ W', W' = wc := ⟨_, rfl⟩
      have HFG := hide (show G0 < B9 ^ 1 from by rw [Nat.pow_one]; show G0 < 1000000000; omega)
      have HOG := hide (show ∀ w', Calls Tryz.prog 71 #[.int .u64 (G0 : Int)] w' (GivesN G0 w') from fun w' => rof_any G0 w' (by omega))
      obtain ⟨PG, hPG⟩ : ∃ PG, Y * G0 = PG := ⟨_, rfl⟩
      have HPG := hide hPG
      have ly2 := D1.by_.lt
      have lr2 := bR1.lt
      have hyy := D1.ry
      have KY : Hid (∀ w', Below w9.heap.size w9 w' → w'.cell? ⟨gy, 0, none⟩ = some (.slice (some ⟨bY', oY, none⟩) (N + 1) cy)) := fun w' h => (D1.by_.below h ly2).cell
      clear hg1 hg1b hPG jr1
      go_wp2_with fail
      go_cut [16] from 70 to 140 (fun sx wx => Boxed w9 PG sx wx)
      case first =>
        have SC : ∀ (v wx : World) (x : Value), Below w9.heap.size w9 v → Below w9.heap.size w9 wx → Below w9.heap.size w9 (wx.setCell ⟨v.heap.size, 0, none⟩ x) := fun v wx x h1 h2 => h2.setCell h1.size x
        have SD : ∀ (wx : World) (x : Value), Below w9.heap.size w9 wx → Below w9.heap.size w9 (wx.setCell ⟨w9.heap.size, 0, none⟩ x) := fun wx x h2 => h2.setCell (Nat.le_refl _) x
        have SA : ∀ (wx : World) (o : Obj), Below w9.heap.size w9 wx → Below w9.heap.size w9 (wx.alloc o) := fun wx o h => h.alloc h.size o
        have P0 : Below w9.heap.size w9 w9.drew := (Below.refl _ _).drew
        have P1 : Below w9.heap.size w9 ((w9.alloc (.cells #[.slice none 0 0] 24)).drew) := ((Below.refl _ _).alloc (Nat.le_refl _) _).drew
        have P2 : Below w9.heap.size w9 (w9.drew.alloc (.cells #[.slice none 0 0] 24)) := ((Below.refl _ _).drew).alloc (Nat.le_refl _) _
        have bx1 : Box ((w9.alloc (.cells #[.slice none 0 0] 24)).drew) w9.heap.size #[.slice none 0 0] 24 := Box.new w9 _ _
        go_region_held3 (fun w' => w'.cell? ⟨gy, 0, none⟩ = some (.slice (some ⟨bY', oY, none⟩) (N + 1) cy))
          (first | exact KY.out _ G7 | exact KY.out _ G8 | exact KY.out _ G9 | exact KY.out _ Ga | exact KY.out _ X7 | exact KY.out _ G6 | exact KY.out _ X6 | exact KY.out _ P0 | exact KY.out _ P1 | exact KY.out _ P2)
          (first
            | (go_at_call_of 71 (Value.int .u64 (G0 : Int)); (with_reducible refine (HOG.out _).mono ?_); rintro e x6 ⟨A6, n6, c6, rfl, h6, hn6, hc6, hx6⟩; have X6 : Below w9.heap.size w9 x6 := P0.trans (hx6.mono P0.size); have G6 := SA x6 (.cells #[.slice none 0 0] 24) X6; have S6 := hyy.below X6; have l6 := lenO h6 HFG.out; have bx6 : ∀ w', Below x6.heap.size x6 w' → 0 = 0 ∧ 0 = 0 := fun _ _ => ⟨rfl, rfl⟩)
            | (go_at_call_of 71 (Value.int .u64 (G0 : Int)); (with_reducible refine (HOG.out _).mono ?_); rintro e x6 ⟨A6, n6, c6, rfl, h6, hn6, hc6, hx6⟩; have X6 : Below w9.heap.size w9 x6 := P1.trans (hx6.mono P1.size); have G6 := SA x6 (.cells #[.slice none 0 0] 24) X6; have S6 := hyy.below X6; have l6 := lenO h6 HFG.out; have bx6 : ∀ w', Below x6.heap.size x6 w' → w'.cell? ⟨w9.heap.size, 0, none⟩ = some (Value.slice none 0 0) ∧ w'.frozen? ⟨w9.heap.size, 0, none⟩ = false := fun w' h => ⟨((bx1.below' hx6).below' h).cell, ((bx1.below' hx6).below' h).frozen 0⟩)
            | (go_at_call_of 71 (Value.int .u64 (G0 : Int)); (with_reducible refine (HOG.out _).mono ?_); rintro e x6 ⟨A6, n6, c6, rfl, h6, hn6, hc6, hx6⟩; have X6 : Below w9.heap.size w9 x6 := P2.trans (hx6.mono P2.size); have G6 := SA x6 (.cells #[.slice none 0 0] 24) X6; have S6 := hyy.below X6; have l6 := lenO h6 HFG.out; have bx6 : ∀ w', Below x6.heap.size x6 w' → w'.cell? ⟨w9.heap.size, 0, none⟩ = some (Value.slice none 0 0) ∧ w'.frozen? ⟨w9.heap.size, 0, none⟩ = false := fun w' h => ⟨((bx1.below' hx6).below' h).cell, ((bx1.below' hx6).below' h).frozen 0⟩)
            | (go_at_call 86; refine (rmul_g (some ⟨bY', oY, none⟩) (N + 1) cy Y A6 n6 c6 (dig B9 G0) _ S6 hny hcy (by omega) h6 hn6 hc6 l6 (dig_u32 G0) G0 PG (vd G0) HPG.out).mono ?_; rintro e x7 ⟨A7, n7, c7, rfl, h7, hn7, hc7, hx7⟩; have X7 : Below w9.heap.size w9 x7 := X6.trans (hx7.mono X6.size); have G7 := SC x6 x7 (.slice A7 n7 c7) X6 X7; have G8 := SD x7 (.slice A7 n7 c7) X7; have G9 := SA x7 (.cells #[.slice none 0 0] 24) X7; have Ga := SA x7 (.cells #[.slice A7 n7 c7] 24) X7; obtain ⟨q7, f7⟩ := bx6 x7 hx7)
            | (go_at_call 86; refine (rmul_g (some ⟨bY', oY, none⟩) (N + 1) cy Y A6 n6 c6 (dig B9 G0) _ (S6.below ((Below.refl _ _).alloc (Nat.le_refl _) _)) hny hcy (by omega) (h6.below ((Below.refl _ _).alloc (Nat.le_refl _) _)) hn6 hc6 l6 (dig_u32 G0) G0 PG (vd G0) HPG.out).mono ?_; rintro e x7 ⟨A7, n7, c7, rfl, h7, hn7, hc7, hx7⟩; have X7 : Below w9.heap.size w9 x7 := G6.trans (hx7.mono G6.size); have G7 := SC x6 x7 (.slice A7 n7 c7) X6 X7; have G8 := SD x7 (.slice A7 n7 c7) X7; have G9 := SA x7 (.cells #[.slice none 0 0] 24) X7; have Ga := SA x7 (.cells #[.slice A7 n7 c7] 24) X7; have bx7 : Box x7 x6.heap.size #[.slice none 0 0] 24 := (Box.new x6 #[.slice none 0 0] 24).below' hx7; have f7 := bx7.frozen 0; have q7 := bx7.cell))
        all_goals
          go_wp2_with fail
          go_meet
          first
            | exact boxed_new X7 h7 hn7 hc7
            | exact boxed_old X6 hx7 h7 hn7 hc7
            | exact boxed_old (v := w9) (Below.refl _ _) ((((Below.refl _ _).drew).trans (hx6.mono (Nat.le_refl _))).trans (hx7.mono hx6.size)) h7 hn7 hc7
      case rest =>
      obtain ⟨gp, Ap, np, cp, rfl, bP, hP, hnp, hcp, hgp, EP⟩ := hcut
      obtain ⟨wP, rfl⟩ : ∃ W', W' = wc := ⟨_, rfl⟩
      have D2 := D1.below EP
      have bR2 := bR1.below' EP
      have h10 := h9.below EP
      have epx : gx ≠ gp := by have := D1.bx.lt; omega
      have epy : gy ≠ gp := by omega
      have epr : gr ≠ gp := by omega
      have epq : gq ≠ gp := by have := D1.own.lt; omega
      have ep3 : w.heap.size + 3 < gp := by omega
      clear D1 bR1 h9 EP KY hyy hgp ly2 lr2
      go_wp2_with fail
      go_loopw [15] (fun g wq => ∃ (G P : Nat) (Ap : Option Addr) (np cp : Nat), R1 / Y ≤ G ∧ G ≤ 999999999 ∧ g = .int .u64 (G : Int) ∧ Y * G = P ∧ DW w gx (some ⟨bx, ox, none⟩) nx cx X gy (some ⟨bY', oY, none⟩) (N + 1) cy Y gq zs wq ∧ Box wq gr #[.slice A9 n9 c9] 24 ∧ RL wq .u32 A9 n9 (dig B9 R1) ∧
          Box wq gp #[.slice Ap np cp] 24 ∧ RL wq .u32 Ap np (dig B9 P) ∧ np ≤ cp ∧ cp ≤ maxLen) (fun g _ => (intOf g).toNat)
      case atStart => exact ⟨G0, PG, Ap, np, cp, HQG.out, hG9, rfl, HPG.out, D2, bR2, h10, bP, hP, hnp, hcp⟩
      case round =>
        obtain ⟨G, P, Ap, np, cp, hGl, hGh, rfl, hYG, D3, bR3, h11, bP3, hP3, hnp3, hcp3⟩ := hrel
        clear D2 bR2 h10 bP hP hnp hcp
        have HYG := hide hYG
        have HGL := hide hGl
        have lp3 : np ≤ N + 2 := lenB1 hP3 (by
          obtain ⟨_, h2⟩ := dig_len_ge HYL.out
          rw [← hYG, Nat.pow_succ]
          have e1 : Y * G ≤ B9 ^ (N + 1) * G := Nat.mul_le_mul_right _ (Nat.le_of_lt h2)
          have e2 : B9 ^ (N + 1) * G ≤ B9 ^ (N + 1) * 999999999 := Nat.mul_le_mul_left _ hGh
          have e3 : 0 < B9 ^ (N + 1) := Nat.pow_pos (by decide)
          show Y * G < B9 ^ (N + 1) * 1000000000
          omega)
        have jp := bP3.cell
        have jr := bR3.cell
        have jy := D3.by_.cell
        clear hYG hGl
        by_cases hgt : R1 < P
        · have HC := hide (cmpI_gt hgt)
          have hG1 : 1 ≤ G := by
            rcases Nat.eq_zero_or_pos G with h | h
            · rw [← HYG.out, h] at hgt; omega
            · exact h
          have hYP : Y ≤ P := by
            rw [← HYG.out]
            exact Nat.le_mul_of_pos_right _ hG1
          have HP1 := hide (show Y * (G - 1) = P - Y from by rw [← HYG.out, Nat.mul_sub_one])
          have HG1 := hide (show R1 / Y ≤ G - 1 from by
            have h1 : R1 / Y < G := (Nat.div_lt_iff_lt_mul hYpos).2 (by rw [Nat.mul_comm, HYG.out]; exact hgt)
            omega)
          go_wp2_with fail
          refine (rcmp_d Ap np cp P A9 n9 c9 R1 _ hP3 hnp3 hcp3 (by omega) h11 hn9 hc9 (by omega) 1 HC.out).mono ?_
          rintro e x1 ⟨rfl, hx⟩
          have D4 := D3.below hx
          have bR4 := bR3.below' hx
          have h12 := h11.below hx
          have bP4 := bP3.below' hx
          have hP4 := hP3.below hx
          have jp := bP4.cell
          have jy := D4.by_.cell
          clear hx D3 bR3 h11 bP3 hP3 jr
          go_wp2_with fail
          refine (rsub_ok Ap np cp (dig B9 P) (some ⟨bY', oY, none⟩) (N + 1) cy (dig B9 Y) _ hP4 hnp3 hcp3 (by omega) (dig_u32 P) D4.ry hny hcy (by omega) (dig_u32 Y) P Y (vd P) (vd Y) hYP _ rfl).mono ?_
          rintro e x2 ⟨A12, n12, c12, rfl, h13, hn13, hc13, hx⟩
          have D5 := D4.below hx
          have bR5 := bR4.below' hx
          have h14 := h12.below hx
          have bP5 := bP4.below' hx
          have jp := bP5.cell
          have fp := bP5.frozen 0
          clear hx D4 bR4 h12 bP4 hP4 jy
          have D6 := D5.store bP5 epx epy ep3 epq (.slice A12 n12 c12)
          have bR6 := bR5.far (p := ⟨gp, 0, none⟩) epr (.slice A12 n12 c12)
          have h15 := h14.put (i := 0) bP5 (.slice A12 n12 c12)
          have h16 := h13.put (i := 0) bP5 (.slice A12 n12 c12)
          have bP6 := bP5.put (.slice A12 n12 c12)
          clear D5 bR5 h14 bP5 h13
          go_wp2
          go_roundw
          case rel => exact ⟨G - 1, P - Y, A12, n12, c12, HG1.out, by omega, by go_num, HP1.out, D6, bR6, h15, bP6, h16, hn13, hc13⟩
          case measure => simp [intOf]; omega
        · obtain ⟨r3, hr30, hr3⟩ : ∃ r3, decide ((0 : Int) < r3) = false ∧ cmpI P R1 = r3 := ⟨_, by unfold cmpI; split <;> simp; split <;> simp; omega, rfl⟩
          have HC := hide hr3
          have hPR : P ≤ R1 := by omega
          have HGE := hide (show G = R1 / Y from by
            have h1 : G ≤ R1 / Y := (Nat.le_div_iff_mul_le hYpos).2 (by rw [Nat.mul_comm, HYG.out]; exact hPR)
            have := HGL.out
            omega)
          have HSB := hide (show R1 - P = R1 % Y from by
            have h1 := Nat.div_add_mod R1 Y
            rw [← HGE.out, HYG.out] at h1
            omega)
          clear hr3 hgt
          go_wp2_with fail
          refine (rcmp_d Ap np cp P A9 n9 c9 R1 _ hP3 hnp3 hcp3 (by omega) h11 hn9 hc9 (by omega) r3 HC.out).mono ?_
          rintro e x1 ⟨rfl, hx⟩
          have D4 := D3.below hx
          have bR4 := bR3.below' hx
          have h12 := h11.below hx
          have bP4 := bP3.below' hx
          have hP4 := hP3.below hx
          have jp := bP4.cell
          have jr := bR4.cell
          clear hx D3 bR3 h11 bP3 hP3 jy
          have lq4 := D4.own.lt
          go_wp2_with fail
          refine (rsub_fresh A9 n9 c9 (dig B9 R1) Ap np cp (dig B9 P) _ h12 hn9 hc9 (by omega) (dig_u32 R1) hP4 hnp3 hcp3 (by omega) (dig_u32 P) R1 P (vd R1) (vd P) hPR _ HSB.out).mono ?_
          rintro e x2 ⟨A12, n12, c12, rfl, h13, hn13, hc13, hx, hfr⟩
          have sp12 := hfr.sp lq4
          have D5 := D4.below hx
          have bR5 := bR4.below' hx
          have jr := bR5.cell
          have fr := bR5.frozen 0
          clear hx D4 bR4 h12 bP4 hP4 jp hfr lq4
          have D6 := D5.store bR5 ex ey e3 eq (.slice A12 n12 c12)
          have h16 := h13.put (i := 0) bR5 (.slice A12 n12 c12)
          have bR6 := bR5.put (.slice A12 n12 c12)
          have hqz : zs[k]? = some zs[k] := List.getElem?_eq_getElem HKZ.out
          have qo := D6.own.cell hqz
          have fo := D6.own.frozen k
          have D7 := D6.limb sx sy exq eyq e3q k G rfl
          have bR7 := bR6.far (p := ⟨gq, k, none⟩) (fun h => eq h.symm) (.int .u32 (G : Int))
          have h17 := h16.off (p := ⟨gq, k, none⟩) sp12 (.int .u32 (G : Int))
          have HNV := hide (show val B9 ((zs.set k G).drop k) = val B9 ((dig B9 X).drop k) / Y from by
            rw [val_drop_set B9 zs k G HKZ.out, HZV.out, HLS.out.1, HGE.out])
          have HNR := hide (show R1 % Y = val B9 ((dig B9 X).drop k) % Y from HLS.out.2.1.symm)
          have HND := hide (all_set (k := k) HZD.out (show G < B9 by show G < 1000000000; omega))
          clear D5 bR5 h13 D6 h16 bR6 hqz
          go_wp2
          go_roundw
          case rel => exact ⟨k, R1 % Y, zs.set k G, A12, n12, c12, by omega, rfl, by rw [List.length_set]; exact HZL.out, HND.out, HNV.out, HNR.out, D7, bR7, h17, hn13, hc13⟩
          case measure => simp [intOf]
end Go.Proofs.YtoeknkakdoemfaaGreatDoor

/- The contract of the reference's Gcd. -/
namespace Go.Proofs.YtoeknkakdoemfaaGreatDoor
open Go Go.RowKit

theorem rdiv_nz (A : Option Addr) (n c : Nat) (A' : Option Addr) (m d : Nat) (w : World) (u v : Nat) (hr : RL w .u32 A n (dig B9 u)) (hn : n ≤ c) (hc : c ≤ maxLen) (hN : n ≤ 50000)
    (hr' : RL w .u32 A' m (dig B9 v)) (hm : m ≤ d) (hd : d ≤ maxLen) (hM : m ≤ 50000) (h0 : v ≠ 0) :
    Calls Tryz.prog 80 #[.agg #[.slice A n c], .agg #[.slice A' m d]] w (GivesDM (u / v) (u % v) 0 w) := by
  rcases Nat.lt_or_ge u v with h | h
  · rw [Nat.div_eq_of_lt h, Nat.mod_eq_of_lt h]
    exact rdiv_less A n c _ A' m d _ w hr hn hc hN (dig_u32 u) hr' hm hd hM (dig_u32 v) u v (vd u) (vd v) h0 h
  · exact rdiv_ok A n c _ A' m d _ w hr hn hc hN (dig_u32 u) hr' hm hd hM (dig_u32 v) u v (vd u) (vd v) h0 h _ _ rfl rfl

set_option maxHeartbeats 2000000 in
theorem rgcd_any (A : Option Addr) (n c : Nat) (xs : List Nat) (A' : Option Addr) (m d : Nat) (ys : List Nat) (w : World) (hr : RL w .u32 A n xs) (hn : n ≤ c) (hc : c ≤ maxLen) (hN : n ≤ 40000) (hx : ∀ x ∈ xs, x < 4294967296)
    (hr' : RL w .u32 A' m ys) (hm : m ≤ d) (hd : d ≤ maxLen) (hM : m ≤ 40000) (hy : ∀ x ∈ ys, x < 4294967296) (u v : Nat) (hu : val B9 xs = u) (hv : val B9 ys = v) (G : Nat) (hG : Nat.gcd u v = G) :
    Calls Tryz.prog 79 #[.agg #[.slice A n c], .agg #[.slice A' m d]] w (GivesN G w) := by
  have HX := hide hx
  have HY := hide hy
  have HU := hide hu
  have HV := hide hv
  have HL := hide hr.len
  have HL' := hide hr'.len
  clear hx hy hu hv
  have HG := hide hG
  clear hG
  go_enter Tryz.func79, Tryz.ntmps79
  go_wp2_with fail
  generalize hW : ((w.alloc _).alloc _).alloc _ = W
  obtain ⟨hbW, b0, b1, b2, hz⟩ := boxes3 hW
  clear hW
  refine (rnorm_any A n c xs _ (hr.below hbW) hn hc (by omega) HX.out u HU.out).mono ?_
  rintro e w1 ⟨A1, n1, c1, rfl, r1, hn1, hc1, hb1⟩
  have hl1 : n1 ≤ n + 1 := dig_len_u32 (n := n1) (m := n) (xs := xs) (by rw [HU.out]; exact r1.len) HL.out HX.out
  have b0 := b0.below' hb1
  have b1 := b1.below' hb1
  have b2 := b2.below' hb1
  have hrB := hr'.below (hbW.trans (hb1.mono hbW.size))
  have hbA := hbW.trans (hb1.mono hbW.size)
  have f0 := b0.frozen 0
  have k0 := b0.cell
  have k1 := b1.cell
  clear hr hr' hb1 hbW
  go_wp2_with fail
  generalize hW2 : w1.setCell _ _ = w2
  have r2 : RL w2 .u32 A1 n1 (dig B9 u) := by rw [← hW2]; exact r1.put b0 _
  have rB2 : RL w2 .u32 A' m ys := by rw [← hW2]; exact hrB.put b0 _
  have c0 : Box w2 w.heap.size #[.slice A1 n1 c1] 24 := by rw [← hW2]; exact b0.put _
  have e1 := b1.far (p := ⟨w.heap.size, 0, none⟩) (by simp) (.slice A1 n1 c1)
  rw [hW2] at e1
  have e2 := b2.far (p := ⟨w.heap.size, 0, none⟩) (by simp) (.slice A1 n1 c1)
  rw [hW2] at e2
  have hb2 : Below w.heap.size w w2 := by rw [← hW2]; exact hbA.setCell (by simp) _
  clear hW2 r1 hrB b0 b1 hbA f0 k0 k1
  refine (rnorm_any A' m d ys _ rB2 hm hd (by omega) HY.out v HV.out).mono ?_
  rintro e w3 ⟨A3, n3, c3, rfl, r3, hn3, hc3, hb3⟩
  have hl3 : n3 ≤ m + 1 := dig_len_u32 (n := n3) (m := m) (xs := ys) (by rw [HV.out]; exact r3.len) HL'.out HY.out
  have b0 := c0.below' hb3
  have b1 := e1.below' hb3
  have b2 := e2.below' hb3
  have r2 := r2.below hb3
  have hbA := hb2.trans (hb3.mono hb2.size)
  have r4 : RL (w3.setCell ⟨w.heap.size + 1, 0, none⟩ (.slice A3 n3 c3)) .u32 A1 n1 (dig B9 u) := r2.put b1 _
  have r5 : RL (w3.setCell ⟨w.heap.size + 1, 0, none⟩ (.slice A3 n3 c3)) .u32 A3 n3 (dig B9 v) := r3.put b1 _
  have d0 : Box (w3.setCell ⟨w.heap.size + 1, 0, none⟩ (.slice A3 n3 c3)) w.heap.size #[.slice A1 n1 c1] 24 := b0.far (by simp) _
  have d1 : Box (w3.setCell ⟨w.heap.size + 1, 0, none⟩ (.slice A3 n3 c3)) (w.heap.size + 1) #[.slice A3 n3 c3] 24 := b1.put _
  have d2 := b2.far (p := ⟨w.heap.size + 1, 0, none⟩) (by simp) (.slice A3 n3 c3)
  have hb4 : Below w.heap.size w (w3.setCell ⟨w.heap.size + 1, 0, none⟩ (.slice A3 n3 c3)) := hbA.setCell (by simp) _
  have f1 := b1.frozen 0
  have g0 := b0.cell
  have g1 := b1.cell
  clear r2 r3 b0 b1 hbA c0 e1 rB2 hb2 hb3 b2 e2
  have k0 := d0.cell
  have k1 := d1.cell
  have HR4 := hide r4.len
  have HR5 := hide r5.len
  have hc1' : n1 ≤ maxLen := Nat.le_trans hn1 hc1
  have hc3' : n3 ≤ maxLen := Nat.le_trans hn3 hc3
  unfold maxLen at hc1' hc3'
  go_wp2_with fail
  generalize w3.setCell (⟨w.heap.size + 1, 0, none⟩ : Addr) (.slice A3 n3 c3) = W4 at *
  clear f1 g0 g1 k0 k1
  go_loopg [5, 6, 7] v (fun K _ _ _ wr => ∃ (X : Nat) (Aa : Option Addr) (na ca : Nat) (Ab : Option Addr) (nb cb : Nat), Box wr w.heap.size #[.slice Aa na ca] 24 ∧ Box wr (w.heap.size + 1) #[.slice Ab nb cb] 24 ∧ Box wr (w.heap.size + 2) #[.slice none 0 0] 24 ∧
      RL wr .u32 Aa na (dig B9 X) ∧ na ≤ ca ∧ ca ≤ maxLen ∧ na ≤ 50000 ∧ RL wr .u32 Ab nb (dig B9 K) ∧ nb ≤ cb ∧ cb ≤ maxLen ∧ nb ≤ 50000 ∧ Nat.gcd X K = G ∧ Below w.heap.size w wr)
  case atStart => exact ⟨u, A1, n1, c1, A3, n3, c3, d0, d1, d2, r4, hn1, hc1, by omega, r5, hn3, hc3, by omega, HG.out, hb4⟩
  case round =>
    obtain ⟨X, Aa, na, ca, Ab, nb, cb, b0, b1, b2, ra, hna, hca, hla, rb, hnb, hcb, hlb, hg, hbw⟩ := hrel
    clear d0 d1 d2 r4 r5 hb4
    have HGG := hide hg
    have j0 := b0.cell
    have j1 := b1.cell
    have j2 := b2.cell
    have f2 := b2.frozen 0
    clear hg
    by_cases h0 : nb = 0
    · subst h0
      have hk0 := (dig_eq_nil B9 (by decide)).1 (List.eq_nil_of_length_eq_zero rb.len)
      have hX : X = G := by rw [← HGG.out, hk0, Nat.gcd_zero_right]
      subst hX
      have HF := hide (fin_box hbw b2 (by omega) ra hna hca)
      clear hk0
      go_wp2
      refine bodyPost_ret (v := .agg #[.slice Aa na ca]) (by simp [results, Tryz.results79, go_sem, j2]) rfl ?_
      exact HF.out
    · have hk0 : gk ≠ 0 := by
        intro h
        apply h0
        rw [← rb.len, h]; rfl
      have HN := hide (show Nat.gcd gk (X % gk) = G from by rw [gcd_step, HGG.out])
      have hlt : X % gk < gk := Nat.mod_lt _ (Nat.pos_of_ne_zero hk0)
      have hd0 : decide (0 < (nb : Int)) = true := by simp; omega
      have HLT := hide hlt
      have hml : (dig B9 (X % gk)).length ≤ 50000 := Nat.le_trans (dig_mono B9 (by decide) (Nat.le_of_lt hlt)) (by rw [rb.len]; exact hlb)
      have HML := hide hml
      clear hml hlt
      go_wp2_with fail
      refine (rdiv_nz Aa na ca Ab nb cb _ X gk ra hna hca hla rb hnb hcb hlb hk0).mono ?_
      rintro e w5 ⟨Aq, nq, cq, Ar, nr, cr, rfl, hq, hnq, hcq, hr3, hnr, hcr, hx⟩
      have b0 := b0.below' hx
      have b1 := b1.below' hx
      have b2 := b2.below' hx
      have rb := rb.below hx
      have hbw := hbw.trans (hx.mono hbw.size)
      clear hx ra j0 j1 j2 f2 hq
      have l0 := b0.lt
      have l1 := b1.lt
      have c0 := b0.put (Value.slice Ab nb cb)
      have c1' := b1.far (p := ⟨w.heap.size, 0, none⟩) (by simp) (Value.slice Ab nb cb)
      have c2' := b2.far (p := ⟨w.heap.size, 0, none⟩) (by simp) (Value.slice Ab nb cb)
      have crb := rb.put (i := 0) b0 (Value.slice Ab nb cb)
      have crr := hr3.put (i := 0) b0 (Value.slice Ab nb cb)
      have cbw := hbw.setCell (p := ⟨w.heap.size, 0, none⟩) (Nat.le_refl _) (Value.slice Ab nb cb)
      have hsz : (w5.setCell ⟨w.heap.size, 0, none⟩ (Value.slice Ab nb cb)).heap.size = w5.heap.size := by simp [World.setCell]
      obtain ⟨-, -, q1, -⟩ := boxes2 (w := w5.setCell ⟨w.heap.size, 0, none⟩ (Value.slice Ab nb cb)) (v0 := .slice Aq nq cq) (v1 := .slice Ar nr cr) (t0 := 24) (t1 := 24) rfl
      rw [hsz] at q1
      have e0 := c0.far (p := ⟨w.heap.size + 1, 0, none⟩) (by simp) (Value.slice Ar nr cr)
      have e1' := c1'.put (Value.slice Ar nr cr)
      have e2' := c2'.far (p := ⟨w.heap.size + 1, 0, none⟩) (by simp) (Value.slice Ar nr cr)
      have erb := crb.put (i := 0) c1' (Value.slice Ar nr cr)
      have err := crr.put (i := 0) c1' (Value.slice Ar nr cr)
      have ebw := cbw.setCell (p := ⟨w.heap.size + 1, 0, none⟩) (by simp) (Value.slice Ar nr cr)
      have j0 := ((b0.alloc (.cells #[.slice Aq nq cq] 24)).alloc (.cells #[.slice Ar nr cr] 24)).cell
      have j1 := ((b1.alloc (.cells #[.slice Aq nq cq] 24)).alloc (.cells #[.slice Ar nr cr] 24)).cell
      have f0 := ((b0.alloc (.cells #[.slice Aq nq cq] 24)).alloc (.cells #[.slice Ar nr cr] 24)).frozen 0
      have i1 := ((c1'.alloc (.cells #[.slice Aq nq cq] 24)).alloc (.cells #[.slice Ar nr cr] 24)).cell
      have if1 := ((c1'.alloc (.cells #[.slice Aq nq cq] 24)).alloc (.cells #[.slice Ar nr cr] 24)).frozen 0
      have ir := q1.cell
      generalize hS : (w5.setCell ⟨w.heap.size, 0, none⟩ (Value.slice Ab nb cb)).setCell ⟨w.heap.size + 1, 0, none⟩ (Value.slice Ar nr cr) = S1 at *
      have HS := hide hS
      obtain ⟨hbS, -, -, -⟩ := boxes2 (w := S1) (v0 := .slice Aq nq cq) (v1 := .slice Ar nr cr) (t0 := 24) (t1 := 24) rfl
      have E0 := e0.below' hbS
      have E1 := e1'.below' hbS
      have E2 := e2'.below' hbS
      have ERB := erb.below hbS
      have ERR := err.below hbS
      have EBW := ebw.trans (hbS.mono ebw.size)
      subst hS
      clear HS hbS e0 e1' e2' erb err ebw b0 b1 b2 rb hbw c0 c1' c2' crb crr cbw hr3 hsz q1
      go_wp2
      go_roundg (X % gk)
      case measure => exact HLT.out
      case rel => exact ⟨gk, Ab, nb, cb, Ar, nr, cr, E0, E1, E2, ERB, hnb, hcb, hlb, ERR, hnr, hcr, by rw [← ERR.len]; exact HML.out, HN.out, EBW⟩
end Go.Proofs.YtoeknkakdoemfaaGreatDoor

/- The contracts of the reference's naturals at naturals of a limit. -/
namespace Go.Proofs.YtoeknkakdoemfaaGreatDoor
open Go Go.RowKit

section
variable {L : Nat} {A : Option Addr} {n c u : Nat} {A' : Option Addr} {m d v : Nat} {w : World}
theorem rcmp_n (hA : Nt w L A n c u) (hB : Nt w L A' m d v) (hL : L ≤ 100000) (r : Int) (h : cmpI u v = r) :
    Calls Tryz.prog 37 #[.agg #[.slice A n c], .agg #[.slice A' m d]] w fun e w' => e = .returned (.int .i64 r) ∧ Below w.heap.size w w' := by
  obtain ⟨xs, h1, h2, h3, h4, h5, h6⟩ := hA
  obtain ⟨ys, i1, i2, i3, i4, i5, i6⟩ := hB
  exact rcmp_any A n c xs A' m d ys w h1 h2 h3 (by omega) h5 i1 i2 i3 (by omega) i5 u v h6 i6 r h
theorem rmul_n (hA : Nt w L A n c u) (hB : Nt w L A' m d v) (hL : L ≤ 100000) (T : Nat) (h : u * v = T) :
    Calls Tryz.prog 86 #[.agg #[.slice A n c], .agg #[.slice A' m d]] w (GivesN T w) := by
  obtain ⟨xs, h1, h2, h3, h4, h5, h6⟩ := hA
  obtain ⟨ys, i1, i2, i3, i4, i5, i6⟩ := hB
  exact rmul_any A n c xs A' m d ys w h1 h2 h3 (by omega) h5 i1 i2 i3 (by omega) i5 u v h6 i6 T h
theorem radd_n (hA : Nt w L A n c u) (hB : Nt w L A' m d v) (hL : L ≤ 100000) (T : Nat) (h : u + v = T) :
    Calls Tryz.prog 87 #[.agg #[.slice A n c], .agg #[.slice A' m d]] w (GivesN T w) := by
  obtain ⟨xs, h1, h2, h3, h4, h5, h6⟩ := hA
  obtain ⟨ys, i1, i2, i3, i4, i5, i6⟩ := hB
  exact radd_any A n c xs A' m d ys w h1 h2 h3 (by omega) h5 i1 i2 i3 (by omega) i5 u v h6 i6 T h
theorem rsub_n (hA : Nt w L A n c u) (hB : Nt w L A' m d v) (hL : L ≤ 100000) (T : Nat) (h : u - v = T) (hle : v ≤ u) :
    Calls Tryz.prog 88 #[.agg #[.slice A n c], .agg #[.slice A' m d]] w (GivesNE T 0 w) := by
  obtain ⟨xs, h1, h2, h3, h4, h5, h6⟩ := hA
  obtain ⟨ys, i1, i2, i3, i4, i5, i6⟩ := hB
  exact rsub_g A n c xs A' m d ys w h1 h2 h3 (by omega) h5 i1 i2 i3 (by omega) i5 u v h6 i6 T 0 h (if_neg (by omega))
end
end Go.Proofs.YtoeknkakdoemfaaGreatDoor

/- The contracts of the reference's DivMod, Gcd at naturals of a limit. -/
namespace Go.Proofs.YtoeknkakdoemfaaGreatDoor
open Go Go.RowKit

section
variable {L : Nat} {A : Option Addr} {n c u : Nat} {A' : Option Addr} {m d v : Nat} {w : World}
theorem rdiv_n (hA : Nt w L A n c u) (hB : Nt w L A' m d v) (hL : L ≤ 50000) (hv : v ≠ 0) (q r : Nat) (hq : u / v = q) (hr : u % v = r) :
    Calls Tryz.prog 80 #[.agg #[.slice A n c], .agg #[.slice A' m d]] w (GivesDM q r 0 w) := by
  obtain ⟨xs, h1, h2, h3, h4, h5, h6⟩ := hA
  obtain ⟨ys, i1, i2, i3, i4, i5, i6⟩ := hB
  rcases Nat.lt_or_ge u v with h | h
  · have h0 := rdiv_less A n c xs A' m d ys w h1 h2 h3 (by omega) h5 i1 i2 i3 (by omega) i5 u v h6 i6 hv h
    rw [Nat.div_eq_of_lt h] at hq
    rw [Nat.mod_eq_of_lt h] at hr
    subst hq
    subst hr
    exact h0
  · exact rdiv_ok A n c xs A' m d ys w h1 h2 h3 (by omega) h5 i1 i2 i3 (by omega) i5 u v h6 i6 hv h q r hq hr
theorem rgcd_n (hA : Nt w L A n c u) (hB : Nt w L A' m d v) (hL : L ≤ 40000) (T : Nat) (h : Nat.gcd u v = T) :
    Calls Tryz.prog 79 #[.agg #[.slice A n c], .agg #[.slice A' m d]] w (GivesN T w) := by
  obtain ⟨xs, h1, h2, h3, h4, h5, h6⟩ := hA
  obtain ⟨ys, i1, i2, i3, i4, i5, i6⟩ := hB
  exact rgcd_any A n c xs A' m d ys w h1 h2 h3 (by omega) h5 i1 i2 i3 (by omega) i5 u v h6 i6 T h
end
end Go.Proofs.YtoeknkakdoemfaaGreatDoor
