/- The contract of the reference's Mul. -/
import Derived.Test.YtjmiaodjapclbaaDoorRNorm
import Derived.Test.YtjmiaodjapclbaaDoorBox
import Derived.Test.YtjmiaodjapclbaaDoorMul
namespace Go.Proofs.YtjmiaodjapclbaaDoor
open Go Go.RowKit

theorem rmul_step {b : Nat} {zk : List Nat} {p z S : Nat} (hz : zk[p]? = some z) : val b (zk.set p (S % b)) + b ^ p * z + b ^ (p + 1) * (S / b) = val b zk + b ^ p * S := by
  have h := val_set (b := b) (v := S % b) hz
  have e : b ^ p * (S % b) + b ^ (p + 1) * (S / b) = b ^ p * S := by rw [Nat.pow_succ, Nat.mul_assoc, ← Nat.mul_add, Nat.mod_add_div]
  omega
theorem rmul_in {b F C z x i k V0 V1 W : Nat} {zs zk : List Nat} (hz : zk[i + k]? = some z) (h : val b zk + b ^ (i + k) * C = W + b ^ i * (F * V0)) (hV : V1 = V0 + b ^ k * x) (S : Nat) (hS : S = z + C + F * x) (e : zk.set (i + k) (S % b) = zs) :
    val b zs + b ^ (i + (k + 1)) * (S / b) = W + b ^ i * (F * V1) := by
  have h1 := rmul_step (b := b) (S := S) hz
  subst e
  have e1 : b ^ (i + k) * S = b ^ (i + k) * z + b ^ (i + k) * C + b ^ (i + k) * (F * x) := by rw [hS, Nat.mul_add, Nat.mul_add]
  have e2 : b ^ i * (F * V1) = b ^ i * (F * V0) + b ^ (i + k) * (F * x) := by
    rw [hV, Nat.mul_add, Nat.mul_add, Nat.pow_add]
    congr 1
    rw [Nat.mul_assoc, Nat.mul_left_comm F (b ^ k) x]
  have e3 : i + (k + 1) = i + k + 1 := by omega
  rw [e3]
  omega

set_option maxHeartbeats 2000000 in
theorem rmul_any (A : Option Addr) (n c : Nat) (xs : List Nat) (A' : Option Addr) (m d : Nat) (ys : List Nat) (w : World) (hr : RL w .u32 A n xs) (hn : n ≤ c) (hc : c ≤ maxLen) (hN : n ≤ 100000) (hx : ∀ x ∈ xs, x < 4294967296)
    (hr' : RL w .u32 A' m ys) (hm : m ≤ d) (hd : d ≤ maxLen) (hM : m ≤ 100000) (hy : ∀ x ∈ ys, x < 4294967296) (u v : Nat) (hu : val B9 xs = u) (hv : val B9 ys = v) (T : Nat) (hT : u * v = T) :
    Calls Tryd.prog 43 #[.agg #[.slice A n c], .agg #[.slice A' m d]] w (GivesN T w) := by
  have HX := hide hx
  have HY := hide hy
  have HU := hide hu
  have HV := hide hv
  have HL := hide hr.len
  have HL' := hide hr'.len
  clear hx hy hu hv
  have HT := hide hT
  clear hT
  go_enter Tryd.func43, Tryd.ntmps43
  go_wp2_with fail
  generalize hW : ((w.alloc _).alloc _).alloc _ = W
  obtain ⟨hbW, b0, b1, b2, hz⟩ := boxes3 hW
  clear hW
  refine (rnorm_any A n c xs _ (hr.below hbW) hn hc (by omega) HX.out u HU.out).mono ?_
  rintro e w1 ⟨A1, n1, c1, rfl, r1, hn1, hc1, hb1⟩
  have hl1 : n1 ≤ n + 1 := dig_len_u32 (n := n1) (m := n) (xs := xs) (by rw [HU.out]; exact r1.len) HL.out HX.out
  have b0 := b0.below' hb1
  have b1 := b1.below' hb1
  have b2 := b2.below' hb1
  have hrB := hr'.below (hbW.trans (hb1.mono hbW.size))
  have hbA := hbW.trans (hb1.mono hbW.size)
  have f0 := b0.frozen 0
  have k0 := b0.cell
  have k1 := b1.cell
  clear hr hr' hb1 hbW
  go_wp2_with fail
  generalize hW2 : w1.setCell _ _ = w2
  have r2 : RL w2 .u32 A1 n1 (dig B9 u) := by rw [← hW2]; exact r1.put b0 _
  have rB2 : RL w2 .u32 A' m ys := by rw [← hW2]; exact hrB.put b0 _
  have c0 : Box w2 w.heap.size #[.slice A1 n1 c1] 25 := by rw [← hW2]; exact b0.put _
  have e1 := b1.far (p := ⟨w.heap.size, 0, none⟩) (by simp) (.slice A1 n1 c1)
  rw [hW2] at e1
  have e2 := b2.far (p := ⟨w.heap.size, 0, none⟩) (by simp) (.slice A1 n1 c1)
  rw [hW2] at e2
  have hb2 : Below w.heap.size w w2 := by rw [← hW2]; exact hbA.setCell (by simp) _
  clear hW2 r1 hrB b0 b1 hbA f0 k0 k1
  refine (rnorm_any A' m d ys _ rB2 hm hd (by omega) HY.out v HV.out).mono ?_
  rintro e w3 ⟨A3, n3, c3, rfl, r3, hn3, hc3, hb3⟩
  have hl3 : n3 ≤ m + 1 := dig_len_u32 (n := n3) (m := m) (xs := ys) (by rw [HV.out]; exact r3.len) HL'.out HY.out
  have b0 := c0.below' hb3
  have b1 := e1.below' hb3
  have b2 := e2.below' hb3
  have r2 := r2.below hb3
  have hbA := hb2.trans (hb3.mono hb2.size)
  have r4 : RL (w3.setCell ⟨w.heap.size + 1, 0, none⟩ (.slice A3 n3 c3)) .u32 A1 n1 (dig B9 u) := r2.put b1 _
  have r5 : RL (w3.setCell ⟨w.heap.size + 1, 0, none⟩ (.slice A3 n3 c3)) .u32 A3 n3 (dig B9 v) := r3.put b1 _
  have d0 : Box (w3.setCell ⟨w.heap.size + 1, 0, none⟩ (.slice A3 n3 c3)) w.heap.size #[.slice A1 n1 c1] 25 := b0.far (by simp) _
  have d1 : Box (w3.setCell ⟨w.heap.size + 1, 0, none⟩ (.slice A3 n3 c3)) (w.heap.size + 1) #[.slice A3 n3 c3] 25 := b1.put _
  have d2 := b2.far (p := ⟨w.heap.size + 1, 0, none⟩) (by simp) (.slice A3 n3 c3)
  have hb4 : Below w.heap.size w (w3.setCell ⟨w.heap.size + 1, 0, none⟩ (.slice A3 n3 c3)) := hbA.setCell (by simp) _
  have f1 := b1.frozen 0
  have g0 := b0.cell
  have g1 := b1.cell
  clear r2 r3 b0 b1 hbA c0 e1 rB2 hb2 hb3 b2 e2
  have k0 := d0.cell
  have k1 := d1.cell
  have HR4 := hide r4.len
  have HR5 := hide r5.len
  have hc1' : n1 ≤ maxLen := Nat.le_trans hn1 hc1
  have hc3' : n3 ≤ maxLen := Nat.le_trans hn3 hc3
  unfold maxLen at hc1' hc3'
  go_wp2_with (at_make; refine wpList_make_zero _ rfl _ _ 23 rfl 58 .u32 4 Tryd.underlying23 u32_info .i64 .i64 _ _ (n1 + n3 + 1) rfl rfl (by go_num) (by go_num) (by omega) (by omega) ?_; intro g w5 hg hown hbel)
  generalize w3.setCell (⟨w.heap.size + 1, 0, none⟩ : Addr) (.slice A3 n3 c3) = W4 at *
  have lt0 := d0.lt
  have lt1 := d1.lt
  have lt2 := d2.lt
  clear f1 g0 g1 k0 k1
  go_loopw [6, 7, 8, 9] (fun i _ _ _ wr => ∃ (k : Nat) (zs : List Nat), k ≤ n1 ∧ i = .int .i64 (k : Int) ∧ zs.length = n1 + n3 + 1 ∧ Own wr g .u32 58 zs ∧ Below W4.heap.size W4 wr ∧
      val B9 zs = val B9 ((dig B9 u).take k) * v ∧ (∀ x ∈ zs, x < B9) ∧ zs.drop (k + n3) = List.replicate (n1 + 1 - k) 0) (fun i _ _ _ _ => n1 - (intOf i).toNat)
  case atStart => exact ⟨0, List.replicate (n1 + n3 + 1) 0, by omega, rfl, by simp, hown, hbel, by simp [val, val_replicate_zero], fun x hx => by rw [List.eq_of_mem_replicate hx]; decide, by simp; omega⟩
  case round =>
    obtain ⟨i, zs, hi, rfl, hzl, hzo, hzb, hzv, hzd, hzr⟩ := hrel
    clear hown hbel
    have HZL := hide hzl
    have HZV := hide hzv
    have HZD := hide hzd
    have HZR := hide hzr
    have q0 := (d0.below hzb lt0).cell
    have q1 := (d1.below hzb lt1).cell
    by_cases hlt : i < n1
    · have ra := r4.below hzb
      obtain ⟨ba, oa, F, eA1, hF, hcellF⟩ := ra.at_ hlt
      have hFb : F < 1000000000 := dig_lt B9 (by decide) u F (List.mem_of_getElem? hF)
      have HF := hide hF
      have HA1 := hide eA1
      have hzI : Hid (zs[i + n3]? = some 0) := by
        have h1 := congrArg (fun l : List Nat => l[0]?) hzr
        simp only [List.getElem?_drop] at h1
        show zs[i + n3]? = some 0
        rw [Nat.add_zero] at h1
        rw [h1, List.getElem?_replicate, if_pos (by omega)]
      clear hF hzl hzv hzd hzr hcellF ra eA1
      go_wp2
      go_loopw [7, 8, 9] (fun cc k _ wq => ∃ (j C : Nat) (zk : List Nat), j ≤ n3 + 1 ∧ (n3 < j → C = 0) ∧ C < 1000000000 ∧ cc = .int .u64 (C : Int) ∧ k = .int .i64 (j : Int) ∧ zk.length = n1 + n3 + 1 ∧ Own wq g .u32 58 zk ∧ Below W4.heap.size W4 wq ∧
          val B9 zk + B9 ^ (i + j) * C = val B9 zs + B9 ^ i * (F * val B9 ((dig B9 v).take j)) ∧ (∀ x ∈ zk, x < B9) ∧ zk.drop (i + j) = zs.drop (i + j)) (fun _ k _ _ => n3 + 1 - (intOf k).toNat)
      case atStart => exact ⟨0, 0, zs, by omega, fun _ => rfl, by omega, rfl, rfl, HZL.out, hzo, hzb, by simp [val], HZD.out, rfl⟩
      case round =>
        obtain ⟨j, C, zk, hj, hC0, hCb, rfl, rfl, hkl, hko, hkb, hkv, hkd, hkr⟩ := hrel
        have p0 := (d0.below hkb lt0).cell
        have p1 := (d1.below hkb lt1).cell
        have HKL := hide hkl
        have HKV := hide hkv
        have HKD := hide hkd
        have HKR := hide hkr
        have HC0 := hide hC0
        clear hkl hkv hkd hkr hC0 q0 q1
        by_cases hj3 : j < n3
        · have hkz : i + j < zk.length := by rw [HKL.out]; omega
          obtain ⟨z, hz⟩ : ∃ z, zk[i + j]? = some z := ⟨_, List.getElem?_eq_getElem hkz⟩
          have hzlt : z < 1000000000 := HKD.out z (List.mem_of_getElem? hz)
          have hold : wr.cell? ⟨g, i + j, none⟩ = some (.int .u32 (z : Int)) := hko.cell hz
          have hfz := hko.frozen (i + j)
          obtain ⟨bb, ob, x, rfl, hx, hcellx⟩ := (r5.below hkb).at_ hj3
          have hxb : x < 1000000000 := dig_lt B9 (by decide) v x (List.mem_of_getElem? hx)
          obtain rfl := HA1.out
          obtain ⟨F', hF', hcellF⟩ := (r4.below hkb).cell hlt
          obtain rfl : F' = F := by have := HF.out; rw [hF'] at this; exact Option.some.inj this
          have hFx : F' * x ≤ 999999998000000001 := by
            have : F' * x ≤ 999999999 * 999999999 := Nat.mul_le_mul (by omega) (by omega)
            omega
          have hFx1 : (F' : Int) * (x : Int) ≤ 999999998000000001 := by rw [← Int.natCast_mul]; omega
          have hFx0 : 0 ≤ (F' : Int) * (x : Int) := by rw [← Int.natCast_mul]; omega
          have HS := hide (rmul_in hz HKV.out (val_take_succ B9 hx) (z + C + F' * x) rfl rfl)
          clear hx hF' hz hkz
          go_wp2
          go_quiet (fail)
          have hold2 : (wr.drewN nq).cell? ⟨g, i + j, none⟩ = some (.int .u32 (z : Int)) := hold
          have hfz2 : (wr.drewN nq).frozen? ⟨g, i + j, none⟩ = false := hfz
          have hko2 : Own (wr.drewN nq) g .u32 58 zk := hko
          have hkb2 := below_drewN hkb nq
          generalize wr.drewN nq = W5 at *
          go_wp2
          go_roundw
          case rel =>
            have eI : (F' : Int) * (x : Int) = ((F' * x : Nat) : Int) := (Int.natCast_mul F' x).symm
            rw [eI]
            refine ⟨j + 1, (z + C + F' * x) / 1000000000, zk.set (i + j) ((z + C + F' * x) % 1000000000), by omega, fun h => absurd h (by omega), by omega, by go_num, by go_num, by rw [List.length_set]; exact HKL.out, hko2.put (i + j) (by omega), hkb2.setCell (by omega) _, HS.out, all_set HKD.out (Nat.mod_lt _ (by decide)), ?_⟩
            show (zk.set (i + j) _).drop (i + (j + 1)) = _
            rw [drop_set_lt _ _ _ _ (by omega)]
            exact drop_of_drop HKR.out (by omega)
          case measure => simp [intOf]; omega
        · have hd3 : decide (j < n3) = false := by simp; omega
          by_cases hC : C = 0
          · subst hC
            have HV1 := hide (show val B9 zk = val B9 ((dig B9 u).take (i + 1)) * v from by
              have h1 := HKV.out
              rw [Nat.mul_zero, Nat.add_zero, val_take_dig B9 (by decide) v j (by rw [HR5.out]; omega)] at h1
              rw [h1, HZV.out, val_take_succ B9 HF.out, Nat.add_mul, Nat.mul_assoc])
            have HR1 := hide (show zk.drop (i + 1 + n3) = List.replicate (n1 + 1 - (i + 1)) 0 from by
              have h0 : zk.drop (i + n3 + 1) = zs.drop (i + n3 + 1) := by
                rcases Nat.lt_or_ge n3 j with h | h
                · have : j = n3 + 1 := by omega
                  subst this
                  exact HKR.out
                · have : j = n3 := by omega
                  subst this
                  exact drop_of_drop HKR.out (by omega)
              rw [show i + 1 + n3 = i + n3 + 1 from by omega, h0]
              have h5 := congrArg (List.drop 1) HZR.out
              rw [List.drop_drop] at h5
              rw [h5]
              simp
              omega)
            clear hj3
            go_wp2
            go_roundw
            case rel => exact ⟨i + 1, zk, by omega, by go_num, HKL.out, hko, hkb, HV1.out, HKD.out, HR1.out⟩
            case measure => simp [intOf]; omega
          · obtain rfl : j = n3 := by
              rcases Nat.lt_or_ge n3 j with h | h
              · exact absurd (HC0.out h) hC
              · omega
            have hz : zk[i + j]? = some 0 := by rw [getElem?_of_drop HKR.out (Nat.le_refl _)]; exact hzI.out
            have hold : wr.cell? ⟨g, i + j, none⟩ = some (.int .u32 ((0 : Nat) : Int)) := hko.cell hz
            have hfz := hko.frozen (i + j)
            have HS := hide (rmul_in (x := 0) (V1 := val B9 ((dig B9 v).take (j + 1))) hz HKV.out (by rw [Nat.mul_zero, Nat.add_zero]; exact val_take_all B9 (by rw [HR5.out]; omega) (by rw [HR5.out]; omega)) C (by omega) rfl)
            have hkz : i + j < n1 + j + 1 := by omega
            clear hz
            go_wp2
            go_roundw
            case rel =>
              refine ⟨j + 1, C / 1000000000, zk.set (i + j) (C % 1000000000), by omega, fun _ => by omega, by omega, by go_num, by go_num, by rw [List.length_set]; exact HKL.out, hko.put (i + j) (by omega), hkb.setCell (by omega) _, HS.out, all_set HKD.out (Nat.mod_lt _ (by decide)), ?_⟩
              show (zk.set (i + j) _).drop (i + (j + 1)) = _
              rw [drop_set_lt _ _ _ _ (by omega)]
              exact drop_of_drop HKR.out (by omega)
            case measure => simp [intOf]
    · obtain rfl : i = n1 := by omega
      have HE := hide (show val B9 zs = T from by
        rw [hzv, List.take_of_length_le (by rw [HR4.out]; exact Nat.le_refl _), val_dig B9 (by decide), HT.out])
      have HU32 := hide (show ∀ x ∈ zs, x < 4294967296 from fun x hx => by have : x < 1000000000 := HZD.out x hx; omega)
      have hbA := hb4.trans (hzb.mono hb4.size)
      have d2w := d2.below hzb lt2
      have hrl := hzo.rl hzl
      clear hzl hzv hzd hzr
      go_wp2_with fail
      refine (rnorm_any _ (i + n3 + 1) (i + n3 + 1) zs _ hrl (Nat.le_refl _) (by unfold maxLen; omega) (by omega) HU32.out T HE.out).mono ?_
      rintro e w6 ⟨A6, n6, c6, rfl, r6, hn6, hc6, hb6⟩
      have q2 := (d2w.below' hb6).cell
      have g2 := (d2w.below' hb6).frozen 0
      go_wp2
      refine bodyPost_ret (v := .agg #[.slice A6 n6 c6]) (by simp [results, Tryd.results43, go_sem, q2]) rfl ?_
      exact fin_struct hbA hb6 (by omega) d2w r6 hn6 hc6
end Go.Proofs.YtjmiaodjapclbaaDoor
