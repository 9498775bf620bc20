/- The contracts of natural.addMultiple, natural.product, natural.Mul. -/
import Derived.Test.YtoeknkakdoemfaaGreatDoorAdd
namespace Go.Proofs.YtoeknkakdoemfaaGreatDoor
open Go Go.RowKit

/-- what addMultiple leaves -/
def AddedMul (w : World) (g : Nat) (zs : List Nat) (o F V k : Nat) (e : Ending) (w' : World) : Prop :=
  e = .returned (.tuple #[]) ∧ w.grownBy w' (some g) ∧ ∃ zs', Own w' g .u32 71 zs' ∧ zs'.length = zs.length ∧ (∀ x ∈ zs', x < B9) ∧ zs'.drop k = zs.drop k ∧ val B9 zs' = val B9 zs + B9 ^ o * (F * V)

set_option maxHeartbeats 1000000 in
theorem addMultiple_any (g o m c : Nat) (zs : List Nat) (A : Option Addr) (n d : Nat) (xs : List Nat) (F : Nat) (w : World) (hz : Own w g .u32 71 zs) (hzb : ∀ x ∈ zs, x < B9) (hz0 : zs[o + n]? = some 0) (hm : n < m) (hmm : m ≤ maxLen)
    (hr : RL w .u32 A n xs) (hx : ∀ x ∈ xs, x < B9) (hs : Sp A n g) (hn : n ≤ maxLen) (hF : F < 1000000000) :
    Calls Tryz.prog 109 #[.slice (some ⟨g, o, none⟩) m c, .slice A n d, .int .u64 (F : Int)] w (AddedMul w g zs o F (val B9 xs) (o + n + 1)) := by
  have HZB := hide hzb
  have HZ0 := hide hz0
  have HX := hide hx
  have HL := hide hr.len
  have hlz := lt_of_getElem? hz0
  unfold maxLen at hn hmm
  clear hzb hz0 hx
  by_cases hF0 : F = 0
  · subst hF0
    go_enter Tryz.func109, Tryz.ntmps109
    go_wp2
    refine bodyPost_ret (results_none rfl _ _ _) rfl ⟨rfl, World.grownBy.refl _ _, zs, hz, rfl, HZB.out, rfl, by simp⟩
  · have hFd : ((F : Int) == 0) = false := by simp; exact hF0
    go_enter Tryz.func109, Tryz.ntmps109
    go_wp2
    go_loopw [6, 7, 8, 13] (fun c6 _ _ i wr => ∃ (k C : Nat) (zk : List Nat), k ≤ n ∧ C < 1000000000 ∧ c6 = .int .u64 C ∧ i = .int .i64 k ∧ zk.length = zs.length ∧ Own wr g .u32 71 zk ∧ w.grownBy wr (some g) ∧
        val B9 (zk.take (o + k)) + B9 ^ (o + k) * C = val B9 (zs.take (o + k)) + B9 ^ o * (F * val B9 (xs.take k)) ∧ (∀ x ∈ zk, x < B9) ∧ zk.drop (o + k) = zs.drop (o + k)) (fun _ _ _ i _ => n - (intOf i).toNat)
    case atStart => exact ⟨0, 0, zs, by omega, by omega, rfl, rfl, rfl, hz, World.grownBy.refl _ _, by simp [val], HZB.out, rfl⟩
    case round =>
      obtain ⟨k, C, zk, hk, hC, rfl, rfl, hzl, hzo, hzg, hzv, hzd, hdr⟩ := hrel
      have hr3 := hr.grown hzg hs
      have HZL := hide hzl
      have HZV := hide hzv
      have HZD := hide hzd
      have HDR := hide hdr
      by_cases hlt : k < n
      · obtain ⟨b, p, x, rfl, hx, hcell⟩ := hr3.at_ hlt
        have hxb : x < 1000000000 := HX.out x (List.mem_of_getElem? hx)
        have hkz : o + k < zk.length := by omega
        have hgz : zk[o + k]? = some zk[o + k] := List.getElem?_eq_getElem hkz
        generalize zk[o + k] = z at hgz
        have hold : wr.cell? ⟨g, o + k, none⟩ = some (.int .u32 (z : Int)) := hzo.cell hgz
        have hzlt : z < 1000000000 := HZD.out z (List.mem_of_getElem? hgz)
        have hfz := hzo.frozen (o + k)
        have hFx : F * x ≤ 999999998000000001 := by
          have : F * x ≤ 999999999 * 999999999 := Nat.mul_le_mul (by omega) (by omega)
          omega
        have hFx1 : (F : Int) * (x : Int) ≤ 999999998000000001 := by rw [← Int.natCast_mul]; omega
        have hFx0 : 0 ≤ (F : Int) * (x : Int) := by rw [← Int.natCast_mul]; omega
        have HX' := hide hx
        have HGZ := hide (show zs[o + k]? = some z from by rw [← getElem?_of_drop hdr (Nat.le_refl _)]; exact hgz)
        clear hx hzl hzv hzd hdr hgz
        go_wp2
        go_roundw
        case rel =>
          have eI : (F : Int) * (x : Int) = ((F * x : Nat) : Int) := (Int.natCast_mul F x).symm
          rw [eI]
          have hq : (C + (z + F * x)) / 1000000000 < 1000000000 := by omega
          refine ⟨k + 1, (C + (z + F * x)) / 1000000000, zk.set (o + k) ((C + (z + F * x)) % 1000000000), by omega, hq, by go_num, by go_num, by rw [List.length_set]; exact HZL.out, hzo.put (o + k) (by omega), only_setCell hzg (.inl rfl) _, ?_, ?_, ?_⟩
          · exact mul_step hkz HGZ.out HX'.out HZV.out
          · exact all_set HZD.out (Nat.mod_lt _ (by decide))
          · show (zk.set (o + k) _).drop (o + (k + 1)) = _
            rw [drop_set_lt _ _ _ _ (by omega)]
            exact drop_of_drop HDR.out (by omega)
        case measure => simp [intOf]; omega
      · obtain rfl : k = n := by omega
        have hgz : zk[o + k]? = some 0 := by rw [getElem?_of_drop hdr (Nat.le_refl _)]; exact HZ0.out
        have hold : wr.cell? ⟨g, o + k, none⟩ = some (.int .u32 ((0 : Nat) : Int)) := hzo.cell hgz
        have hfz := hzo.frozen (o + k)
        clear hgz hzl hzv hzd hdr
        go_wp2
        refine bodyPost_end (results_none rfl _ _ _) rfl ?_
        refine ⟨rfl, only_setCell hzg (.inl rfl) _, zk.set (o + k) C, hzo.put (o + k) rfl, by rw [List.length_set]; exact HZL.out, all_set HZD.out hC, ?_, ?_⟩
        · rw [drop_set_lt _ _ _ _ (by omega)]
          exact drop_of_drop HDR.out (by omega)
        · exact mul_end HZ0.out HDR.out (by rw [HL.out]; exact Nat.le_refl _) HZV.out

theorem prod_step {zs zs' xs ys : List Nat} {k x : Nat} (hx : xs[k]? = some x) (h : val B9 zs = val B9 (xs.take k) * val B9 ys) (h' : val B9 zs' = val B9 zs + B9 ^ k * (x * val B9 ys)) :
    val B9 zs' = val B9 (xs.take (k + 1)) * val B9 ys := by
  rw [h', h, val_take_succ B9 hx, Nat.add_mul, Nat.mul_assoc]

set_option maxHeartbeats 1000000 in
theorem product_any (A : Option Addr) (n c : Nat) (xs : List Nat) (A' : Option Addr) (m d : Nat) (ys : List Nat) (w : World) (hr : RL w .u32 A n xs) (hx : ∀ x ∈ xs, x < B9) (hN : n ≤ 2000000)
    (hr' : RL w .u32 A' m ys) (hy : ∀ x ∈ ys, x < B9) (hM : m ≤ 2000000) (T : Nat) (hT : val B9 xs * val B9 ys = T) :
    Calls Tryz.prog 83 #[.slice A n c, .slice A' m d] w (Gives T w) := by
  have HX := hide hx
  have HY := hide hy
  have HT := hide hT
  have HL := hide hr.len
  clear hx hy hT
  go_enter Tryz.func83, Tryz.ntmps83
  go_wp2_with (at_make; refine wpList_make_zero _ rfl _ _ 22 rfl 71 .u32 4 Tryz.underlying22 u32_info .i64 .i64 _ _ (n + m) rfl rfl (by go_num) (by go_num) (by omega) (by omega) ?_; intro g w3 hg hown hbel)
  go_loopw [6, 7, 16] (fun _ _ i wr => ∃ (k : Nat) (zs : List Nat), k ≤ n ∧ i = .int .i64 k ∧ zs.length = n + m ∧ Own wr g .u32 71 zs ∧ Below w.heap.size w wr ∧
      val B9 zs = val B9 (xs.take k) * val B9 ys ∧ (∀ x ∈ zs, x < B9) ∧ zs.drop (k + m) = List.replicate (n - k) 0) (fun _ _ i _ => n - (intOf i).toNat)
  case atStart => exact ⟨0, List.replicate (n + m) 0, by omega, rfl, by simp, hown, hbel, by simp [val, val_replicate_zero], fun x hx => by rw [List.eq_of_mem_replicate hx]; decide, by simp⟩
  case round =>
    obtain ⟨k, zs, hk, rfl, hzl, hzo, hzb, hzv, hzd, hzr⟩ := hrel
    clear hown hbel
    have hr3 := hr.below hzb
    have hr3' := hr'.below hzb
    have HZL := hide hzl
    have HZV := hide hzv
    have HZD := hide hzd
    have HZR := hide hzr
    have hsp' : Sp A' m g := hr'.sp hg
    by_cases hlt : k < n
    · obtain ⟨b, o, x, rfl, hx, hcell⟩ := hr3.at_ hlt
      have hxb : x < 1000000000 := HX.out x (List.mem_of_getElem? hx)
      have HX' := hide hx
      have hz0 : Hid (zs[k + m]? = some 0) := by
        have h1 := congrArg (fun l : List Nat => l[0]?) hzr
        simp only [List.getElem?_drop] at h1
        show zs[k + m]? = some 0
        rw [Nat.add_zero] at h1
        rw [h1, List.getElem?_replicate, if_pos (by omega)]
      clear hx hzl hzv hzd hzr
      go_wp2_with fail
      refine (addMultiple_any g k (n + m - k) (n + m - k) zs A' m d ys x wr hzo HZD.out hz0.out (by omega) (by unfold maxLen; omega) hr3' HY.out hsp' (by unfold maxLen; omega) hxb).mono ?_
      rintro e w4 ⟨rfl, hgr, zs', hzo', hzl', hzd', hzr', hzv'⟩
      have H1 := hide hzl'
      have H2 := hide hzd'
      have H3 := hide hzr'
      have H4 := hide hzv'
      clear hzl' hzd' hzr' hzv'
      go_wp2
      go_roundw
      case rel =>
        refine ⟨k + 1, zs', by omega, by go_num, by rw [H1.out]; exact HZL.out, hzo', below_only hzb hgr hzb.size hg, prod_step HX'.out HZV.out H4.out, H2.out, ?_⟩
        rw [show k + 1 + m = k + m + 1 from by omega, H3.out]
        have h5 := congrArg (List.drop 1) HZR.out
        rw [List.drop_drop] at h5
        rw [h5]
        simp
        omega
      case measure => simp [intOf]; omega
    · obtain rfl : k = n := by omega
      have HE := hide (show trimL zs = dig B9 T from by
        rw [trimL_dig B9 (by decide) zs hzd, hzv, List.take_of_length_le (by rw [HL.out]; exact Nat.le_refl _), HT.out])
      clear hzl hzv hzd hzr
      go_wp2_with fail
      refine (trim_any _ (k + m) (k + m) zs _ (hzo.rl HZL.out) (Nat.le_refl _) (by unfold maxLen; omega)).mono ?_
      rintro e w' ⟨rfl, rfl⟩
      have h3 := hzo.trim (n := k + m) HE.out HZL.out
      rw [HE.out]
      go_wp2
      go_ret
      exact ⟨_, _, _, rfl, h3.1, h3.2, by unfold maxLen; omega, hzb⟩

set_option maxHeartbeats 1000000 in
theorem mul_any (A : Option Addr) (n c : Nat) (xs : List Nat) (A' : Option Addr) (m d : Nat) (ys : List Nat) (w : World) (hr : RL w .u32 A n xs) (hn : n ≤ c) (hc : c ≤ maxLen) (hN : n ≤ 900000) (hx : ∀ x ∈ xs, x < 4294967296)
    (hr' : RL w .u32 A' m ys) (hm : m ≤ d) (hd : d ≤ maxLen) (hM : m ≤ 900000) (hy : ∀ x ∈ ys, x < 4294967296) (T : Nat) (hT : val B9 xs * val B9 ys = T) :
    Calls Tryz.prog 52 #[.agg #[.slice A n c], .agg #[.slice A' m d]] w (GivesN T w) := by
  have HX := hide hx
  have HY := hide hy
  have HT := hide hT
  clear hx hy hT
  go_enter Tryz.func52, Tryz.ntmps52
  go_wp2
  have HB := box3 w (.slice A n c) (.slice A' m d) (.slice none 0 0) 24 24 24
  generalize ((w.alloc (Obj.cells #[Value.slice A n c] 24)).alloc (Obj.cells #[Value.slice A' m d] 24)).alloc (Obj.cells #[Value.slice none 0 0] 24) = W at HB ⊢
  obtain ⟨hW, h1, h2, h3, hz⟩ := HB
  have HZ := hide hz
  have H3 := hide h3
  have hz2 : w.heap.size + 2 < W.heap.size := by omega
  clear hz h3
  have hrW := hr.below hW
  have hrW' := hr'.below hW
  have KS : Hid (∀ w', Below W.heap.size W w' → w'.cell? ⟨w.heap.size, 0, none⟩ = some (.slice A n c) ∧ w'.cell? ⟨w.heap.size + 1, 0, none⟩ = some (.slice A' m d)) :=
    fun w' h => ⟨(h.cell (p := ⟨w.heap.size, 0, none⟩) (by simp; omega)).trans h1, (h.cell (p := ⟨w.heap.size + 1, 0, none⟩) (by simp; omega)).trans h2⟩
  have KC : Hid (∀ w', Below W.heap.size W w' → w'.cell? ⟨w.heap.size + 2, 0, none⟩ = some (.slice none 0 0) ∧ w'.frozen? ⟨w.heap.size + 2, 0, none⟩ = false) :=
    fun w' h => ⟨(h.cell (p := ⟨w.heap.size + 2, 0, none⟩) hz2).trans (by rw [cell_of_row _ _ _ _ _ _ H3.out]; rfl), (h.frozen (p := ⟨w.heap.size + 2, 0, none⟩) hz2).trans (frozen_of_row _ _ _ _ _ H3.out)⟩
  have KD : Hid (∀ w' v, Below W.heap.size W w' → (w'.setCell ⟨w.heap.size + 1 + 1, 0, none⟩ v).cell? ⟨w.heap.size, 0, none⟩ = some (.slice A n c) ∧ (w'.setCell ⟨w.heap.size + 1 + 1, 0, none⟩ v).cell? ⟨w.heap.size + 1, 0, none⟩ = some (.slice A' m d)) :=
    fun w' v h => ⟨(cell_far w' _ _ _ (by simp; omega)).trans (KS.out _ h).1, (cell_far w' _ _ _ (by simp)).trans (KS.out _ h).2⟩
  go_region_held3 (fun w' => w'.cell? ⟨w.heap.size, 0, none⟩ = some (.slice A n c) ∧ w'.cell? ⟨w.heap.size + 1, 0, none⟩ = some (.slice A' m d))
    (first | exact KS.out _ hbC | exact KS.out _ hbB | exact KS.out _ hbA | exact KS.out _ ((Below.refl _ _).drew) | exact KD.out _ _ hbC)
    (first
      | (go_at_call_of 72 (Value.slice A n c); refine (canon_any A n c xs _ (hrW.below ((Below.refl _ _).drew)) hn hc (by omega) HX.out).mono ?_; rintro e w1 ⟨A1, n1, c1, rfl, hr1, hn1, hc1, hb1⟩; have hbA : Below W.heap.size W w1 := ((Below.refl _ _).drew).trans hb1)
      | (go_at_call_of 72 (Value.slice A' m d); refine (canon_any A' m d ys _ (hrW'.below hbA) hm hd (by omega) HY.out).mono ?_; rintro e w2 ⟨A2, n2, c2, rfl, hr2, hn2, hc2, hb2⟩; have hbB : Below W.heap.size W w2 := hbA.trans (hb2.mono hbA.size); have hl1 : n1 ≤ n + 1 := dig_len_u32 hr1.len hr.len HX.out; have hl2 : n2 ≤ m + 1 := dig_len_u32 hr2.len hr'.len HY.out)
      | (go_at_call 83; refine (product_any A1 n1 c1 (dig B9 (val B9 xs)) A2 n2 c2 (dig B9 (val B9 ys)) _ (hr1.below hb2) (dig_lt B9 (by decide) _) (by omega) hr2 (dig_lt B9 (by decide) _) (by omega) T (by rw [val_dig B9 (by decide), val_dig B9 (by decide)]; exact HT.out)).mono ?_; rintro e w3 ⟨A3, n3, c3, rfl, hr3, hn3, hc3, hb3⟩; have hbC : Below W.heap.size W w3 := hbB.trans (hb3.mono hbB.size); obtain ⟨hcl, hfl⟩ := KC.out _ hbC))
  go_wp2
  refine bodyPost_ret (v := .agg #[.slice A3 n3 c3]) (by simp [results, Tryz.results52, go_sem, hcl]) rfl ?_
  exact fin_struct hW hbC (by omega) H3.out hr3 hn3 hc3
end Go.Proofs.YtoeknkakdoemfaaGreatDoor
