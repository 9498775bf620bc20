/- The contract of natural.Add. -/
import Derived.Test.YtoeknkakdoemfaaGreatDoorBaseA
namespace Go.Proofs.YtoeknkakdoemfaaGreatDoor
open Go Go.RowKit

set_option maxHeartbeats 2000000 in
theorem add_any (A : Option Addr) (n c : Nat) (xs : List Nat) (A' : Option Addr) (m d : Nat) (ys : List Nat) (w : World) (hr : RL w .u32 A n xs) (hn : n ≤ c) (hc : c ≤ maxLen) (hN : n ≤ 900000) (hx : ∀ x ∈ xs, x < 4294967296)
    (hr' : RL w .u32 A' m ys) (hm : m ≤ d) (hd : d ≤ maxLen) (hM : m ≤ 900000) (hy : ∀ x ∈ ys, x < 4294967296) (T : Nat) (hT : val B9 xs + val B9 ys = T) :
    Calls Tryz.prog 51 #[.agg #[.slice A n c], .agg #[.slice A' m d]] w (GivesN T w) := by
  have HX := hide hx
  have HY := hide hy
  clear hx hy
  go_enter Tryz.func51, Tryz.ntmps51
  go_wp2
  have HB := box3 w (.slice A n c) (.slice A' m d) (.slice none 0 0) 24 24 24
  generalize ((w.alloc (Obj.cells #[Value.slice A n c] 24)).alloc (Obj.cells #[Value.slice A' m d] 24)).alloc (Obj.cells #[Value.slice none 0 0] 24) = W at HB ⊢
  obtain ⟨hW, h1, h2, h3, hz⟩ := HB
  have HZ := hide hz
  have H3 := hide h3
  have hz2 : w.heap.size + 2 < W.heap.size := by omega
  clear hz h3
  have hrW := hr.below hW
  have hrW' := hr'.below hW
  have KS : Hid (∀ w', Below W.heap.size W w' → w'.cell? ⟨w.heap.size, 0, none⟩ = some (.slice A n c) ∧ w'.cell? ⟨w.heap.size + 1, 0, none⟩ = some (.slice A' m d) ∧ Below W.heap.size W w') :=
    fun w' h => ⟨(h.cell (p := ⟨w.heap.size, 0, none⟩) (by simp; omega)).trans h1, (h.cell (p := ⟨w.heap.size + 1, 0, none⟩) (by simp; omega)).trans h2, h⟩
  go_region_held3 (fun w' => w'.cell? ⟨w.heap.size, 0, none⟩ = some (.slice A n c) ∧ w'.cell? ⟨w.heap.size + 1, 0, none⟩ = some (.slice A' m d) ∧ Below W.heap.size W w')
    (first | exact KS.out _ hbB | exact KS.out _ hbA | exact KS.out _ ((Below.refl _ _).drew))
    (first
      | (go_at_call_of 72 (Value.slice A n c); refine (canon_any A n c xs _ (hrW.below ((Below.refl _ _).drew)) hn hc (by omega) HX.out).mono ?_; rintro e w1 ⟨A1, n1, c1, rfl, hr1, hn1, hc1, hb1⟩; have hbA : Below W.heap.size W w1 := ((Below.refl _ _).drew).trans hb1)
      | (go_at_call_of 72 (Value.slice A' m d); refine (canon_any A' m d ys _ (hrW'.below hbA) hm hd (by omega) HY.out).mono ?_; rintro e w2 ⟨A2, n2, c2, rfl, hr2, hn2, hc2, hb2⟩; have hbB : Below W.heap.size W w2 := hbA.trans (hb2.mono hbA.size)))
  have hr1' := hr1.below hb2
  have hl1 : n1 ≤ n + 1 := by
    rw [← hr1.len, dig_length_le B9 (by decide)]
    have h1 := val_lt_u32 xs HX.out
    rwa [hr.len] at h1
  have hl2 : n2 ≤ m + 1 := by
    rw [← hr2.len, dig_length_le B9 (by decide)]
    have h1 := val_lt_u32 ys HY.out
    rwa [hr'.len] at h1
  clear hr hr' hrW hrW' hb1 hb2 hbA h1 h2 hr1 KS
  generalize val B9 xs = u1 at *
  generalize val B9 ys = u2 at *
  by_cases hlt : n1 < n2
  · obtain ⟨AL, rfl⟩ : ∃ X, X = A2 := ⟨_, rfl⟩
    obtain ⟨nL, rfl⟩ : ∃ X, X = n2 := ⟨_, rfl⟩
    obtain ⟨cL, rfl⟩ : ∃ X, X = c2 := ⟨_, rfl⟩
    obtain ⟨uL, rfl⟩ : ∃ X, X = u2 := ⟨_, rfl⟩
    obtain ⟨AS, rfl⟩ : ∃ X, X = A1 := ⟨_, rfl⟩
    obtain ⟨nS, rfl⟩ : ∃ X, X = n1 := ⟨_, rfl⟩
    obtain ⟨cS, rfl⟩ : ∃ X, X = c1 := ⟨_, rfl⟩
    obtain ⟨uS, rfl⟩ : ∃ X, X = u1 := ⟨_, rfl⟩
    have HT : Hid (uL + uS = T) := by rw [Nat.add_comm]; exact hT
    have hrL := hr2
    have hrS := hr1'
    have hle : nS ≤ nL := by omega
    have hbd : nL ≤ 900001 := by omega
    clear hT hr2 hr1' hl1 hl2
    go_wp2_with (at_make; refine wpList_make_zero _ rfl _ _ 22 rfl 71 .u32 4 Tryz.underlying22 u32_info .i64 .i64 _ _ (nL + 1) rfl rfl (by go_num) (by go_num) (by omega) (by omega) ?_; intro g w3 hg hown hbel)
    go_loopw [8, 9, 10, 30] (fun c8 _ _ i wr => ∃ (k C : Nat) (zs : List Nat), k ≤ nL ∧ C ≤ 1 ∧ c8 = .int .u32 C ∧ i = .int .i64 k ∧ zs.length = nL + 1 ∧ Own wr g .u32 71 zs ∧ Below w2.heap.size w2 wr ∧
        val B9 (zs.take k) + B9 ^ k * C = val B9 ((dig B9 uL).take k) + val B9 ((dig B9 uS).take k) ∧ ∀ x ∈ zs.take k, x < B9) (fun _ _ _ i _ => nL - (intOf i).toNat)
    case atStart => exact ⟨0, 0, List.replicate (nL + 1) 0, by omega, by omega, rfl, rfl, by simp, hown, hbel, by simp [val], fun x hx => by simp at hx⟩
    case round =>
      obtain ⟨k, C, zs, hk, hC, rfl, rfl, hzl, hzo, hzb, hzv, hzd⟩ := hrel
      clear hown hbel
      have hrL3 := hrL.below hzb
      have hrS3 := hrS.below hzb
      have hgz : g < wr.heap.size := hzo.lt
      have HZL := hide hzl
      have HZV := hide hzv
      have HZD := hide hzd
      have hold : wr.cell? ⟨g, k, none⟩ = some (.int .u32 ((zs[k]?.getD 0 : Nat) : Int)) := hzo.cell (by rw [List.getElem?_eq_getElem (by omega)]; rfl)
      have hfz := hzo.frozen k
      by_cases hkl : k < nL
      · obtain ⟨b, o, x, rfl, hx, hcell⟩ := hrL3.at_ hkl
        have hxb : x < 1000000000 := dig_lt B9 (by decide) uL x (List.mem_of_getElem? hx)
        have HX' := hide hx
        have hkz : k < zs.length := by omega
        by_cases hks : k < nS
        · obtain ⟨b', o', y, rfl, hy, hcell'⟩ := hrS3.at_ hks
          have hyb : y < 1000000000 := dig_lt B9 (by decide) uS y (List.mem_of_getElem? hy)
          have HY' := hide hy
          clear hx hy hzl hzv hzd
          go_wp2
          go_roundw
          case rel =>
            refine ⟨k + 1, (C + x + y) / 1000000000, zs.set k ((C + x + y) % 1000000000), by omega, by omega, by go_num, by go_num, by rw [List.length_set]; exact HZL.out, hzo.put k (by omega), hzb.setCell hg _, ?_, ?_⟩
            · exact add_step hkz HX'.out HY'.out HZV.out
            · exact all_take_set hkz HZD.out (Nat.mod_lt _ (by decide))
          case measure => simp [intOf]; omega
        · have hds : decide (k < nS) = false := by simp; omega
          have HN := hide (add_step_none hkz hx (by rw [hrS.len]; omega) hzv)
          clear hx hzl hzv hzd
          go_wp2
          go_roundw
          case rel =>
            refine ⟨k + 1, (C + x) / 1000000000, zs.set k ((C + x) % 1000000000), by omega, by omega, by go_num, by go_num, by rw [List.length_set]; exact HZL.out, hzo.put k (by omega), hzb.setCell hg _, HN.out, ?_⟩
            exact all_take_set hkz HZD.out (Nat.mod_lt _ (by decide))
          case measure => simp [intOf]; omega
      · obtain rfl : k = nL := by omega
        have HE : Hid (trimL (zs.set k C) = dig B9 T) := by
          refine last_limb (by decide) HZL.out ?_ HZD.out (by show C < 1000000000; omega)
          rw [HZV.out, val_take_dig B9 (by decide) uL _ (by rw [hrL.len]; exact Nat.le_refl _), val_take_dig B9 (by decide) uS _ (by rw [hrS.len]; exact hle), HT.out]
        have hw : ∀ v : Int, v = (C : Int) → Own (wr.setCell ⟨g, k, none⟩ (.int .u32 v)) g .u32 71 (zs.set k C) := fun v e => hzo.put k e
        have HW := hide hw
        have hb5 : Below W.heap.size W wr := hbB.trans (hzb.mono hbB.size)
        have hcl : wr.cell? ⟨w.heap.size + 2, 0, none⟩ = some (.slice none 0 0) := (hb5.cell (p := ⟨w.heap.size + 2, 0, none⟩) hz2).trans (by rw [cell_of_row _ _ _ _ _ _ H3.out]; rfl)
        have hfl : wr.frozen? ⟨w.heap.size + 2, 0, none⟩ = false := (hb5.frozen (p := ⟨w.heap.size + 2, 0, none⟩) hz2).trans (frozen_of_row _ _ _ _ _ H3.out)
        have hgne : w.heap.size + 2 < g := by have := hbB.size; omega
        have hb6 : Below W.heap.size W (wr.setCell ⟨g, k, none⟩ (.int .u32 (C : Int))) := hb5.setCell (by have := hbB.size; exact Nat.le_trans this hg) _
        clear hzl hzv hzd hw hrL3 hrS3
        go_wp2_with fail
        have ho := HW.out _ rfl
        refine (trim_any _ (k + 1) (k + 1) (zs.set k C) _ (ho.rl (by rw [List.length_set]; exact HZL.out)) (Nat.le_refl _) (by unfold maxLen; omega)).mono ?_
        rintro e w' ⟨rfl, rfl⟩
        have h3 := ho.trim (n := k + 1) HE.out (by rw [List.length_set]; exact HZL.out)
        rw [HE.out]
        go_wp2
        refine bodyPost_ret (v := .agg #[.slice (some ⟨g, 0, none⟩) (dig B9 T).length (k + 1)]) (by simp [results, Tryz.results51, go_sem, hcl]) rfl ?_
        exact fin_struct hW hb6 (by omega) H3.out h3.1 h3.2 (by unfold maxLen; omega)
  · obtain ⟨AL, rfl⟩ : ∃ X, X = A1 := ⟨_, rfl⟩
    obtain ⟨nL, rfl⟩ : ∃ X, X = n1 := ⟨_, rfl⟩
    obtain ⟨cL, rfl⟩ : ∃ X, X = c1 := ⟨_, rfl⟩
    obtain ⟨uL, rfl⟩ : ∃ X, X = u1 := ⟨_, rfl⟩
    obtain ⟨AS, rfl⟩ : ∃ X, X = A2 := ⟨_, rfl⟩
    obtain ⟨nS, rfl⟩ : ∃ X, X = n2 := ⟨_, rfl⟩
    obtain ⟨cS, rfl⟩ : ∃ X, X = c2 := ⟨_, rfl⟩
    obtain ⟨uS, rfl⟩ : ∃ X, X = u2 := ⟨_, rfl⟩
    have HT : Hid (uL + uS = T) := hT
    have hrS := hr2
    have hrL := hr1'
    have hle : nS ≤ nL := by omega
    have hbd : nL ≤ 900001 := by omega
    have hdl : decide (nL < nS) = false := by simp; omega
    clear hT hr2 hr1' hl1 hl2
    go_wp2_with (at_make; refine wpList_make_zero _ rfl _ _ 22 rfl 71 .u32 4 Tryz.underlying22 u32_info .i64 .i64 _ _ (nL + 1) rfl rfl (by go_num) (by go_num) (by omega) (by omega) ?_; intro g w3 hg hown hbel)
    go_loopw [8, 9, 10, 30] (fun c8 _ _ i wr => ∃ (k C : Nat) (zs : List Nat), k ≤ nL ∧ C ≤ 1 ∧ c8 = .int .u32 C ∧ i = .int .i64 k ∧ zs.length = nL + 1 ∧ Own wr g .u32 71 zs ∧ Below w2.heap.size w2 wr ∧
        val B9 (zs.take k) + B9 ^ k * C = val B9 ((dig B9 uL).take k) + val B9 ((dig B9 uS).take k) ∧ ∀ x ∈ zs.take k, x < B9) (fun _ _ _ i _ => nL - (intOf i).toNat)
    case atStart => exact ⟨0, 0, List.replicate (nL + 1) 0, by omega, by omega, rfl, rfl, by simp, hown, hbel, by simp [val], fun x hx => by simp at hx⟩
    case round =>
      obtain ⟨k, C, zs, hk, hC, rfl, rfl, hzl, hzo, hzb, hzv, hzd⟩ := hrel
      clear hown hbel
      have hrL3 := hrL.below hzb
      have hrS3 := hrS.below hzb
      have hgz : g < wr.heap.size := hzo.lt
      have HZL := hide hzl
      have HZV := hide hzv
      have HZD := hide hzd
      have hold : wr.cell? ⟨g, k, none⟩ = some (.int .u32 ((zs[k]?.getD 0 : Nat) : Int)) := hzo.cell (by rw [List.getElem?_eq_getElem (by omega)]; rfl)
      have hfz := hzo.frozen k
      by_cases hkl : k < nL
      · obtain ⟨b, o, x, rfl, hx, hcell⟩ := hrL3.at_ hkl
        have hxb : x < 1000000000 := dig_lt B9 (by decide) uL x (List.mem_of_getElem? hx)
        have HX' := hide hx
        have hkz : k < zs.length := by omega
        by_cases hks : k < nS
        · obtain ⟨b', o', y, rfl, hy, hcell'⟩ := hrS3.at_ hks
          have hyb : y < 1000000000 := dig_lt B9 (by decide) uS y (List.mem_of_getElem? hy)
          have HY' := hide hy
          clear hx hy hzl hzv hzd
          go_wp2
          go_roundw
          case rel =>
            refine ⟨k + 1, (C + x + y) / 1000000000, zs.set k ((C + x + y) % 1000000000), by omega, by omega, by go_num, by go_num, by rw [List.length_set]; exact HZL.out, hzo.put k (by omega), hzb.setCell hg _, ?_, ?_⟩
            · exact add_step hkz HX'.out HY'.out HZV.out
            · exact all_take_set hkz HZD.out (Nat.mod_lt _ (by decide))
          case measure => simp [intOf]; omega
        · have hds : decide (k < nS) = false := by simp; omega
          have HN := hide (add_step_none hkz hx (by rw [hrS.len]; omega) hzv)
          clear hx hzl hzv hzd
          go_wp2
          go_roundw
          case rel =>
            refine ⟨k + 1, (C + x) / 1000000000, zs.set k ((C + x) % 1000000000), by omega, by omega, by go_num, by go_num, by rw [List.length_set]; exact HZL.out, hzo.put k (by omega), hzb.setCell hg _, HN.out, ?_⟩
            exact all_take_set hkz HZD.out (Nat.mod_lt _ (by decide))
          case measure => simp [intOf]; omega
      · obtain rfl : k = nL := by omega
        have HE : Hid (trimL (zs.set k C) = dig B9 T) := by
          refine last_limb (by decide) HZL.out ?_ HZD.out (by show C < 1000000000; omega)
          rw [HZV.out, val_take_dig B9 (by decide) uL _ (by rw [hrL.len]; exact Nat.le_refl _), val_take_dig B9 (by decide) uS _ (by rw [hrS.len]; exact hle), HT.out]
        have hw : ∀ v : Int, v = (C : Int) → Own (wr.setCell ⟨g, k, none⟩ (.int .u32 v)) g .u32 71 (zs.set k C) := fun v e => hzo.put k e
        have HW := hide hw
        have hb5 : Below W.heap.size W wr := hbB.trans (hzb.mono hbB.size)
        have hcl : wr.cell? ⟨w.heap.size + 2, 0, none⟩ = some (.slice none 0 0) := (hb5.cell (p := ⟨w.heap.size + 2, 0, none⟩) hz2).trans (by rw [cell_of_row _ _ _ _ _ _ H3.out]; rfl)
        have hfl : wr.frozen? ⟨w.heap.size + 2, 0, none⟩ = false := (hb5.frozen (p := ⟨w.heap.size + 2, 0, none⟩) hz2).trans (frozen_of_row _ _ _ _ _ H3.out)
        have hgne : w.heap.size + 2 < g := by have := hbB.size; omega
        have hb6 : Below W.heap.size W (wr.setCell ⟨g, k, none⟩ (.int .u32 (C : Int))) := hb5.setCell (by have := hbB.size; exact Nat.le_trans this hg) _
        clear hzl hzv hzd hw hrL3 hrS3
        go_wp2_with fail
        have ho := HW.out _ rfl
        refine (trim_any _ (k + 1) (k + 1) (zs.set k C) _ (ho.rl (by rw [List.length_set]; exact HZL.out)) (Nat.le_refl _) (by unfold maxLen; omega)).mono ?_
        rintro e w' ⟨rfl, rfl⟩
        have h3 := ho.trim (n := k + 1) HE.out (by rw [List.length_set]; exact HZL.out)
        rw [HE.out]
        go_wp2
        refine bodyPost_ret (v := .agg #[.slice (some ⟨g, 0, none⟩) (dig B9 T).length (k + 1)]) (by simp [results, Tryz.results51, go_sem, hcl]) rfl ?_
        exact fin_struct hW hb6 (by omega) H3.out h3.1 h3.2 (by unfold maxLen; omega)
end Go.Proofs.YtoeknkakdoemfaaGreatDoor
