/- The contract of natural.Sub. -/
import Derived.Test.YtoeknkakdoemfaaGreatDoorBaseA
namespace Go.Proofs.YtoeknkakdoemfaaGreatDoor
open Go Go.RowKit

theorem compare_as (r : Int) (A A' : Option Addr) (n m c d : Nat) (u v : Nat) (w : World) (hr : RL w .u32 A n (dig B9 u)) (hr' : RL w .u32 A' m (dig B9 v)) (hn : n ≤ maxLen) (h : cmpI u v = r) :
    Calls Tryz.prog 97 #[.slice A n c, .slice A' m d] w fun e w' => e = .returned (.int .i64 r) ∧ ∃ k, w' = w.drewN k := by
  subst h; exact compare_any A A' n m c d u v w hr hr' hn

def subU (u v : Nat) : Nat := u - v
def subE (u v : Nat) : Int := if u < v then 2 else 0

set_option maxHeartbeats 2000000 in
theorem sub_any (A : Option Addr) (n c : Nat) (xs : List Nat) (A' : Option Addr) (m d : Nat) (ys : List Nat) (w : World) (hr : RL w .u32 A n xs) (hn : n ≤ c) (hc : c ≤ maxLen) (hN : n ≤ 900000) (hx : ∀ x ∈ xs, x < 4294967296)
    (hr' : RL w .u32 A' m ys) (hm : m ≤ d) (hd : d ≤ maxLen) (hM : m ≤ 900000) (hy : ∀ x ∈ ys, x < 4294967296) :
    Calls Tryz.prog 77 #[.agg #[.slice A n c], .agg #[.slice A' m d]] w (GivesNE (subU (val B9 xs) (val B9 ys)) (subE (val B9 xs) (val B9 ys)) w) := by
  have HX := hide hx
  have HY := hide hy
  clear hx hy
  go_enter Tryz.func77, Tryz.ntmps77
  go_wp2
  have HB := box3 w (.slice A n c) (.slice A' m d) (.slice none 0 0) 24 24 24
  generalize ((w.alloc (Obj.cells #[Value.slice A n c] 24)).alloc (Obj.cells #[Value.slice A' m d] 24)).alloc (Obj.cells #[Value.slice none 0 0] 24) = W at HB ⊢
  obtain ⟨hW, h1, h2, h3, hz⟩ := HB
  have HZ := hide hz
  have H3 := hide h3
  have hz2 : w.heap.size + 2 < W.heap.size := by omega
  clear hz h3
  have hrW := hr.below hW
  have hrW' := hr'.below hW
  have KS : Hid (∀ w', Below W.heap.size W w' → w'.cell? ⟨w.heap.size, 0, none⟩ = some (.slice A n c) ∧ w'.cell? ⟨w.heap.size + 1, 0, none⟩ = some (.slice A' m d)) :=
    fun w' h => ⟨(h.cell (p := ⟨w.heap.size, 0, none⟩) (by simp; omega)).trans h1, (h.cell (p := ⟨w.heap.size + 1, 0, none⟩) (by simp; omega)).trans h2⟩
  have KC : Hid (∀ w', Below W.heap.size W w' → w'.cell? ⟨w.heap.size + 2, 0, none⟩ = some (.slice none 0 0) ∧ w'.frozen? ⟨w.heap.size + 2, 0, none⟩ = false) :=
    fun w' h => ⟨(h.cell (p := ⟨w.heap.size + 2, 0, none⟩) hz2).trans (by rw [cell_of_row _ _ _ _ _ _ H3.out]; rfl), (h.frozen (p := ⟨w.heap.size + 2, 0, none⟩) hz2).trans (frozen_of_row _ _ _ _ _ H3.out)⟩
  go_region_held3 (fun w' => w'.cell? ⟨w.heap.size, 0, none⟩ = some (.slice A n c) ∧ w'.cell? ⟨w.heap.size + 1, 0, none⟩ = some (.slice A' m d))
    (first | exact KS.out _ hbB | exact KS.out _ hbA | exact KS.out _ ((Below.refl _ _).drew))
    (first
      | (go_at_call_of 72 (Value.slice A n c); refine (canon_any A n c xs _ (hrW.below ((Below.refl _ _).drew)) hn hc (by omega) HX.out).mono ?_; rintro e w1 ⟨A1, n1, c1, rfl, hr1, hn1, hc1, hb1⟩; have hbA : Below W.heap.size W w1 := ((Below.refl _ _).drew).trans hb1)
      | (go_at_call_of 72 (Value.slice A' m d); refine (canon_any A' m d ys _ (hrW'.below hbA) hm hd (by omega) HY.out).mono ?_; rintro e w2 ⟨A2, n2, c2, rfl, hr2, hn2, hc2, hb2⟩; have hbB : Below W.heap.size W w2 := hbA.trans (hb2.mono hbA.size)))
  have hl1 : n1 ≤ n + 1 := dig_len_u32 hr1.len hr.len HX.out
  have hl2 : n2 ≤ m + 1 := dig_len_u32 hr2.len hr'.len HY.out
  have hr1' := hr1.below hb2
  clear hr hr' hrW hrW' hb1 hb2 hbA h1 h2 hr1 KS
  generalize val B9 xs = u at *
  generalize val B9 ys = v at *
  by_cases huv : u < v
  · have e1 : subE u v = 2 := by simp [subE, huv]
    have e2 : subU u v = 0 := by simp [subU]; omega
    have HE1 := hide e1
    have HE2 := hide e2
    have HC := hide (cmpI_lt huv)
    clear e1 e2 huv
    go_wp2_with fail
    refine (compare_as (-1) A1 A2 n1 n2 c1 c2 u v w2 hr1' hr2 (Nat.le_trans hn1 hc1) HC.out).mono ?_
    rintro e w4 ⟨rfl, k4, rfl⟩
    have hb4 := below_drewN hbB k4
    obtain ⟨hcl, hfl⟩ := KC.out _ hb4
    go_wp2
    refine bodyPost_ret (v := .tuple #[.agg #[.slice none 0 0], .int .i64 2]) (by simp [results, Tryz.results77, go_sem, hcl]) rfl ?_
    rw [HE1.out, HE2.out]
    exact fin_structE (u := 0) (n := 0) (c := 0) hW hb4 (by omega) H3.out RL.nil_ (by omega) (by simp [maxLen])
  · have e1 : subE u v = 0 := by simp [subE]; omega
    have HE1 := hide e1
    have HUV : Hid (v ≤ u) := by show v ≤ u; omega
    have hcmp : ∃ r, cmpI u v = r ∧ 0 ≤ r := by
      rcases Nat.lt_or_ge v u with h | h
      · exact ⟨1, cmpI_gt h, by omega⟩
      · exact ⟨0, cmpI_eq (by omega), by omega⟩
    obtain ⟨r, hc0, hr0⟩ := hcmp
    have HC := hide hc0
    have hle : n2 ≤ n1 := by rw [← hr1'.len, ← hr2.len]; exact dig_mono B9 (by decide) (by omega)
    have hdr : decide (r < 0) = false := by simp; omega
    clear e1 huv hc0
    go_wp2_with fail
    refine (compare_as r A1 A2 n1 n2 c1 c2 u v w2 hr1' hr2 (Nat.le_trans hn1 hc1) HC.out).mono ?_
    rintro e w4 ⟨rfl, k4, rfl⟩
    have hb4 := below_drewN hbB k4
    have hrL := hr1'.drewN k4
    have hrS := hr2.drewN k4
    clear hr1' hr2 hbB
    generalize w2.drewN k4 = w5 at *
    go_wp2_with (at_make; refine wpList_make_zero _ rfl _ _ 22 rfl 71 .u32 4 Tryz.underlying22 u32_info .i64 .i64 _ _ n1 rfl rfl (by go_num) (by go_num) (by omega) (by omega) ?_; intro g w3 hg hown hbel)
    go_loopw [9, 10, 11, 12, 29] (fun c9 _ _ _ i wr => ∃ (k C : Nat) (zs : List Nat), k ≤ n1 ∧ C ≤ 1 ∧ c9 = .int .u32 C ∧ i = .int .i64 k ∧ zs.length = n1 ∧ Own wr g .u32 71 zs ∧ Below w5.heap.size w5 wr ∧
        val B9 (zs.take k) + val B9 ((dig B9 v).take k) = val B9 ((dig B9 u).take k) + B9 ^ k * C ∧ ∀ x ∈ zs.take k, x < B9) (fun _ _ _ _ i _ => n1 - (intOf i).toNat)
    case atStart => exact ⟨0, 0, List.replicate n1 0, by omega, by omega, rfl, rfl, by simp, hown, hbel, by simp [val], fun x hx => by simp at hx⟩
    case round =>
      obtain ⟨k, C, zs, hk, hC, rfl, rfl, hzl, hzo, hzb, hzv, hzd⟩ := hrel
      clear hown hbel
      have hrL3 := hrL.below hzb
      have hrS3 := hrS.below hzb
      have hgz : g < wr.heap.size := hzo.lt
      have HZL := hide hzl
      have HZV := hide hzv
      have HZD := hide hzd
      by_cases hkl : k < n1
      · obtain ⟨b, o, x, rfl, hx, hcell⟩ := hrL3.at_ hkl
        have hxb : x < 1000000000 := dig_lt B9 (by decide) u x (List.mem_of_getElem? hx)
        have hold : wr.cell? ⟨g, k, none⟩ = some (.int .u32 ((zs[k]?.getD 0 : Nat) : Int)) := hzo.cell (by rw [List.getElem?_eq_getElem (by omega)]; rfl)
        have hfz := hzo.frozen k
        have HX' := hide hx
        have hkz : k < zs.length := by omega
        by_cases hks : k < n2
        · obtain ⟨b', o', y, rfl, hy, hcell'⟩ := hrS3.at_ hks
          have hyb : y < 1000000000 := dig_lt B9 (by decide) v y (List.mem_of_getElem? hy)
          have HY' := hide hy
          clear hx hy hzl hzv hzd
          by_cases hxT : x < C + y
          · go_wp2
            go_roundw
            case rel =>
              refine ⟨k + 1, 1, zs.set k (x + 1000000000 - (C + y)), by omega, by omega, by go_num, by go_num, by rw [List.length_set]; exact HZL.out, hzo.put k (by omega), hzb.setCell hg _, ?_, ?_⟩
              · exact sub_step hkz HX'.out HY'.out (by show _ = x + 1000000000 * 1; omega) HZV.out
              · exact all_take_set hkz HZD.out (by show _ < 1000000000; omega)
            case measure => simp [intOf]; omega
          · have hdT : decide (x < C + y) = false := by simp; omega
            go_wp2
            go_roundw
            case rel =>
              refine ⟨k + 1, 0, zs.set k (x - (C + y)), by omega, by omega, by go_num, by go_num, by rw [List.length_set]; exact HZL.out, hzo.put k (by omega), hzb.setCell hg _, ?_, ?_⟩
              · exact sub_step hkz HX'.out HY'.out (by show _ = x + 1000000000 * 0; omega) HZV.out
              · exact all_take_set hkz HZD.out (by show _ < 1000000000; omega)
            case measure => simp [intOf]; omega
        · have hds : decide (k < n2) = false := by simp; omega
          have hnl : (dig B9 v).length ≤ k := by rw [hrS.len]; omega
          have HNL := hide hnl
          clear hx hzl hzv hzd hnl
          by_cases hxT : x < C
          · go_wp2
            go_roundw
            case rel =>
              refine ⟨k + 1, 1, zs.set k (x + 1000000000 - C), by omega, by omega, by go_num, by go_num, by rw [List.length_set]; exact HZL.out, hzo.put k (by omega), hzb.setCell hg _, ?_, ?_⟩
              · exact sub_step_none hkz HX'.out HNL.out (by show _ = x + 1000000000 * 1; omega) HZV.out
              · exact all_take_set hkz HZD.out (by show _ < 1000000000; omega)
            case measure => simp [intOf]; omega
          · have hdT : decide (x < C) = false := by simp; omega
            go_wp2
            go_roundw
            case rel =>
              refine ⟨k + 1, 0, zs.set k (x - C), by omega, by omega, by go_num, by go_num, by rw [List.length_set]; exact HZL.out, hzo.put k (by omega), hzb.setCell hg _, ?_, ?_⟩
              · exact sub_step_none hkz HX'.out HNL.out (by show _ = x + 1000000000 * 0; omega) HZV.out
              · exact all_take_set hkz HZD.out (by show _ < 1000000000; omega)
            case measure => simp [intOf]; omega
      · obtain rfl : k = n1 := by omega
        have HE := hide (show trimL zs = dig B9 (subU u v) from by
          refine sub_end (n := k) (C := C) (by decide) hzl ?_ ?_ HUV.out
          · intro x hx
            exact hzd x (by rwa [List.take_of_length_le (by omega)])
          · rw [List.take_of_length_le (by omega), val_take_dig B9 (by decide) v k (by rw [hrS.len]; exact hle), val_take_dig B9 (by decide) u k (by rw [hrL.len]; exact Nat.le_refl _)] at hzv
            exact hzv)
        have hb6 : Below W.heap.size W wr := hb4.trans (hzb.mono hb4.size)
        obtain ⟨hcl, hfl⟩ := KC.out _ hb6
        clear hzl hzv hzd hrL3 hrS3
        go_wp2_with fail
        refine (trim_any _ k k zs _ (hzo.rl HZL.out) (Nat.le_refl _) (by unfold maxLen; omega)).mono ?_
        rintro e w' ⟨rfl, rfl⟩
        have h3 := hzo.trim (n := k) HE.out HZL.out
        rw [HE.out]
        go_wp2
        refine bodyPost_ret (v := .tuple #[.agg #[.slice (some ⟨g, 0, none⟩) (dig B9 (subU u v)).length k], .int .i64 0]) (by simp [results, Tryz.results77, go_sem, hcl]) rfl ?_
        rw [HE1.out]
        exact fin_structE hW hb6 (by omega) H3.out h3.1 h3.2 (by unfold maxLen; omega)
end Go.Proofs.YtoeknkakdoemfaaGreatDoor
