/- The reference's Levels. -/
import Derived.Test.YtgmdfaamheblmaaPROr
namespace Go.Proofs.Ytgmdfaamheblmaa
open Go Go.RowKit PM

theorem foldl_next {bs : List (Nat × Nat)} {k : Nat} {p : Nat × Nat} (L : Nat → Nat) (h : bs[k]? = some p) : (bs.take (k + 1)).foldl relax L = relax ((bs.take k).foldl relax L) p := by
  rw [take_nextA h, List.foldl_append]; rfl
set_option maxHeartbeats 2000000 in
theorem rlev_v (n : Int) (A : Option Addr) (m c : Nat) (l : List (Int × Int)) (w : World) (hx : YL w A m l) (hv : vB n l = false) :
    Calls Try.prog 27 #[.int .i64 n, .slice A m c] w (GivesL [] 1 w) := by
  have HX := hide hx
  have HV := hide hv
  clear hx hv
  go_enter Try.func27, Try.ntmps27
  go_wp2_with fail
  refine (rvalid_any n A m c l _ HX.out false HV.out).mono ?_
  rintro e w1 ⟨rfl, B⟩
  go_wp2_with fail
  refine bodyPost_ret (v := .tuple #[.slice none 0 0, .int .i64 1]) (by simp [results, Try.results27, go_sem]) rfl ?_
  exact GivesL.nil B
set_option maxHeartbeats 2000000 in
theorem rlev_c (n : Int) (A : Option Addr) (m c : Nat) (l : List (Int × Int)) (w : World) (hx : YL w A m l) (hv : vB n l = true) (ha : acB n l = false) :
    Calls Try.prog 27 #[.int .i64 n, .slice A m c] w (GivesL [] 11 w) := by
  have HX := hide hx
  have HV := hide hv
  have HA := hide ha
  clear hx hv ha
  go_enter Try.func27, Try.ntmps27
  go_wp2_with fail
  refine (rvalid_any n A m c l _ HX.out true HV.out).mono ?_
  rintro e w1 ⟨rfl, B⟩
  go_wp2_with fail
  refine (racyclic_any n A m c l _ (HX.out.keep B) false HA.out).mono ?_
  rintro e w2 ⟨rfl, hb⟩
  have B := B.trans (hb.mono B.size)
  go_wp2_with fail
  refine bodyPost_ret (v := .tuple #[.slice none 0 0, .int .i64 11]) (by simp [results, Try.results27, go_sem]) rfl ?_
  exact GivesL.nil B
set_option maxHeartbeats 16000000 in
theorem rlev_y (n : Nat) (A : Option Addr) (m c : Nat) (bs : List (Nat × Nat)) (w : World) (hx : YL w A m (bs.map zA)) (hd : Dig n bs) (d : List Nat) (hdd : ord n (adj bs) = d) (hl : d.length = n) :
    Calls Try.prog 27 #[.int .i64 (n : Int), .slice A m c] w (GivesL (lvL n (lvS n (adj bs) d)) 0 w) := by
  have HX := hide hx
  have HV := hide (vB_of hd)
  have HD := hide hd
  have hn := hd.le
  have hml : m ≤ 576 := by have := hd.len576; have := hx.1; simp at this; omega
  have HBL := hide (show bs.length ≤ m from by have := hx.1; simp at this; omega)
  have HA := hide (show acB n (bs.map zA) = true from by
    unfold acB
    rw [vB_of hd, nA_zA, Int.toNat_natCast, hdd]
    exact decide_eq_true hl)
  have hbeg := ord_beg n (adj bs)
  rw [hdd] at hbeg
  have hlev := lvS_lev hd.adj hbeg hl
  have HM := hide (show ∀ j, lvS n (adj bs) d j ≤ 24 from fun j => by have := lvS_le n (adj bs) d j; omega)
  have HRB := hide (show ∀ k j, rounds bs k j ≤ lvS n (adj bs) d j from rounds_b hlev fun p hp => adj_iff.2 hp)
  have HFB := hide (show ∀ k i j, (bs.take i).foldl relax (rounds bs k) j ≤ lvS n (adj bs) d j from fun k i => round_b hlev (bs.take i) _ (fun p hp => adj_iff.2 (List.mem_of_mem_take hp)) (rounds_b hlev (fun p hp => adj_iff.2 hp) k))
  have HE := hide (show ∀ j, j < n → rounds bs n j = lvS n (adj bs) d j from fun j hj => by
    have h1 := rounds_min hd.adj hlev (fun i j h => adj_iff.1 h) n j hj
    have h2 := rounds_b hlev (fun p hp => adj_iff.2 hp) n j
    have h3 := lev_n hd.adj hbeg hl hlev hj
    omega)
  clear hx hd hdd hl hbeg hlev
  go_enter Try.func27, Try.ntmps27
  go_wp2_with fail
  refine (rvalid_any n A m c _ _ HX.out true HV.out).mono ?_
  rintro e w1 ⟨rfl, B⟩
  go_wp2_with fail
  refine (racyclic_any n A m c _ _ (HX.out.keep B) true HA.out).mono ?_
  rintro e w2 ⟨rfl, hb⟩
  have B := B.trans (hb.mono B.size)
  clear hb
  go_wp2_with (at_make; refine wpList_make_zero _ rfl _ _ 33 rfl 3 .i64 8 Try.underlying33 int_info .i64 .i64 _ _ n rfl rfl rfl rfl (by omega) (by omega) ?_; intro g9 w9 hg9 ho9 hb9)
  rw [lvL_zero] at ho9
  have HWG := hide (show w.heap.size ≤ g9 from Nat.le_trans B.size hg9)
  have B9 := B.trans (hb9.mono B.size)
  go_loopw [7] (fun v7 wr => ∃ (k : Nat), k ≤ n ∧ v7 = .int .i64 ((k : Nat) : Int) ∧ Below w.heap.size w wr ∧ Own wr g9 .i64 3 (lvL n (rounds bs k))) (fun v7 _ => n - (RowKit.intOf v7).toNat)
  case atStart => exact ⟨0, by omega, rfl, B9, ho9⟩
  case round =>
    clear hb9 ho9 B9 B hg9
    obtain ⟨k, hk, rfl, B, ho⟩ := hrel
    by_cases hlt : k < n
    · have hkn : (k : Int) < (n : Int) := by omega
      go_wp2_with fail
      go_loopw [8] (fun v8 wr => ∃ (i : Nat), i ≤ m ∧ v8 = .int .i64 ((i : Nat) : Int) ∧ Below w.heap.size w wr ∧ Own wr g9 .i64 3 (lvL n ((bs.take i).foldl relax (rounds bs k)))) (fun v8 _ => m - (RowKit.intOf v8).toNat)
      case atStart => exact ⟨0, by omega, rfl, B, ho⟩
      case round =>
        clear B ho
        obtain ⟨i, hi, rfl, B, ho⟩ := hrel
        by_cases hlt2 : i < m
        · obtain ⟨b, o, y, rfl, hbl, hy, k0, k1⟩ := (HX.out.keep B).at_ hlt2
          obtain ⟨⟨p, q⟩, hp, rfl⟩ := zA_at hy
          have hf := HD.out.fits _ (List.mem_of_getElem? hp)
          simp only at hf
          obtain ⟨hpn, hqn, -⟩ := hf
          simp only [zA] at k0 k1
          obtain ⟨L, hL⟩ : ∃ L, (bs.take i).foldl relax (rounds bs k) = L := ⟨_, rfl⟩
          have HN := hide (show (bs.take (i + 1)).foldl relax (rounds bs k) = relax L (p, q) from by rw [foldl_next _ hp, hL])
          have q1 : L p ≤ 24 := by rw [← hL]; exact Nat.le_trans (HFB.out k i p) (HM.out p)
          rw [hL] at ho
          have y0 := ho.cell (lvL_at L hpn)
          have y1 := ho.cell (lvL_at L hqn)
          have y2 := ho.frozen q
          have i1 : (0 : Int) ≤ (p : Int) := by omega
          have i2 : (p : Int) < (n : Int) := by omega
          have i3 : (0 : Int) ≤ (q : Int) := by omega
          have i4 : (q : Int) < (n : Int) := by omega
          have j1 : (0 : Int) ≤ (i : Int) := by omega
          have j2 : (i : Int) < (m : Int) := by omega
          have HW := hide (show relax L (p, q) q = max (L q) (L p + 1) from upd_same _ _ _)
          obtain ⟨x, hx⟩ : ∃ x, L p = x := ⟨_, rfl⟩
          obtain ⟨y, hy'⟩ : ∃ y, L q = y := ⟨_, rfl⟩
          rw [hx] at y0 q1 HW
          rw [hy'] at y1 HW
          clear hx hy' hy hp hL
          go_wp2_with fail
          refine wp_region_still_tail 25 (by kernel_rfl) (by kernel_rfl) ?_
          simp only [List.take_succ_cons, List.take_zero, List.drop_succ_cons, List.drop_zero]
          iterate 25 still_step
          refine wpStill_nil ?_
          change wpList _ _ _ _ _ wr.drew
          go_wp2_with fail
          go_roundw
          case measure => simp [RowKit.intOf]; omega
          case rel =>
            refine ⟨i + 1, by omega, by go_num, (B.setCell HWG.out _).drew, ?_⟩
            have hp := ho.put q (max_cast y x)
            rw [lvL_set (M := relax L (p, q)) HW.out (fun j h => (upd_ne h).symm)] at hp
            rw [HN.out]
            exact hp
        · obtain rfl : i = m := by omega
          have HF := hide (show lvL n ((bs.take i).foldl relax (rounds bs k)) = lvL n (rounds bs (k + 1)) from by rw [List.take_of_length_le HBL.out]; rfl)
          have d2 : decide ((i : Int) < (i : Int)) = false := decide_eq_false (by omega)
          go_wp2_with fail
          go_roundw
          case measure => simp [RowKit.intOf]; omega
          case rel => exact ⟨k + 1, by omega, by go_num, B, ho.cast HF.out⟩
    · obtain rfl : k = n := by omega
      obtain ⟨S, hS⟩ : ∃ S, lvS k (adj bs) d = S := ⟨_, rfl⟩
      have HF := hide (show lvL k (rounds bs k) = lvL k S from lvL_ext fun j hj => by rw [HE.out j hj, hS])
      have HS := hide hS
      have ho := ho.cast HF.out
      have d2 : decide ((k : Int) < (k : Int)) = false := decide_eq_false (by omega)
      clear hlt hS
      go_wp2_with fail
      refine bodyPost_ret (v := .tuple #[.slice (some ⟨g9, 0, none⟩) k k, .int .i64 0]) (by simp [results, Try.results27, go_sem]) rfl ?_
      have hr9 := ho.rl (lvL_len k S)
      rw [HS.out]
      exact ⟨⟨some ⟨g9, 0, none⟩, k, by rw [lvL_len], by rw [lvL_len]; exact hr9, by rw [lvL_len]; exact Nat.le_refl _, by unfold maxLen; omega⟩, B⟩
theorem rlevels_any (n : Int) (A : Option Addr) (m c : Nat) (l : List (Int × Int)) (w : World) (hx : YL w A m l) (xs : List Nat) (er : Int) (hr : resV n l = (xs, er)) :
    Calls Try.prog 27 #[.int .i64 n, .slice A m c] w (GivesL xs er w) := by
  unfold resV at hr
  rcases hv : vB n l with _ | _
  · have e : resO n l = ([], 1) := by unfold resO; rw [hv]; rfl
    rw [e, if_neg (show ¬ (1 : Int) = 0 by decide)] at hr
    cases hr
    exact rlev_v n A m c l w hx hv
  · obtain ⟨N, bs, rfl, rfl, hd⟩ := vB_true hv
    have hln := (ord_beg N (adj bs)).len
    by_cases h : (ord N (adj bs)).length < N
    · have e : resO N (bs.map zA) = ([], 11) := by unfold resO; rw [hv, if_pos rfl, nA_zA, Int.toNat_natCast, if_pos h]
      rw [e, if_neg (show ¬ (11 : Int) = 0 by decide)] at hr
      cases hr
      refine rlev_c N A m c _ w hx hv ?_
      unfold acB
      rw [hv, nA_zA, Int.toNat_natCast]
      exact decide_eq_false (by omega)
    · have e : resO N (bs.map zA) = (ord N (adj bs), 0) := by unfold resO; rw [hv, if_pos rfl, nA_zA, Int.toNat_natCast, if_neg h]
      rw [e, if_pos rfl, nA_zA, Int.toNat_natCast] at hr
      cases hr
      exact rlev_y N A m c bs w hx hd _ rfl (by show (ord N (adj bs)).length = N; omega)
end Go.Proofs.Ytgmdfaamheblmaa
