/- Densest and Fixed. -/
import Derived.Test.YtfhidmlceemhaaaAH
namespace Go.Proofs.Ytfhidmlceemhaaa
open Go Go.RowKit Go.Lib
open AM
theorem chkX_sub {l : List Int} (h : chkX l = 0) : l.length ≤ 64 ∧ l.all hrX = true := chkX_ok.1 h
set_option maxHeartbeats 4000000 in
theorem den_any (A : Option Addr) (n c : Nat) (l : List Int) (k : Int) (w : World) (hr : IS w A n l) :
    Calls Try.prog 26 #[.slice A n c, .int .i64 k] w (R3 (DenP l k.toNat) (chkDX l k) w) := by
  have HR := hide hr
  clear hr
  obtain ⟨r, hrr⟩ : ∃ r, chkX l = r := ⟨_, rfl⟩
  have hc := chkX_cases l
  rw [hrr] at hc
  have H := hide hrr
  clear hrr
  by_cases h0 : r = 0
  · subst h0
    have HL := hide (chkX_sub H.out)
    have HC := hide (cR10_ok H.out)
    clear hc
    by_cases hk1 : 1 ≤ k
    · by_cases hk2 : k ≤ 12
      · rw [show chkDX l k = 0 from by unfold chkDX; rw [if_pos H.out, if_pos ⟨hk1, hk2⟩]]
        obtain ⟨q, rfl⟩ : ∃ q : Nat, k = (q : Int) := ⟨k.toNat, by omega⟩
        have d1 : decide ((q : Int) < 1) = false := decide_eq_false (by omega)
        have d2 : decide ((q : Int) > 12) = false := decide_eq_false (by omega)
        have d3 : decide ((12 : Int) < (q : Int)) = false := decide_eq_false (by omega)
        rw [Int.toNat_natCast]
        go_enter Try.func26, Try.ntmps26
        go_wp2_with fail
        refine (count_any A n c l _ HR.out).mono ?_
        rintro e w1 ⟨rfl, hb⟩
        rw [H.out, HC.out]
        have F := boxC1 (rfl : w1.alloc (.cells _ 41) = _) [] zeros12
        have Fs := F.2.1.setRow l
        have Fb := below_rowC F.1 (Nat.le_refl _) (cX l)
        go_wp2_with (first | (refine wpList_store_row rfl 41 _ _ rfl w1.heap.size _ rfl rfl 41 _ F.2.1.row (cX_info _) (by rw [cX_size, cX_size]) (cX_one _) ?_) | (refine wpList_load_row rfl 41 _ rfl w1.heap.size rfl 41 _ (0, 0) _ Fs.row Try.underlying41 rfl (cX_info _) ?_))
        refine (densest_any l HL.out.1 HL.out.2 q (by omega) _).mono ?_
        rintro e w2 ⟨h, m, rfl, hp, hb2⟩
        go_wp2_with fail
        go_ret3
        exact ⟨h, m, rfl, fun _ => hp, fun h => absurd rfl h, nxt hb (nxt Fb hb2)⟩
      · rw [show chkDX l k = 2 from by unfold chkDX; rw [if_pos H.out, if_neg (fun h => hk2 h.2)]]
        have d1 : decide (k < 1) = false := decide_eq_false (by omega)
        have d2 : decide (k > 12) = true := decide_eq_true (by omega)
        have d3 : decide ((12 : Int) < k) = true := decide_eq_true (by omega)
        go_enter Try.func26, Try.ntmps26
        go_wp2_with fail
        refine (count_any A n c l _ HR.out).mono ?_
        rintro e w1 ⟨rfl, hb⟩
        rw [H.out, HC.out]
        have F := boxC1 (rfl : w1.alloc (.cells _ 41) = _) [] zeros12
        have Fb := below_rowC F.1 (Nat.le_refl _) (cX l)
        go_wp2_with (first | (refine wpList_store_row rfl 41 _ _ rfl w1.heap.size _ rfl rfl 41 _ F.2.1.row (cX_info _) (by rw [cX_size, cX_size]) (cX_one _) ?_))
        go_ret3
        exact ⟨0, 0, rfl, fun h => absurd h (by decide), fun _ => ⟨rfl, rfl⟩, nxt hb Fb⟩
    · rw [show chkDX l k = 2 from by unfold chkDX; rw [if_pos H.out, if_neg (fun h => hk1 h.1)]]
      have d1 : decide (k < 1) = true := decide_eq_true (by omega)
      go_enter Try.func26, Try.ntmps26
      go_wp2_with fail
      refine (count_any A n c l _ HR.out).mono ?_
      rintro e w1 ⟨rfl, hb⟩
      rw [H.out, HC.out]
      have F := boxC1 (rfl : w1.alloc (.cells _ 41) = _) [] zeros12
      have Fb := below_rowC F.1 (Nat.le_refl _) (cX l)
      go_wp2_with (first | (refine wpList_store_row rfl 41 _ _ rfl w1.heap.size _ rfl rfl 41 _ F.2.1.row (cX_info _) (by rw [cX_size, cX_size]) (cX_one _) ?_))
      go_ret3
      exact ⟨0, 0, rfl, fun h => absurd h (by decide), fun _ => ⟨rfl, rfl⟩, nxt hb Fb⟩
  · rw [show chkDX l k = r from by unfold chkDX; rw [H.out, if_neg h0]]
    obtain ⟨M, hM⟩ := cR10_cX l
    have HM := hide hM
    clear hM
    rcases hc with rfl | rfl | rfl
    · exact absurd rfl h0
    all_goals
      clear h0
      go_enter Try.func26, Try.ntmps26
      go_wp2_with fail
      refine (count_any A n c l _ HR.out).mono ?_
      rintro e w1 ⟨rfl, hb⟩
      rw [H.out, HM.out]
      have F := boxC1 (rfl : w1.alloc (.cells _ 41) = _) [] zeros12
      have Fb := below_rowC F.1 (Nat.le_refl _) (cX M)
      go_wp2_with (first | (refine wpList_store_row rfl 41 _ _ rfl w1.heap.size _ rfl rfl 41 _ F.2.1.row (cX_info _) (by rw [cX_size, cX_size]) (cX_one _) ?_))
      go_ret3
      exact ⟨0, 0, rfl, fun h => absurd h (by decide), fun _ => ⟨rfl, rfl⟩, nxt hb Fb⟩
theorem fixX_no {l : List Int} {t : Int} (h : ¬ (chkSX l = 0 ∧ 0 ≤ t ∧ t ≤ 6)) : fixX l t = false := by
  unfold fixX; rw [decide_eq_false h]; rfl
theorem fixX_yes {l : List Int} {t : Int} (h : chkSX l = 0 ∧ 0 ≤ t ∧ t ≤ 6) {k : Nat} (hk : k < 12) (hn : nearX l k t = true) : fixX l t = true := by
  unfold fixX
  rw [decide_eq_true h, Bool.true_and, List.any_eq_true]
  exact ⟨k, List.mem_range.2 hk, hn⟩
theorem fixX_none {l : List Int} {t : Int} (H : ∀ k, k < 12 → nearX l k t = false) : fixX l t = false := by
  unfold fixX
  rw [Bool.and_eq_false_iff]
  refine .inr ?_
  rw [List.any_eq_false]
  intro k hk
  rw [H k (List.mem_range.1 hk)]
  decide
set_option maxHeartbeats 4000000 in
theorem fixed_any (A : Option Addr) (n c : Nat) (l : List Int) (t : Int) (w : World) (hr : IS w A n l) :
    Calls Try.prog 28 #[.slice A n c, .int .i64 t] w fun e w' => e = .returned (.bool (fixX l t)) ∧ Below w.heap.size w w' := by
  have HR := hide hr
  clear hr
  obtain ⟨r, hrr⟩ : ∃ r, chkSX l = r := ⟨_, rfl⟩
  have hc := chkSX_cases l
  rw [hrr] at hc
  have H := hide hrr
  clear hrr
  obtain ⟨M, hM⟩ := cR10_cX l
  have HM := hide hM
  clear hM
  by_cases h0 : r = 0
  · subst h0
    have HL := hide (chkSX_sub H.out)
    have HC := hide (cR10_ok (chkSX_ok.1 H.out).2)
    clear hc
    by_cases ht1 : 0 ≤ t
    · by_cases ht2 : t ≤ 6
      · obtain ⟨q, rfl⟩ : ∃ q : Nat, t = (q : Int) := ⟨t.toNat, by omega⟩
        have d1 : decide ((q : Int) < 0) = false := decide_eq_false (by omega)
        have d2 : decide ((q : Int) > 6) = false := decide_eq_false (by omega)
        have d3 : decide ((6 : Int) < (q : Int)) = false := decide_eq_false (by omega)
        go_enter Try.func28, Try.ntmps28
        go_wp2_with fail
        refine (some_any A n c l _ HR.out).mono ?_
        rintro e w1 ⟨rfl, hb⟩
        rw [H.out, HC.out]
        have F := boxC1 (rfl : w1.alloc (.cells _ 41) = _) [] zeros12
        have Fs := F.2.1.setRow l
        have Fb := nxt hb (below_rowC F.1 (Nat.le_refl _) (cX l))
        go_wp2_with (first | (refine wpList_store_row rfl 41 _ _ rfl w1.heap.size _ rfl rfl 41 _ F.2.1.row (cX_info _) (by rw [cX_size, cX_size]) (cX_one _) ?_))
        generalize World.setRow _ _ _ = W5 at *
        have hg : w.heap.size ≤ w1.heap.size := hb.size
        generalize w1.heap.size = g at *
        clear F hb
        go_loopw [23] (fun a wr => ∃ k : Nat, k ≤ 12 ∧ a = .int .i64 (k : Int) ∧ Hid (∀ j, j < k → nearX l j (q : Int) = false) ∧ Hid (OC wr g l) ∧ Hid (Below w.heap.size w wr)) (fun a _ => 12 - (RowKit.intOf a).toNat)
        case atStart => exact ⟨0, Nat.zero_le _, rfl, hide (fun j hj => by omega), Fs, Fb⟩
        case round =>
          clear Fs Fb
          obtain ⟨k, hk, rfl, HN, HO, HB⟩ := hrel
          by_cases hlt : k < 12
          · have d4 : decide ((k : Int) < 12) = true := decide_eq_true (by omega)
            go_wp2_with (first | (refine wpList_load_row rfl 41 _ rfl g rfl 41 _ (0, 0) _ HO.out.row Try.underlying41 rfl (cX_info _) ?_))
            refine (far_any l HL.out.1 k hlt _).mono ?_
            rintro e w2 ⟨m, rfl, hm, hb2⟩
            have HQ := hide ((hm q).trans (near_ct HL.out.2 hlt))
            have HO1 := hide (HO.out.below' hb2)
            have HB1 := hide (nxt HB.out hb2)
            clear hm hb2 HO HB
            by_cases hmq : m ≤ q
            · have d5 : decide ((m : Int) ≤ (q : Int)) = true := decide_eq_true (by omega)
              have HV := hide (show fixX l (q : Int) = true from fixX_yes ⟨H.out, ht1, ht2⟩ hlt (HQ.out.1 hmq))
              clear HQ
              go_wp2_with fail
              go_ret
              exact ⟨by rw [HV.out]; rfl, HB1.out⟩
            · have d5 : decide ((m : Int) ≤ (q : Int)) = false := decide_eq_false (by omega)
              have HV := hide (show nearX l k (q : Int) = false from Bool.eq_false_iff.2 fun hx => hmq (HQ.out.2 hx))
              clear HQ
              go_wp2_with fail
              go_roundw
              case measure => simp [RowKit.intOf]; omega
              case rel =>
                refine ⟨k + 1, by omega, by go_num, hide (fun j hj => ?_), HO1, HB1⟩
                by_cases hjk : j < k
                · exact HN.out j hjk
                · obtain rfl : j = k := by omega
                  exact HV.out
          · obtain rfl : k = 12 := by omega
            have HV := hide (fixX_none HN.out)
            go_wp2_with fail
            go_ret
            exact ⟨by rw [HV.out]; rfl, HB.out⟩
      · have HV := hide (show fixX l t = false from fixX_no fun h => ht2 h.2.2)
        have d1 : decide (t < 0) = false := decide_eq_false (by omega)
        have d2 : decide (t > 6) = true := decide_eq_true (by omega)
        have d3 : decide ((6 : Int) < t) = true := decide_eq_true (by omega)
        go_enter Try.func28, Try.ntmps28
        go_wp2_with fail
        refine (some_any A n c l _ HR.out).mono ?_
        rintro e w1 ⟨rfl, hb⟩
        rw [H.out, HC.out]
        have F := boxC1 (rfl : w1.alloc (.cells _ 41) = _) [] zeros12
        have Fb := nxt hb (below_rowC F.1 (Nat.le_refl _) (cX l))
        go_wp2_with (first | (refine wpList_store_row rfl 41 _ _ rfl w1.heap.size _ rfl rfl 41 _ F.2.1.row (cX_info _) (by rw [cX_size, cX_size]) (cX_one _) ?_))
        go_ret
        exact ⟨by rw [HV.out]; rfl, Fb⟩
    · have HV := hide (show fixX l t = false from fixX_no fun h => ht1 h.2.1)
      have d1 : decide (t < 0) = true := decide_eq_true (by omega)
      go_enter Try.func28, Try.ntmps28
      go_wp2_with fail
      refine (some_any A n c l _ HR.out).mono ?_
      rintro e w1 ⟨rfl, hb⟩
      rw [H.out, HC.out]
      have F := boxC1 (rfl : w1.alloc (.cells _ 41) = _) [] zeros12
      have Fb := nxt hb (below_rowC F.1 (Nat.le_refl _) (cX l))
      go_wp2_with (first | (refine wpList_store_row rfl 41 _ _ rfl w1.heap.size _ rfl rfl 41 _ F.2.1.row (cX_info _) (by rw [cX_size, cX_size]) (cX_one _) ?_))
      go_ret
      exact ⟨by rw [HV.out]; rfl, Fb⟩
  · have HV := hide (show fixX l t = false from fixX_no fun h => h0 (H.out.symm.trans h.1))
    rcases hc with rfl | rfl | rfl | rfl
    · exact absurd rfl h0
    all_goals
      clear h0
      go_enter Try.func28, Try.ntmps28
      go_wp2_with fail
      refine (some_any A n c l _ HR.out).mono ?_
      rintro e w1 ⟨rfl, hb⟩
      rw [H.out, HM.out]
      have F := boxC1 (rfl : w1.alloc (.cells _ 41) = _) [] zeros12
      have Fb := nxt hb (below_rowC F.1 (Nat.le_refl _) (cX M))
      go_wp2_with (first | (refine wpList_store_row rfl 41 _ _ rfl w1.heap.size _ rfl rfl 41 _ F.2.1.row (cX_info _) (by rw [cX_size, cX_size]) (cX_one _) ?_))
      go_ret
      exact ⟨by rw [HV.out]; rfl, Fb⟩
end Go.Proofs.Ytfhidmlceemhaaa
