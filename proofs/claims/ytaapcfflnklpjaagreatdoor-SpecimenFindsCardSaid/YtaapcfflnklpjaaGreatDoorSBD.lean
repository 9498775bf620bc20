/- The body of SpecimenDies. -/
import Derived.Test.YtaapcfflnklpjaaGreatDoorSAw
import Derived.Test.YtaapcfflnklpjaaGreatDoorSQ
import Derived.Test.YtaapcfflnklpjaaGreatDoorSRa
import Derived.Deep.RegionHeld3
namespace Go.Proofs.YtaapcfflnklpjaaGreatDoor
open Go Go.RowKit Go.Lib
theorem of_dec {ys : List Spc} {ids : List Int} {s d : Int} (h : ∃ zs, Srt ys zs ∧ ids = ofS zs s d) {y : Spc} (hy : y ∈ ys) : decide (y.i ∈ ids) = decide ((if s = 0 then y.o else y.r) = d) := by
  obtain ⟨zs, hz, rfl⟩ := h
  exact decide_eq_decide.2 (ofS_mem hz.2.nod (hz.1.mem_iff.2 hy))
theorem of_len {ys : List Spc} {ids : List Int} {s d : Int} (hc : chk ys = 0) (h : ∃ zs, Srt ys zs ∧ ids = ofS zs s d) : ids.length ≤ 64 := by
  obtain ⟨zs, hz, rfl⟩ := h
  unfold ofS
  rw [List.length_map]
  exact Nat.le_trans (List.length_filter_le _ _) (by rw [hz.len]; exact (chk_ok.1 hc).1)
theorem beq_dec (x y : Int) : (x == y) = decide (x = y) := by
  by_cases h : x = y
  · rw [decide_eq_true h]; exact beq_iff_eq.2 h
  · rw [decide_eq_false h]; exact beq_eq_false_iff_ne.2 h
set_option maxHeartbeats 2000000 in
theorem dies_big (A : Option Addr) (n c : Nat) (w : World) (hT : Lw w) (h : decide ((64 : Int) < (n : Int)) = true) :
    Calls Tryz.prog 7 #[.slice A n c] w fun e w' => e = .returned (.bool true) ∧ Below w.heap.size w w' := by
  have HT := hide hT
  clear hT
  go_enter Tryz.func7, Tryz.ntmps7
  go_wp2_with fail
  refine (awake_yes _ HT.out).mono ?_
  rintro e w1 ⟨rfl, hb1⟩
  go_wp2_with fail
  refine (awake_yes _ (HT.out.below hb1)).mono ?_
  rintro e w2 ⟨rfl, hb2⟩
  go_wp2_with fail
  go_ret
  exact ⟨rfl, nxt hb1 hb2⟩
set_option maxHeartbeats 2000000 in
theorem dies_err (A : Option Addr) (n c : Nat) (ys : List Spc) (w : World) (hT : Lw w) (hr : SL w A n ys) (h : decide ((64 : Int) < (n : Int)) = false) (hc : chk ys ≠ 0) :
    Calls Tryz.prog 7 #[.slice A n c] w fun e w' => e = .returned (.bool true) ∧ Below w.heap.size w w' := by
  have HT := hide hT
  have HR := hide hr
  obtain ⟨r, hrr⟩ : ∃ r, chk ys = r := ⟨_, rfl⟩
  have H := hide hrr
  have e0 : (r != 0) = true := by rw [← hrr]; simp [hc]
  clear hT hr hc hrr
  go_enter Tryz.func7, Tryz.ntmps7
  go_wp2_with fail
  refine (awake_yes _ HT.out).mono ?_
  rintro e w1 ⟨rfl, hb1⟩
  go_wp2_with fail
  refine (rcheck_any A n c ys _ (HR.out.keep hb1) r H.out).mono ?_
  rintro e w2 ⟨rfl, hb2⟩
  go_wp2_with fail
  refine (awake_yes _ (HT.out.below (nxt hb1 hb2))).mono ?_
  rintro e w3 ⟨rfl, hb3⟩
  go_wp2_with fail
  go_ret
  exact ⟨rfl, nxt (nxt hb1 hb2) hb3⟩
set_option maxHeartbeats 8000000 in
set_option maxRecDepth 100000 in
theorem dies_ok (A : Option Addr) (n c : Nat) (ys : List Spc) (w : World) (hT : Lw w) (hr : SL w A n ys) (h : decide ((64 : Int) < (n : Int)) = false) (hc : chk ys = 0) :
    Calls Tryz.prog 7 #[.slice A n c] w fun e w' => e = .returned (.bool true) ∧ Below w.heap.size w w' := by
  have HT := hide hT
  have HR := hide hr
  have H := hide hc
  have hn64 : n ≤ 64 := by have := of_decide_eq_false h; omega
  clear hT hr hc
  go_enter Tryz.func7, Tryz.ntmps7
  go_wp2_with fail
  refine (awake_yes _ HT.out).mono ?_
  rintro e w1 ⟨rfl, hb1⟩
  go_wp2_with fail
  refine (rcheck_any A n c ys _ (HR.out.keep hb1) 0 H.out).mono ?_
  rintro e w2 ⟨rfl, hb2⟩
  have HB0 := hide (nxt hb1 hb2)
  clear hb1 hb2 h
  go_wp2_with fail
  go_loopw [3] (fun a wr => ∃ k : Nat, a = .int .i64 (k : Int) ∧ k ≤ n ∧ Hid (Below w.heap.size w wr)) (fun a _ => n - (RowKit.intOf a).toNat)
  case atStart => exact ⟨0, rfl, Nat.zero_le _, HB0⟩
  case round =>
    clear HB0
    obtain ⟨k, rfl, hk, HB⟩ := hrel
    by_cases hlt : k < n
    · obtain ⟨b, o, y, rfl, hl, hy, k0, k1, k2, k3, k4, k5, k6⟩ := (HR.out.keep HB.out).at_ hlt
      have HY := hide hy
      have hvy : vS y = true := (chk_ok.1 H.out).2.1 y (List.mem_of_getElem? hy)
      have hvy := vS_true.1 hvy
      have HD3 := hide (show dB 0 y.o = true from decide_eq_true ⟨.inl rfl, hvy.2.1⟩)
      have HD4 := hide (show dB 1 y.r = true from decide_eq_true ⟨.inr rfl, hvy.2.2.1⟩)
      have d1 : decide ((k : Int) < (n : Int)) = true := decide_eq_true (by omega)
      have i2 : (0 : Int) ≤ (k : Int) := by omega
      have i3 : (k : Int) < (n : Int) := by omega
      clear hy hvy hl
      go_wp2_with fail
      clear k0 k1 k2 k3 k4 k5 k6
      refine (of_any (some ⟨b, o, none⟩) n c ys 0 y.o _ (HR.out.keep HB.out)).mono ?_
      rintro e w3 ⟨A3, n3, c3, ids3, rfl, hs3, h3, _, hb3⟩
      rw [if_pos H.out, if_pos HD3.out]
      have HF3 := hide (h3 ⟨H.out, HD3.out⟩)
      have HN3 := hide (show n3 ≤ 100000 by have := of_len H.out HF3.out; rw [hs3.1] at this; omega)
      have HS3 := hide hs3
      have HB3 := hide (nxt HB.out hb3)
      clear hs3 h3 hb3
      obtain ⟨k0, k1, k2, k3, k4, k5, k6⟩ := (HR.out.keep HB3.out).cells_ HY.out
      go_wp2_with fail
      clear k0 k1 k2 k3 k4 k5 k6
      refine (of_any (some ⟨b, o, none⟩) n c ys 1 y.r _ (HR.out.keep HB3.out)).mono ?_
      rintro e w4 ⟨A4, n4, c4, ids4, rfl, hs4, h4, _, hb4⟩
      rw [if_pos H.out, if_pos HD4.out]
      have HF4 := hide (h4 ⟨H.out, HD4.out⟩)
      have HN4 := hide (show n4 ≤ 100000 by have := of_len H.out HF4.out; rw [hs4.1] at this; omega)
      have HS4 := hide hs4
      have HK3 := hide (HS3.out.keep hb4)
      have HB4 := hide (nxt HB3.out hb4)
      clear hs4 h4 hb4 HS3
      obtain ⟨k0, k1, k2, k3, k4, k5, k6⟩ := (HR.out.keep HB4.out).cells_ HY.out
      go_wp2_with fail
      clear k0 k1 k2 k3 k4 k5 k6
      refine (has9_any A3 n3 c3 ids3 y.i _ HK3.out HN3.out true (by rw [of_dec HF3.out (List.mem_of_getElem? HY.out)]; exact decide_eq_true rfl)).mono ?_
      rintro e w5 ⟨rfl, hb5⟩
      have HL3 := hide (HK3.out.keep hb5)
      have HL4 := hide (HS4.out.keep hb5)
      have HB5 := hide (nxt HB4.out hb5)
      clear hb5 HK3 HS4
      obtain ⟨k0, k1, k2, k3, k4, k5, k6⟩ := (HR.out.keep HB5.out).cells_ HY.out
      go_wp2_with fail
      clear k0 k1 k2 k3 k4 k5 k6
      refine (has9_any A4 n4 c4 ids4 y.i _ HL4.out HN4.out true (by rw [of_dec HF4.out (List.mem_of_getElem? HY.out)]; exact decide_eq_true rfl)).mono ?_
      rintro e w6 ⟨rfl, hb6⟩
      have HM3 := hide (HL3.out.keep hb6)
      have HM4 := hide (HL4.out.keep hb6)
      have HB6 := hide (nxt HB5.out hb6)
      clear hb6 HL3 HL4 HB HB3 HB4 HB5 d1 i2 i3
      go_wp2_with fail
      go_loopw [8] (fun a wr => ∃ j : Nat, a = .int .i64 (j : Int) ∧ j ≤ n ∧ Hid (Below w6.heap.size w6 wr)) (fun a _ => n - (RowKit.intOf a).toNat)
      case atStart => exact ⟨0, rfl, Nat.zero_le _, hide (Below.refl _ _)⟩
      case round =>
        obtain ⟨j, rfl, hj, HI⟩ := hrel
        generalize hWR : wr = W at *
        clear hWR
        by_cases hlt2 : j < n
        · obtain ⟨z, hz⟩ : ∃ z, ys[j]? = some z := ⟨_, List.getElem?_eq_getElem (by rw [HR.out.1]; exact hlt2)⟩
          have HZ := hide hz
          clear hz
          have KS := hide (fun (w' : World) (h : Below W.heap.size W w') => And.intro ((HR.out.keep (nxt HB6.out (nxt HI.out h))).cells_ HZ.out) ((HR.out.keep (nxt HB6.out (nxt HI.out h))).cells_ HY.out))
          have KI3 := hide (fun (w' : World) (h : Below W.heap.size W w') => HM3.out.keep (nxt HI.out h))
          have KI4 := hide (fun (w' : World) (h : Below W.heap.size W w') => HM4.out.keep (nxt HI.out h))
          have KB := hide (fun (w' : World) (h : Below W.heap.size W w') => nxt HI.out h)
          obtain ⟨v3, hv3⟩ : ∃ v, decide (z.o = y.o) = v := ⟨_, rfl⟩
          obtain ⟨v4, hv4⟩ : ∃ v, decide (z.r = y.r) = v := ⟨_, rfl⟩
          have q3 : (z.o == y.o) = v3 := by rw [beq_dec]; exact hv3
          have q4 : (z.r == y.r) = v4 := by rw [beq_dec]; exact hv4
          have HV3 := hide (show decide (z.i ∈ ids3) = v3 by rw [of_dec HF3.out (List.mem_of_getElem? HZ.out)]; exact hv3)
          have HV4 := hide (show decide (z.i ∈ ids4) = v4 by rw [of_dec HF4.out (List.mem_of_getElem? HZ.out)]; exact hv4)
          clear hv3 hv4
          have d2 : decide ((j : Int) < (n : Int)) = true := decide_eq_true (by omega)
          have i2 : (0 : Int) ≤ (k : Int) := by omega
          have i3 : (k : Int) < (n : Int) := by omega
          have i4 : (0 : Int) ≤ (j : Int) := by omega
          have i5 : (j : Int) < (n : Int) := by omega
          have kS := hide (fun (w' : World) (h : Below W.heap.size W w') => And.intro (KS.out w' h).1.1 (And.intro (KS.out w' h).1.2.1 (And.intro (KS.out w' h).1.2.2.1 (And.intro (KS.out w' h).2.2.1 (KS.out w' h).2.2.2.1))))
          obtain ⟨k0, k1, k2, m1, m2⟩ := kS.out _ (Below.refl _ _)
          cases v3 <;> cases v4
          all_goals
            go_wp2_with fail
            go_region_held3 (fun w' => w'.cell? ⟨b, o + j * 7, none⟩ = some (.int .i64 z.i) ∧ w'.cell? ⟨b, o + j * 7 + 1, none⟩ = some (.int .i64 z.o) ∧ w'.cell? ⟨b, o + j * 7 + 2, none⟩ = some (.int .i64 z.r) ∧ w'.cell? ⟨b, o + k * 7 + 1, none⟩ = some (.int .i64 y.o) ∧ w'.cell? ⟨b, o + k * 7 + 2, none⟩ = some (.int .i64 y.r))
              (exact kS.out _ (by ((repeat (first | (with_reducible assumption) | (with_reducible exact Below.refl _ _) | (with_reducible refine Below.drewS ?_) | (with_reducible refine Below.allocS ?_ _) | (with_reducible refine Below.setS ?_ (by first | omega | (simp; omega)) _))); (first | done | fail))))
              (first
                | (go_at_call 29; (with_reducible refine (has9_any A3 n3 c3 ids3 z.i _ (KI3.out _ (by ((repeat (first | (with_reducible assumption) | (with_reducible exact Below.refl _ _) | (with_reducible refine Below.drewS ?_) | (with_reducible refine Below.allocS ?_ _) | (with_reducible refine Below.setS ?_ (by first | omega | (simp; omega)) _))); (first | done | fail)))) HN3.out _ HV3.out).mono ?_); rintro e wa ⟨rfl, hba⟩; have Ea : Below W.heap.size W wa := Below.next (by ((repeat (first | (with_reducible assumption) | (with_reducible exact Below.refl _ _) | (with_reducible refine Below.drewS ?_) | (with_reducible refine Below.allocS ?_ _) | (with_reducible refine Below.setS ?_ (by first | omega | (simp; omega)) _))); (first | done | fail))) hba)
                | (go_at_call 29; (with_reducible refine (has9_any A4 n4 c4 ids4 z.i _ (KI4.out _ (by ((repeat (first | (with_reducible assumption) | (with_reducible exact Below.refl _ _) | (with_reducible refine Below.drewS ?_) | (with_reducible refine Below.allocS ?_ _) | (with_reducible refine Below.setS ?_ (by first | omega | (simp; omega)) _))); (first | done | fail)))) HN4.out _ HV4.out).mono ?_); rintro e wb ⟨rfl, hbb⟩; have Eb : Below W.heap.size W wb := Below.next (by ((repeat (first | (with_reducible assumption) | (with_reducible exact Below.refl _ _) | (with_reducible refine Below.drewS ?_) | (with_reducible refine Below.allocS ?_ _) | (with_reducible refine Below.setS ?_ (by first | omega | (simp; omega)) _))); (first | done | fail))) hbb))
            all_goals
              go_wp2_with fail
              go_roundw
              case rel => exact ⟨j + 1, by go_num, by omega, hide (KB.out _ (by ((repeat (first | (with_reducible assumption) | (with_reducible exact Below.refl _ _) | (with_reducible refine Below.drewS ?_) | (with_reducible refine Below.allocS ?_ _) | (with_reducible refine Below.setS ?_ (by first | omega | (simp; omega)) _))); (first | done | fail))))⟩
              case measure => simp [RowKit.intOf]; omega
        · obtain rfl : j = n := by omega
          have d2 : decide ((j : Int) < (j : Int)) = false := decide_eq_false (by omega)
          go_wp2_with fail
          go_roundw
          case rel => exact ⟨k + 1, by go_num, by omega, hide (nxt HB6.out HI.out)⟩
          case measure => simp [RowKit.intOf]; omega
    · obtain rfl : k = n := by omega
      have d1 : decide ((k : Int) < (k : Int)) = false := decide_eq_false (by omega)
      go_wp2_with fail
      go_ret
      exact ⟨rfl, HB.out⟩
theorem dies_all (A : Option Addr) (n c : Nat) (ys : List Spc) (w : World) (hT : Lw w) (hr : SL w A n ys) :
    Calls Tryz.prog 7 #[.slice A n c] w fun e w' => e = .returned (.bool true) ∧ Below w.heap.size w w' := by
  by_cases h : (64 : Int) < (n : Int)
  · exact dies_big A n c w hT (decide_eq_true h)
  · by_cases hc : chk ys = 0
    · exact dies_ok A n c ys w hT hr (decide_eq_false h) hc
    · exact dies_err A n c ys w hT hr (decide_eq_false h) hc
end Go.Proofs.YtaapcfflnklpjaaGreatDoor
