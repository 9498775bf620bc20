/- The reference: Fixed, Counts, Turned. -/
import Derived.Test.YtfhidmlceemhaaaAS
import Derived.Test.YtfhidmlceemhaaaIB
import Derived.Deep.RegionLaw
namespace Go.Proofs.Ytfhidmlceemhaaa
open Go Go.RowKit Go.Lib
open AM
theorem near_step {l : List Int} {h j : Nat} {x : Int} {t : Int} (hx : l[j]? = some x) : nearX (l.take (j + 1)) h t = (nearX (l.take j) h t && decide (dsX h x ≤ t)) := by
  rw [take_next hx]
  unfold nearX
  rw [List.all_append]
  simp
theorem rr_err {l : List Int} {r : Int} (h : chkX l = r) (h0 : r ≠ 0) (t : Int) : fixX l t = false := fixX_no fun h' => h0 (h ▸ (chkSX_ok.1 h'.1).2)
set_option maxHeartbeats 8000000 in
theorem rfixed_any (A : Option Addr) (n c : Nat) (l : List Int) (t : Int) (w : World) (hr : IS w A n l) :
    Calls Try.prog 29 #[.slice A n c, .int .i64 t] w fun e w' => e = .returned (.bool (fixX l t)) ∧ Below w.heap.size w w' := by
  have HR := hide hr
  have HN := hide hr.1
  clear hr
  obtain ⟨r, hrr⟩ : ∃ r, chkX l = r := ⟨_, rfl⟩
  have hc := chkX_cases l
  rw [hrr] at hc
  have H := hide hrr
  clear hrr
  by_cases h0 : r = 0
  · subst h0
    have HL := hide (chkX_sub H.out)
    have hn64 : n ≤ 64 := by rw [← HN.out]; exact HL.out.1
    clear hc
    by_cases hz : n = 0
    · have hl0 : l = [] := List.length_eq_zero_iff.1 (HN.out.trans hz)
      have HV := hide (show fixX l t = false from fixX_no fun h => (chkSX_ok.1 h.1).1 hl0)
      subst hz
      clear hl0
      go_enter Try.func29, Try.ntmps29
      go_wp2_with fail
      refine (check_any A 0 c l _ HR.out).mono ?_
      rintro e w1 ⟨rfl, hb⟩
      rw [H.out]
      go_wp2_with fail
      go_ret
      exact ⟨by rw [HV.out]; rfl, hb⟩
    · have HS := hide (show chkSX l = 0 from (chkSX_ne fun e => hz (by rw [← HN.out, e]; rfl)).trans H.out)
      have hnz : 0 < n := by omega
      clear hz
      have d1 : ((n : Int) == 0) = false := beq_eq_false_iff_ne.2 (by omega)
      by_cases ht : 0 ≤ t ∧ t ≤ 6
      · have e1 := hide (show decide ((0 : Int) ≤ t ∧ t ≤ 6) = true from decide_eq_true ht)
        have HT := hide ht
        clear ht
        go_enter Try.func29, Try.ntmps29
        go_wp2_with fail
        refine (check_any A n c l _ HR.out).mono ?_
        rintro e w1 ⟨rfl, hb⟩
        rw [H.out]
        go_wp2_with fail
        refine (in_any t 0 6 _ true e1.out).mono ?_
        rintro e w2 ⟨rfl, rfl⟩
        go_wp2_with fail
        go_loopw [5] (fun b wr => ∃ h : Nat, h ≤ 12 ∧ b = .int .i64 (h : Int) ∧ Hid (∀ j : Nat, j < h → nearX l j t = false) ∧ Hid (Below w.heap.size w wr)) (fun b _ => 12 - (RowKit.intOf b).toNat)
        case atStart => exact ⟨0, Nat.zero_le _, rfl, hide (fun j h => by omega), hb⟩
        case round =>
          clear hb
          obtain ⟨h, hh, rfl, HP, HB⟩ := hrel
          by_cases hlt : h < 12
          · have d2 : decide ((h : Int) < 12) = true := decide_eq_true (by omega)
            go_wp2_with fail
            go_loopw [6, 7] (fun v b wr => ∃ i : Nat, i ≤ n ∧ v = .bool (nearX (l.take i) h t) ∧ b = .int .i64 (i : Int) ∧ Hid (Below w.heap.size w wr)) (fun _ b _ => n - (RowKit.intOf b).toNat)
            case atStart => exact ⟨0, Nat.zero_le _, rfl, rfl, HB⟩
            case round =>
              clear HB
              obtain ⟨i, hi, rfl, rfl, HB⟩ := hrel
              by_cases hlh : i < n
              · have d3 : decide ((i : Int) < (n : Int)) = true := decide_eq_true (by omega)
                obtain ⟨b, o, x, rfl, hl, hx, k0⟩ := (HR.out.keep HB.out).at_ hlh
                have HX := hide hx
                have i2 : (0 : Int) ≤ (i : Int) := by omega
                have i3 : (i : Int) < (n : Int) := by omega
                have HST := hide (near_step (h := h) (t := t) hx)
                clear hx
                obtain ⟨d, hd⟩ : ∃ d, dsX (h : Int) x = d := ⟨_, rfl⟩
                have HD := hide hd
                rw [hd] at HST
                clear hd
                rcases hnx : nearX (l.take i) h t with _ | _
                · rw [hnx] at HST
                  clear hnx
                  go_wp2_with fail
                  go_roundw
                  case measure => simp [RowKit.intOf]; omega
                  case rel => exact ⟨i + 1, by omega, by rw [HST.out]; rfl, by go_num, HB⟩
                · rw [hnx] at HST
                  clear hnx
                  go_wp2_with fail
                  refine (rdist_any (h : Int) x d HD.out _).mono ?_
                  rintro e w2 ⟨rfl, rfl⟩
                  rcases hdt : decide (d ≤ t) with _ | _
                  all_goals
                    rw [hdt] at HST
                    go_wp2_with fail
                    go_roundw
                    case measure => simp [RowKit.intOf]; omega
                    case rel => exact ⟨i + 1, by omega, by rw [HST.out]; rfl, by go_num, HB⟩
              · obtain rfl : i = n := by omega
                have d3 : decide ((i : Int) < (i : Int)) = false := decide_eq_false (by omega)
                rw [show l.take i = l from List.take_of_length_le (by rw [HN.out]; exact Nat.le_refl _)]
                rcases hnx : nearX l h t with _ | _
                · have HQ := hide hnx
                  clear hnx
                  go_wp2_with fail
                  go_roundw
                  case measure => simp [RowKit.intOf]; omega
                  case rel =>
                    refine ⟨h + 1, by omega, by go_num, hide (fun j hj => ?_), HB⟩
                    by_cases hjh : j < h
                    · exact HP.out j hjh
                    · obtain rfl : j = h := by omega
                      exact HQ.out
                · have HV := hide (show fixX l t = true from fixX_yes ⟨HS.out, HT.out⟩ hlt hnx)
                  clear hnx
                  go_wp2_with fail
                  go_ret
                  exact ⟨by rw [HV.out]; rfl, HB.out⟩
          · obtain rfl : h = 12 := by omega
            have HV := hide (fixX_none HP.out)
            go_wp2_with fail
            go_ret
            exact ⟨by rw [HV.out]; rfl, HB.out⟩
      · have HV := hide (show fixX l t = false from fixX_no fun h => ht h.2)
        have e1 := hide (show decide ((0 : Int) ≤ t ∧ t ≤ 6) = false from decide_eq_false ht)
        clear ht
        go_enter Try.func29, Try.ntmps29
        go_wp2_with fail
        refine (check_any A n c l _ HR.out).mono ?_
        rintro e w1 ⟨rfl, hb⟩
        rw [H.out]
        go_wp2_with fail
        refine (in_any t 0 6 _ false e1.out).mono ?_
        rintro e w2 ⟨rfl, rfl⟩
        go_wp2_with fail
        go_ret
        exact ⟨by rw [HV.out]; rfl, hb⟩
  · have HV := hide (rr_err H.out h0 t)
    rcases hc with rfl | rfl | rfl
    · exact absurd rfl h0
    all_goals
      clear h0
      go_enter Try.func29, Try.ntmps29
      go_wp2_with fail
      refine (check_any A n c l _ HR.out).mono ?_
      rintro e w1 ⟨rfl, hb⟩
      rw [H.out]
      go_wp2_with fail
      go_ret
      exact ⟨by rw [HV.out]; rfl, hb⟩
theorem ctL_nil : ctL [] = [0, 0, 0, 0, 0, 0, 0, 0, 0, 0, 0, 0] := by kernel_rfl
theorem ctL_put {w : World} {g : Nat} {t : TypeId} {l : List Int} (h : Own w g .i64 t (ctL l)) {x : Int} {n : Nat} (hx : x = (n : Int)) {v : Int} (e : v = (ctX l n : Int) + 1) : Own (w.setCell ⟨g, n, none⟩ (.int .i64 v)) g .i64 t (ctL (l ++ [x])) := by
  have := Own.put h n (v := v) (x := ctX l n + 1) (by omega)
  rwa [ctL_set l hx] at this
set_option maxHeartbeats 4000000 in
theorem rcounts_any (A : Option Addr) (n c : Nat) (l : List Int) (w : World) (hr : IS w A n l) :
    Calls Try.prog 18 #[.slice A n c] w (I2 (cntX l) (chkX l) w) := by
  have HR := hide hr
  have HN := hide hr.1
  clear hr
  obtain ⟨r, hrr⟩ : ∃ r, chkX l = r := ⟨_, rfl⟩
  have hc := chkX_cases l
  rw [hrr] at hc ⊢
  have H := hide hrr
  clear hrr
  by_cases h0 : r = 0
  · subst h0
    have HL := hide (chkX_sub H.out)
    have hn64 : n ≤ 64 := by rw [← HN.out]; exact HL.out.1
    clear hc
    rw [show cntX l = castL (ctL l) from if_pos H.out]
    go_enter Try.func18, Try.ntmps18
    go_wp2_with fail
    refine (check_any A n c l _ HR.out).mono ?_
    rintro e w1 ⟨rfl, hb⟩
    rw [H.out]
    go_wp2_with (at_make; refine wpList_make_zero _ rfl _ _ 25 rfl 3 .i64 8 Try.underlying25 infoI .i64 .i64 _ _ 12 rfl rfl (by go_num) (by go_num) (by omega) (by omega) ?_)
    intro g w2 hg ho hb2
    rw [← ctL_nil] at ho
    have HO := hide ho
    have HB := hide (nxt hb hb2)
    have hgw : w.heap.size ≤ g := Nat.le_trans hb.size hg
    clear ho hb2 hb hg
    go_wp2_with fail
    go_loopw [6] (fun a wr => ∃ k : Nat, k ≤ n ∧ a = .int .i64 (k : Int) ∧ Hid (Own wr g .i64 3 (ctL (l.take k))) ∧ Hid (Below w.heap.size w wr)) (fun a _ => n - (RowKit.intOf a).toNat)
    case atStart => exact ⟨0, Nat.zero_le _, rfl, HO, HB⟩
    case round =>
      clear HO HB
      obtain ⟨k, hk, rfl, HO, HB⟩ := hrel
      by_cases hlt : k < n
      · have d1 : decide ((k : Int) < (n : Int)) = true := decide_eq_true (by omega)
        obtain ⟨b, o, x, rfl, hl, hx, k0⟩ := (HR.out.keep HB.out).at_ hlt
        have hx2 := all_at HL.out.2 hx
        have HX := hide hx
        obtain ⟨m, rfl⟩ : ∃ m : Nat, x = (m : Int) := ⟨x.toNat, by omega⟩
        have hm : m < 12 := by omega
        clear hx hx2
        have i2 : (0 : Int) ≤ (k : Int) := by omega
        have i3 : (k : Int) < (n : Int) := by omega
        have i4 : (0 : Int) ≤ (m : Int) := by omega
        have i5 : (m : Int) < 12 := by omega
        have f0 := HO.out.frozen m
        have z0 := HO.out.cell (ctL_at (l.take k) hm)
        obtain ⟨u, hu⟩ : ∃ u, ctX (l.take k) m = u := ⟨_, rfl⟩
        have hu2 : u ≤ 64 := by rw [← hu]; have := ctX_le (l.take k) m; rw [List.length_take] at this; omega
        rw [hu] at z0
        have HU := hide hu
        clear hu
        have hlg := HO.out.lt
        have w3 : IntKind.i64.wrap ((u : Int) + 1) = (u : Int) + 1 := IntWalk.i64_in _ (by omega)
        go_wp2_with fail
        go_roundw
        case measure => simp [RowKit.intOf]; omega
        case rel => exact ⟨k + 1, by omega, by go_num, hide (by rw [take_next HX.out]; exact ctL_put HO.out rfl (by rw [HU.out])), hide (HB.out.setCell hgw _)⟩
      · obtain rfl : k = n := by omega
        have d1 : decide ((k : Int) < (k : Int)) = false := decide_eq_false (by omega)
        rw [show l.take k = l from List.take_of_length_le (by rw [HN.out]; exact Nat.le_refl _)] at HO
        go_wp2_with fail
        go_ret2
        exact ⟨_, 12, 12, rfl, own_is HO.out (ctL_len l), HB.out⟩
  · rw [show cntX l = [] from if_neg (by rw [H.out]; exact h0)]
    rcases hc with rfl | rfl | rfl
    · exact absurd rfl h0
    all_goals
      clear h0
      go_enter Try.func18, Try.ntmps18
      go_wp2_with fail
      refine (check_any A n c l _ HR.out).mono ?_
      rintro e w1 ⟨rfl, hb⟩
      rw [H.out]
      go_wp2_with fail
      go_ret2
      exact ⟨none, 0, 0, rfl, IS.nil_ _ _, hb⟩
end Go.Proofs.Ytfhidmlceemhaaa
