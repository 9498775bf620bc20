/- The reference: Check, In, Arc, Densest. -/
import Derived.Test.YtfhidmlceemhaaaAK
namespace Go.Proofs.Ytfhidmlceemhaaa
open Go Go.RowKit Go.Lib
open AM
set_option maxHeartbeats 2000000 in
theorem check_any (A : Option Addr) (n c : Nat) (l : List Int) (w : World) (hr : IS w A n l) :
    Calls Try.prog 33 #[.slice A n c] w fun e w' => e = .returned (.int .i64 (chkX l)) ∧ Below w.heap.size w w' := by
  have HR := hide hr
  have HN := hide hr.1
  clear hr
  by_cases h : n ≤ 64
  · have d1 : decide ((n : Int) > 64) = false := decide_eq_false (by omega)
    have d2 : decide ((64 : Int) < (n : Int)) = false := decide_eq_false (by omega)
    go_enter Try.func33, Try.ntmps33
    go_wp2_with fail
    go_loopw [3] (fun a wr => ∃ k : Nat, k ≤ n ∧ a = .int .i64 (k : Int) ∧ Hid ((l.take k).all hrX = true) ∧ Hid (Below w.heap.size w wr)) (fun a _ => n - (RowKit.intOf a).toNat)
    case atStart => exact ⟨0, Nat.zero_le _, rfl, hide rfl, hide (Below.refl _ _)⟩
    case round =>
      obtain ⟨k, hk, rfl, HA, HB⟩ := hrel
      by_cases hlt : k < n
      · have d3 : decide ((k : Int) < (n : Int)) = true := decide_eq_true (by omega)
        obtain ⟨b, o, x, rfl, hl, hx, k0⟩ := (HR.out.keep HB.out).at_ hlt
        have HX := hide hx
        have i2 : (0 : Int) ≤ (k : Int) := by omega
        have i3 : (k : Int) < (n : Int) := by omega
        clear hx
        by_cases hh : 0 ≤ x ∧ x < 12
        · have e1 := hide (in11 hh)
          have HH := hide (hrX_iff.2 hh)
          clear hh
          go_wp2_with fail
          refine (in_any x 0 11 _ true e1.out).mono ?_
          rintro e w1 ⟨rfl, rfl⟩
          go_wp2_with fail
          go_roundw
          case measure => simp [RowKit.intOf]; omega
          case rel =>
            refine ⟨k + 1, by omega, by go_num, hide ?_, HB⟩
            rw [take_next HX.out, List.all_append, HA.out, List.all_cons, HH.out]
            rfl
        · have e1 := hide (in11_not hh)
          have HV := hide (show chkX l = 1 from chkX_arg (by rw [HN.out]; exact h) (all_not HX.out hh))
          clear hh
          go_wp2_with fail
          refine (in_any x 0 11 _ false e1.out).mono ?_
          rintro e w1 ⟨rfl, rfl⟩
          go_wp2_with fail
          go_ret
          exact ⟨by rw [HV.out]; rfl, HB.out⟩
      · obtain rfl : k = n := by omega
        have d3 : decide ((k : Int) < (k : Int)) = false := decide_eq_false (by omega)
        have HV := hide (show chkX l = 0 from chkX_ok.2 ⟨by rw [HN.out]; exact h, by have h := HA.out; rwa [List.take_of_length_le (by rw [HN.out]; exact Nat.le_refl _)] at h⟩)
        go_wp2_with fail
        go_ret
        exact ⟨by rw [HV.out]; rfl, HB.out⟩
  · have d1 : decide ((n : Int) > 64) = true := decide_eq_true (by omega)
    have d2 : decide ((64 : Int) < (n : Int)) = true := decide_eq_true (by omega)
    have HV := hide (show chkX l = 6 from chkX_full (by rw [HN.out]; omega))
    go_enter Try.func33, Try.ntmps33
    go_wp2_with fail
    go_ret
    exact ⟨by rw [HV.out]; rfl, Below.refl _ _⟩
set_option maxHeartbeats 2000000 in
theorem rin_any (A : Option Addr) (n c : Nat) (l : List Int) (h : Nat) (k : Int) (w : World) (hr : IS w A n l) (hn : n ≤ 64) (ha : l.all hrX = true) (hh : h < 12) :
    Calls Try.prog 37 #[.slice A n c, .int .i64 (h : Int), .int .i64 k] w fun e w' => e = .returned (.int .i64 (insX l h k : Int)) ∧ Below w.heap.size w w' := by
  have HR := hide hr
  have HN := hide hr.1
  have HA := hide ha
  clear hr ha
  go_enter Try.func37, Try.ntmps37
  go_wp2_with fail
  go_loopw [7, 8] (fun v a wr => ∃ j : Nat, j ≤ n ∧ v = .int .i64 (insX (l.take j) h k : Int) ∧ a = .int .i64 (j : Int) ∧ Hid (Below w.heap.size w wr)) (fun _ a _ => n - (RowKit.intOf a).toNat)
  case atStart => exact ⟨0, Nat.zero_le _, rfl, rfl, hide (Below.refl _ _)⟩
  case round =>
    obtain ⟨j, hj, rfl, rfl, HB⟩ := hrel
    have hs := insX_le (l.take j) h k
    rw [List.length_take] at hs
    obtain ⟨s, hss⟩ : ∃ s, insX (l.take j) h k = s := ⟨_, rfl⟩
    rw [hss] at hs ⊢
    have HSS := hide hss
    clear hss
    by_cases hlt : j < n
    · have d3 : decide ((j : Int) < (n : Int)) = true := decide_eq_true (by omega)
      obtain ⟨b, o, x, rfl, hl, hx, k0⟩ := (HR.out.keep HB.out).at_ hlt
      have HX := hide hx
      have hx2 := all_at HA.out hx
      have i2 : (0 : Int) ≤ (j : Int) := by omega
      have i3 : (j : Int) < (n : Int) := by omega
      clear hx
      obtain ⟨x0, x1⟩ := hx2
      have w1 : IntKind.i64.wrap (x - (h : Int)) = x - (h : Int) := IntWalk.i64_in _ (by omega)
      have w2 : IntKind.i64.wrap ((s : Int) + 1) = (s : Int) + 1 := IntWalk.i64_in _ (by omega)
      have HST := hide (insX_snoc (l.take j) x h k)
      rw [← take_next HX.out, HSS.out] at HST
      obtain ⟨m, hm⟩ : ∃ m, (x - (h : Int)) % 12 = m := ⟨_, rfl⟩
      have HM := hide hm
      rw [hm] at HST
      clear hm
      by_cases hmk : m < k
      · have d4 : decide (m < k) = true := decide_eq_true hmk
        rw [if_pos hmk] at HST
        go_wp2_with fail
        refine (mod_any (x - (h : Int)) 12 (by decide) (by decide) m HM.out _).mono ?_
        rintro e w1 ⟨rfl, rfl⟩
        go_wp2_with fail
        go_roundw
        case measure => simp [RowKit.intOf]; omega
        case rel => exact ⟨j + 1, by omega, by rw [HST.out]; go_num, by go_num, HB⟩
      · have d4 : decide (m < k) = false := decide_eq_false hmk
        rw [if_neg hmk] at HST
        go_wp2_with fail
        refine (mod_any (x - (h : Int)) 12 (by decide) (by decide) m HM.out _).mono ?_
        rintro e w1 ⟨rfl, rfl⟩
        go_wp2_with fail
        go_roundw
        case measure => simp [RowKit.intOf]; omega
        case rel => exact ⟨j + 1, by omega, by rw [HST.out]; rfl, by go_num, HB⟩
    · obtain rfl : j = n := by omega
      have d3 : decide ((j : Int) < (j : Int)) = false := decide_eq_false (by omega)
      have HE := hide (show s = insX l h k from by rw [← HSS.out, List.take_of_length_le (by rw [HN.out]; exact Nat.le_refl _)])
      go_wp2_with fail
      go_ret
      exact ⟨by rw [← HE.out]; rfl, HB.out⟩
set_option maxHeartbeats 4000000 in
theorem rarc_any (A : Option Addr) (n c : Nat) (l : List Int) (w : World) (hr : IS w A n l) :
    Calls Try.prog 23 #[.slice A n c] w (R3 (ArcP l) (chkSX l) w) := by
  have HR := hide hr
  have HN := hide hr.1
  clear hr
  obtain ⟨r, hrr⟩ : ∃ r, chkX l = r := ⟨_, rfl⟩
  have hc := chkX_cases l
  rw [hrr] at hc
  have H := hide hrr
  clear hrr
  by_cases h0 : r = 0
  · subst h0
    have HL := hide (chkX_sub H.out)
    have hn64 : n ≤ 64 := by rw [← HN.out]; exact HL.out.1
    clear hc
    by_cases hz : n = 0
    · have hl0 : l = [] := List.length_eq_zero_iff.1 (HN.out.trans hz)
      rw [show chkSX l = 7 from if_pos hl0]
      subst hz
      clear hl0
      go_enter Try.func23, Try.ntmps23
      go_wp2_with fail
      refine (check_any A 0 c l _ HR.out).mono ?_
      rintro e w1 ⟨rfl, hb⟩
      rw [H.out]
      go_wp2_with fail
      go_ret3
      exact ⟨0, 0, rfl, fun h => absurd h (by decide), fun _ => ⟨rfl, rfl⟩, hb⟩
    · rw [show chkSX l = 0 from (chkSX_ne fun e => hz (by rw [← HN.out, e]; rfl)).trans H.out]
      have hnz : 0 < n := by omega
      clear hz
      have d1 : ((n : Int) == 0) = false := beq_eq_false_iff_ne.2 (by omega)
      go_enter Try.func23, Try.ntmps23
      go_wp2_with fail
      refine (check_any A n c l _ HR.out).mono ?_
      rintro e w1 ⟨rfl, hb⟩
      rw [H.out]
      go_wp2_with fail
      go_loopw [6] (fun b wr => ∃ k : Nat, 1 ≤ k ∧ k ≤ 12 ∧ b = .int .i64 (k : Int) ∧ Hid (∀ m j : Nat, 1 ≤ m → m < k → j < 12 → insX l j m ≠ l.length) ∧ Hid (Below w.heap.size w wr)) (fun b _ => 12 - (RowKit.intOf b).toNat)
      case atStart => exact ⟨1, Nat.le_refl _, by decide, rfl, hide (fun m j h1 h2 => by omega), hb⟩
      case round =>
        clear hb
        obtain ⟨k, hk1, hk, rfl, HP, HB⟩ := hrel
        by_cases hlt : k < 12
        · have d2 : decide ((k : Int) < 12) = true := decide_eq_true (by omega)
          go_wp2_with fail
          go_loopw [7] (fun b wr => ∃ h : Nat, h ≤ 12 ∧ b = .int .i64 (h : Int) ∧ Hid (∀ j : Nat, j < h → insX l j k ≠ l.length) ∧ Hid (Below w.heap.size w wr)) (fun b _ => 12 - (RowKit.intOf b).toNat)
          case atStart => exact ⟨0, Nat.zero_le _, rfl, hide (fun j h => by omega), HB⟩
          case round =>
            clear HB
            obtain ⟨h, hh, rfl, HQ, HB⟩ := hrel
            by_cases hlh : h < 12
            · have d3 : decide ((h : Int) < 12) = true := decide_eq_true (by omega)
              go_wp2_with fail
              refine (rin_any A n c l h (k : Int) _ (HR.out.keep HB.out) hn64 HL.out.2 hlh).mono ?_
              rintro e w2 ⟨rfl, hb2⟩
              have HB1 := hide (nxt HB.out hb2)
              clear hb2 HB
              have hq := insX_le l (h : Int) (k : Int)
              rw [HN.out] at hq
              obtain ⟨q, hq'⟩ : ∃ q, insX l (h : Int) (k : Int) = q := ⟨_, rfl⟩
              rw [hq'] at hq ⊢
              have HQQ := hide hq'
              clear hq'
              by_cases hg : q = n
              · subst hg
                go_wp2_with fail
                go_ret3
                exact ⟨h, k, rfl, fun _ => ⟨hk1, by omega, hlh, HQQ.out.trans HN.out.symm, fun h => by omega, fun _ j hj => HQ.out j hj, HP.out⟩, fun h => absurd rfl h, HB1.out⟩
              · have d4 : ((q : Int) == (n : Int)) = false := beq_eq_false_iff_ne.2 (by omega)
                have HG := hide hg
                clear hg
                go_wp2_with fail
                go_roundw
                case measure => simp [RowKit.intOf]; omega
                case rel =>
                  refine ⟨h + 1, by omega, by go_num, hide (fun j hj => ?_), HB1⟩
                  by_cases hjh : j < h
                  · exact HQ.out j hjh
                  · obtain rfl : j = h := by omega
                    rw [HQQ.out, HN.out]; exact HG.out
            · obtain rfl : h = 12 := by omega
              go_wp2_with fail
              go_roundw
              case measure => simp [RowKit.intOf]; omega
              case rel =>
                refine ⟨k + 1, by omega, by omega, by go_num, hide (fun m j h1 h2 h3 => ?_), HB⟩
                by_cases hmk : m < k
                · exact HP.out m j h1 hmk h3
                · obtain rfl : m = k := by omega
                  exact HQ.out j h3
        · obtain rfl : k = 12 := by omega
          go_wp2_with fail
          go_ret3
          exact ⟨0, 12, rfl, fun _ => arc_last HP.out, fun h => absurd rfl h, HB.out⟩
  · have e : chkSX l = r := (chkSX_ne fun e => h0 (by rw [← H.out, e]; rfl)).trans H.out
    rw [e]
    rcases hc with rfl | rfl | rfl
    · exact absurd rfl h0
    all_goals
      clear h0 e
      go_enter Try.func23, Try.ntmps23
      go_wp2_with fail
      refine (check_any A n c l _ HR.out).mono ?_
      rintro e w1 ⟨rfl, hb⟩
      rw [H.out]
      go_wp2_with fail
      go_ret3
      exact ⟨0, 0, rfl, fun h => absurd h (by decide), fun _ => ⟨rfl, rfl⟩, hb⟩
end Go.Proofs.Ytfhidmlceemhaaa
