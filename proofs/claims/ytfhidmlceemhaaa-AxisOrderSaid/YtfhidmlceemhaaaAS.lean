/- The reference: Densest, Median, Fixed. -/
import Derived.Test.YtfhidmlceemhaaaAR
namespace Go.Proofs.Ytfhidmlceemhaaa
open Go Go.RowKit Go.Lib
open AM
/-- from 0 on: the first of the greatest of those above 0 -/
def MaxQ (g : Nat → Nat) (n h m : Nat) : Prop := (n = 0 ∧ h = 0 ∧ m = 0) ∨ (0 < n ∧ MaxP g n h m)
theorem MaxQ.more {g : Nat → Nat} {n h m : Nat} (a : MaxQ g n h m) (hg : m < g n) : MaxQ g (n + 1) n (g n) := by
  rcases a with ⟨rfl, rfl, rfl⟩ | ⟨h0, a⟩
  · exact .inr ⟨by omega, MaxP.first g⟩
  · exact .inr ⟨by omega, a.more hg⟩
theorem MaxQ.stay {g : Nat → Nat} {n h m : Nat} (a : MaxQ g n h m) (hg : ¬ m < g n) : MaxQ g (n + 1) h m := by
  rcases a with ⟨rfl, rfl, rfl⟩ | ⟨h0, a⟩
  · have := MaxP.first g
    rw [show g 0 = 0 by omega] at this
    exact .inr ⟨by omega, this⟩
  · exact .inr ⟨by omega, a.stay hg⟩
set_option maxHeartbeats 4000000 in
theorem rden_any (A : Option Addr) (n c : Nat) (l : List Int) (k : Int) (w : World) (hr : IS w A n l) :
    Calls Try.prog 27 #[.slice A n c, .int .i64 k] w (R3 (DenP l k.toNat) (chkDX l k) w) := by
  have HR := hide hr
  have HN := hide hr.1
  clear hr
  obtain ⟨r, hrr⟩ : ∃ r, chkX l = r := ⟨_, rfl⟩
  have hc := chkX_cases l
  rw [hrr] at hc
  have H := hide hrr
  clear hrr
  by_cases h0 : r = 0
  · subst h0
    have HL := hide (chkX_sub H.out)
    have hn64 : n ≤ 64 := by rw [← HN.out]; exact HL.out.1
    clear hc
    by_cases hk : 1 ≤ k ∧ k ≤ 12
    · rw [show chkDX l k = 0 from by unfold chkDX; rw [if_pos H.out, if_pos hk]]
      have e1 := hide (show decide ((1 : Int) ≤ k ∧ k ≤ 12) = true from decide_eq_true hk)
      have HK := hide (show ((k.toNat : Nat) : Int) = k from by omega)
      clear hk
      go_enter Try.func27, Try.ntmps27
      go_wp2_with fail
      refine (check_any A n c l _ HR.out).mono ?_
      rintro e w1 ⟨rfl, hb⟩
      rw [H.out]
      go_wp2_with fail
      refine (in_any k 1 12 _ true e1.out).mono ?_
      rintro e w2 ⟨rfl, rfl⟩
      go_wp2_with fail
      go_loopw [8, 9, 10] (fun u v b wr => ∃ h m j : Nat, j ≤ 12 ∧ m ≤ n ∧ u = .int .i64 (h : Int) ∧ v = .int .i64 (m : Int) ∧ b = .int .i64 (j : Int) ∧ Hid (MaxQ (fun i => insX l i k) j h m) ∧ Hid (Below w.heap.size w wr)) (fun _ _ b _ => 12 - (RowKit.intOf b).toNat)
      case atStart => exact ⟨0, 0, 0, Nat.zero_le _, Nat.zero_le _, rfl, rfl, rfl, hide (.inl ⟨rfl, rfl, rfl⟩), hb⟩
      case round =>
        clear hb
        obtain ⟨h, m, j, hj, hm, rfl, rfl, rfl, HP, HB⟩ := hrel
        by_cases hlt : j < 12
        · have d2 : decide ((j : Int) < 12) = true := decide_eq_true (by omega)
          go_wp2_with fail
          refine (rin_any A n c l j k _ (HR.out.keep HB.out) hn64 HL.out.2 hlt).mono ?_
          rintro e w2 ⟨rfl, hb2⟩
          have HB1 := hide (nxt HB.out hb2)
          clear hb2 HB
          have hq := insX_le l (j : Int) k
          rw [HN.out] at hq
          obtain ⟨q, hq'⟩ : ∃ q, insX l (j : Int) k = q := ⟨_, rfl⟩
          rw [hq'] at hq ⊢
          have HQ := hide (show (fun i : Nat => insX l i k) j = q from hq')
          clear hq'
          by_cases hg : m < q
          · have d3 : decide ((q : Int) > (m : Int)) = true := decide_eq_true (by omega)
            have d4 : decide ((m : Int) < (q : Int)) = true := decide_eq_true (by omega)
            go_wp2_with fail
            go_roundw
            case measure => simp [RowKit.intOf]; omega
            case rel => exact ⟨j, q, j + 1, by omega, hq, rfl, rfl, by go_num, hide (by have := HP.out.more (by rw [HQ.out]; exact hg); rw [HQ.out] at this; exact this), HB1⟩
          · have d3 : decide ((q : Int) > (m : Int)) = false := decide_eq_false (by omega)
            have d4 : decide ((m : Int) < (q : Int)) = false := decide_eq_false (by omega)
            go_wp2_with fail
            go_roundw
            case measure => simp [RowKit.intOf]; omega
            case rel => exact ⟨h, m, j + 1, by omega, hm, rfl, rfl, by go_num, hide (HP.out.stay (by rw [HQ.out]; exact hg)), HB1⟩
        · obtain rfl : j = 12 := by omega
          have HD := hide (show DenP l k.toNat h m from by
            rcases HP.out with h | h
            · exact absurd h.1 (by decide)
            · unfold DenP
              rw [HK.out]
              exact h.2)
          go_wp2_with fail
          go_ret3
          exact ⟨h, m, rfl, fun _ => HD.out, fun h => absurd rfl h, HB.out⟩
    · rw [show chkDX l k = 2 from by unfold chkDX; rw [if_pos H.out, if_neg hk]]
      have e1 := hide (show decide ((1 : Int) ≤ k ∧ k ≤ 12) = false from decide_eq_false hk)
      clear hk
      go_enter Try.func27, Try.ntmps27
      go_wp2_with fail
      refine (check_any A n c l _ HR.out).mono ?_
      rintro e w1 ⟨rfl, hb⟩
      rw [H.out]
      go_wp2_with fail
      refine (in_any k 1 12 _ false e1.out).mono ?_
      rintro e w2 ⟨rfl, rfl⟩
      go_wp2_with fail
      go_ret3
      exact ⟨0, 0, rfl, fun h => absurd h (by decide), fun _ => ⟨rfl, rfl⟩, hb⟩
  · rw [show chkDX l k = r from by unfold chkDX; rw [H.out, if_neg h0]]
    rcases hc with rfl | rfl | rfl
    · exact absurd rfl h0
    all_goals
      clear h0
      go_enter Try.func27, Try.ntmps27
      go_wp2_with fail
      refine (check_any A n c l _ HR.out).mono ?_
      rintro e w1 ⟨rfl, hb⟩
      rw [H.out]
      go_wp2_with fail
      go_ret3
      exact ⟨0, 0, rfl, fun h => absurd h (by decide), fun _ => ⟨rfl, rfl⟩, hb⟩
/-- from 1000 on: the first of the least -/
def MinQ (g : Nat → Nat) (n h m : Nat) : Prop := (n = 0 ∧ h = 0 ∧ m = 1000) ∨ (0 < n ∧ MinP g n h m)
theorem MinQ.more {g : Nat → Nat} {n h m : Nat} (a : MinQ g n h m) (hg : g n < m) : MinQ g (n + 1) n (g n) := by
  rcases a with ⟨rfl, rfl, rfl⟩ | ⟨h0, a⟩
  · exact .inr ⟨by omega, MinP.first g⟩
  · exact .inr ⟨by omega, a.more hg⟩
theorem MinQ.stay {g : Nat → Nat} {n h m : Nat} (a : MinQ g n h m) (hk : g n ≤ 384) (hg : ¬ g n < m) : MinQ g (n + 1) h m := by
  rcases a with ⟨rfl, rfl, rfl⟩ | ⟨h0, a⟩
  · omega
  · exact .inr ⟨by omega, a.stay hg⟩
theorem sd_step {l : List Int} {h j : Nat} {x : Int} (hh : h < 12) (hx : l[j]? = some x) (hx2 : 0 ≤ x ∧ x < 12) : ∃ d : Nat, d ≤ 6 ∧ dsX (h : Int) x = (d : Int) ∧ sdX (l.take (j + 1)) h = sdX (l.take j) h + d := by
  have hr := dsX_range (a := (h : Int)) (b := x) ⟨by omega, hx2⟩
  refine ⟨(dsX h x).toNat, by omega, by omega, ?_⟩
  rw [take_next hx, sdX_snoc]
theorem all_take {l : List Int} (ha : l.all hrX = true) (j : Nat) : (l.take j).all hrX = true :=
  all_of fun i x hx => all_at ha (j := i) (by
    rw [List.getElem?_take] at hx
    split at hx
    · exact hx
    · cases hx)
theorem sd_take_le {l : List Int} (hl : l.length ≤ 64) (ha : l.all hrX = true) {h : Nat} (hh : h < 12) (j : Nat) : sdX (l.take j) h ≤ 384 := by
  have := sdX_le hh (l.take j) (all_take ha j)
  rw [List.length_take] at this
  omega
set_option maxHeartbeats 4000000 in
theorem rmed_any (A : Option Addr) (n c : Nat) (l : List Int) (w : World) (hr : IS w A n l) :
    Calls Try.prog 25 #[.slice A n c] w (R3 (MedP l) (chkSX l) w) := by
  have HR := hide hr
  have HN := hide hr.1
  clear hr
  obtain ⟨r, hrr⟩ : ∃ r, chkX l = r := ⟨_, rfl⟩
  have hc := chkX_cases l
  rw [hrr] at hc
  have H := hide hrr
  clear hrr
  by_cases h0 : r = 0
  · subst h0
    have HL := hide (chkX_sub H.out)
    have hn64 : n ≤ 64 := by rw [← HN.out]; exact HL.out.1
    clear hc
    by_cases hz : n = 0
    · have hl0 : l = [] := List.length_eq_zero_iff.1 (HN.out.trans hz)
      rw [show chkSX l = 7 from if_pos hl0]
      subst hz
      clear hl0
      go_enter Try.func25, Try.ntmps25
      go_wp2_with fail
      refine (check_any A 0 c l _ HR.out).mono ?_
      rintro e w1 ⟨rfl, hb⟩
      rw [H.out]
      go_wp2_with fail
      go_ret3
      exact ⟨0, 0, rfl, fun h => absurd h (by decide), fun _ => ⟨rfl, rfl⟩, hb⟩
    · rw [show chkSX l = 0 from (chkSX_ne fun e => hz (by rw [← HN.out, e]; rfl)).trans H.out]
      have hnz : 0 < n := by omega
      clear hz
      have d1 : ((n : Int) == 0) = false := beq_eq_false_iff_ne.2 (by omega)
      go_enter Try.func25, Try.ntmps25
      go_wp2_with fail
      refine (check_any A n c l _ HR.out).mono ?_
      rintro e w1 ⟨rfl, hb⟩
      rw [H.out]
      go_wp2_with fail
      go_loopw [6, 7, 8] (fun u v b wr => ∃ h m j : Nat, j ≤ 12 ∧ u = .int .i64 (h : Int) ∧ v = .int .i64 (m : Int) ∧ b = .int .i64 (j : Int) ∧ Hid (MinQ (sdX l) j h m) ∧ Hid (Below w.heap.size w wr)) (fun _ _ b _ => 12 - (RowKit.intOf b).toNat)
      case atStart => exact ⟨0, 1000, 0, Nat.zero_le _, rfl, rfl, rfl, hide (.inl ⟨rfl, rfl, rfl⟩), hb⟩
      case round =>
        clear hb
        obtain ⟨h, m, j, hj, rfl, rfl, rfl, HP, HB⟩ := hrel
        by_cases hlt : j < 12
        · have d2 : decide ((j : Int) < 12) = true := decide_eq_true (by omega)
          go_wp2_with fail
          go_loopw [9, 10] (fun v b wr => ∃ i : Nat, i ≤ n ∧ v = .int .i64 (sdX (l.take i) j : Int) ∧ b = .int .i64 (i : Int) ∧ Hid (Below w.heap.size w wr)) (fun _ b _ => n - (RowKit.intOf b).toNat)
          case atStart => exact ⟨0, Nat.zero_le _, rfl, rfl, HB⟩
          case round =>
            clear HB
            obtain ⟨i, hi, rfl, rfl, HB⟩ := hrel
            have hs := sd_take_le HL.out.1 HL.out.2 hlt i
            by_cases hlh : i < n
            · have d3 : decide ((i : Int) < (n : Int)) = true := decide_eq_true (by omega)
              obtain ⟨b, o, x, rfl, hl, hx, k0⟩ := (HR.out.keep HB.out).at_ hlh
              obtain ⟨d, hd6, hd, hst⟩ := sd_step hlt hx (all_at HL.out.2 hx)
              have HD := hide hd
              have HS := hide hst
              have i2 : (0 : Int) ≤ (i : Int) := by omega
              have i3 : (i : Int) < (n : Int) := by omega
              clear hx hd hst
              obtain ⟨s, hss⟩ : ∃ s, sdX (l.take i) j = s := ⟨_, rfl⟩
              rw [hss] at hs HS ⊢
              clear hss
              have w2 : IntKind.i64.wrap ((s : Int) + (d : Int)) = (s : Int) + (d : Int) := IntWalk.i64_in _ (by omega)
              go_wp2_with fail
              refine (rdist_any (j : Int) x (d : Int) HD.out _).mono ?_
              rintro e w2 ⟨rfl, rfl⟩
              go_wp2_with fail
              go_roundw
              case measure => simp [RowKit.intOf]; omega
              case rel => exact ⟨i + 1, by omega, by rw [HS.out]; go_num, by go_num, HB⟩
            · obtain rfl : i = n := by omega
              have d3 : decide ((i : Int) < (i : Int)) = false := decide_eq_false (by omega)
              rw [show l.take i = l from List.take_of_length_le (by rw [HN.out]; exact Nat.le_refl _)] at hs ⊢
              obtain ⟨s, hss⟩ : ∃ s, sdX l j = s := ⟨_, rfl⟩
              rw [hss] at hs ⊢
              have HSS := hide hss
              clear hss
              by_cases hg : s < m
              · have d4 : decide ((s : Int) < (m : Int)) = true := decide_eq_true (by omega)
                go_wp2_with fail
                go_roundw
                case measure => simp [RowKit.intOf]; omega
                case rel => exact ⟨j, s, j + 1, by omega, rfl, rfl, by go_num, hide (by have := HP.out.more (by rw [HSS.out]; exact hg); rw [HSS.out] at this; exact this), HB⟩
              · have d4 : decide ((s : Int) < (m : Int)) = false := decide_eq_false (by omega)
                go_wp2_with fail
                go_roundw
                case measure => simp [RowKit.intOf]; omega
                case rel => exact ⟨h, m, j + 1, by omega, rfl, rfl, by go_num, hide (HP.out.stay (by rw [HSS.out]; exact hs) (by rw [HSS.out]; exact hg)), HB⟩
        · obtain rfl : j = 12 := by omega
          have HD := hide (show MedP l h m from by
            rcases HP.out with h | h
            · exact absurd h.1 (by decide)
            · exact h.2)
          go_wp2_with fail
          go_ret3
          exact ⟨h, m, rfl, fun _ => HD.out, fun h => absurd rfl h, HB.out⟩
  · have e : chkSX l = r := (chkSX_ne fun e => h0 (by rw [← H.out, e]; rfl)).trans H.out
    rw [e]
    rcases hc with rfl | rfl | rfl
    · exact absurd rfl h0
    all_goals
      clear h0 e
      go_enter Try.func25, Try.ntmps25
      go_wp2_with fail
      refine (check_any A n c l _ HR.out).mono ?_
      rintro e w1 ⟨rfl, hb⟩
      rw [H.out]
      go_wp2_with fail
      go_ret3
      exact ⟨0, 0, rfl, fun h => absurd h (by decide), fun _ => ⟨rfl, rfl⟩, hb⟩
end Go.Proofs.Ytfhidmlceemhaaa
