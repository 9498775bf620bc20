/- The methods of counts: inside, densest, arc. -/
import Derived.Test.YtfhidmlceemhaaaAC
namespace Go.Proofs.Ytfhidmlceemhaaa
open Go Go.RowKit Go.Lib
open AM
theorem ct64 {l : List Int} (hl : l.length ≤ 64) (h : Nat) : ctX l h ≤ 64 := Nat.le_trans (ctX_le l h) hl
set_option maxHeartbeats 4000000 in
theorem inside_any (l : List Int) (hl : l.length ≤ 64) (h n : Nat) (hh : h < 12) (hn : n ≤ 12) (w : World) :
    Calls Try.prog 41 #[.agg (cX l), .int .i64 (h : Int), .int .i64 (n : Int)] w fun e w' => e = .returned (.int .i64 (insF (ctX l) h n : Int)) ∧ Below w.heap.size w w' := by
  have HL := hide hl
  go_enter Try.func41, Try.ntmps41
  go_wp2_with fail
  generalize hW : w.alloc _ = W
  obtain ⟨B, o, -⟩ := boxC1 hW l rfl
  clear hW
  go_loopw [7, 10] (fun v a wr => ∃ k : Nat, k ≤ n ∧ v = .int .i64 (insF (ctX l) h k : Int) ∧ a = .int .i64 (k : Int) ∧ Hid (OC wr w.heap.size l) ∧ Hid (Below w.heap.size w wr)) (fun _ a _ => n - (RowKit.intOf a).toNat)
  case atStart => exact ⟨0, Nat.zero_le _, rfl, rfl, o, B⟩
  case round =>
    clear B o
    obtain ⟨k, hk, rfl, rfl, HO, HB⟩ := hrel
    have HS := hide (insF_succ (ctX l) h k)
    have hs : insF (ctX l) h k ≤ 768 := by
      have := sumX_le (f := fun i => ctX l ((h + i) % 12)) (b := 64) (fun i => ct64 HL.out _) k
      unfold insF
      omega
    obtain ⟨s, hss⟩ : ∃ s, insF (ctX l) h k = s := ⟨_, rfl⟩
    rw [hss] at hs HS ⊢
    have HSS := hide hss
    clear hss
    by_cases hlt : k < n
    · have d1 : decide ((k : Int) < (n : Int)) = true := decide_eq_true (by omega)
      obtain ⟨m, hm⟩ : ∃ m, (h + k) % 12 = m := ⟨_, rfl⟩
      have hm12 : m < 12 := by omega
      have HM := hide (show ((h : Int) + (k : Int)) % 12 = (m : Int) by omega)
      rw [hm] at HS
      clear hm
      have z2 := HO.out.cell hm12
      have hu2 := ct64 HL.out m
      obtain ⟨u, hu⟩ : ∃ u, ctX l m = u := ⟨_, rfl⟩
      rw [hu] at z2 hu2 HS
      clear hu
      have i4 : (0 : Int) ≤ (m : Int) := by omega
      have i5 : (m : Int) < 12 := by omega
      have w3 : IntKind.i64.wrap ((s : Int) + (u : Int)) = (s : Int) + (u : Int) := IntWalk.i64_in _ (by omega)
      go_wp2_with fail
      refine (turn_any (h : Int) (k : Int) (by omega) (by omega) (m : Int) HM.out _).mono ?_
      rintro e w1 ⟨rfl, rfl⟩
      go_wp2_with fail
      go_roundw
      case measure => simp [RowKit.intOf]; omega
      case rel => exact ⟨k + 1, by omega, by rw [HS.out]; go_num, by go_num, HO, HB⟩
    · obtain rfl : k = n := by omega
      have d1 : decide ((k : Int) < (k : Int)) = false := decide_eq_false (by omega)
      go_wp2_with fail
      go_ret
      exact ⟨by rw [HSS.out]; rfl, HB.out⟩
/-- what inside counts -/
theorem inside_all (l : List Int) (hl : l.length ≤ 64) (ha : l.all hrX = true) (h n : Nat) (hh : h < 12) (hn : n ≤ 12) (w : World) :
    Calls Try.prog 41 #[.agg (cX l), .int .i64 (h : Int), .int .i64 (n : Int)] w fun e w' => e = .returned (.int .i64 (insX l h n : Int)) ∧ Below w.heap.size w w' := by
  rw [← insF_ct h n hn l ha]
  exact inside_any l hl h n hh hn w
set_option maxHeartbeats 4000000 in
theorem densest_any (l : List Int) (hl : l.length ≤ 64) (ha : l.all hrX = true) (n : Nat) (hn : n ≤ 12) (w : World) :
    Calls Try.prog 39 #[.agg (cX l), .int .i64 (n : Int)] w fun e w' => ∃ h m : Nat, e = .returned (.tuple #[.int .i64 (h : Int), .int .i64 (m : Int)]) ∧ DenP l n h m ∧ Below w.heap.size w w' := by
  have HL := hide hl
  have HA := hide ha
  clear ha
  go_enter Try.func39, Try.ntmps39
  have F := boxC1 (rfl : w.alloc (.cells _ 41) = _) l rfl
  go_wp2_with (first | (refine wpList_load_row rfl 41 _ rfl w.heap.size rfl 41 _ (0, 0) _ F.2.1.row Try.underlying41 rfl (cX_info _) ?_))
  generalize hW : w.alloc _ = W at F
  obtain ⟨B, o, -⟩ := F
  clear hW
  refine (inside_all l HL.out HA.out 0 n (by decide) hn _).mono ?_
  rintro e w1 ⟨rfl, hb⟩
  replace o := o.below' hb
  replace B := nxt B hb
  clear hb
  have HF := hide (MaxP.first (fun j => insX l j n))
  have hm0 := insX_le l ((0 : Nat) : Int) n
  obtain ⟨m0, hm0'⟩ : ∃ m, insX l ((0 : Nat) : Int) n = m := ⟨_, rfl⟩
  rw [hm0'] at hm0 HF ⊢
  clear hm0'
  go_wp2_with fail
  go_loopw [6, 7, 8] (fun v a b wr => ∃ k h m : Nat, 1 ≤ k ∧ k ≤ 12 ∧ v = .int .i64 (h : Int) ∧ a = .int .i64 (m : Int) ∧ b = .int .i64 (k : Int) ∧ m ≤ l.length ∧ Hid (MaxP (fun j => insX l j n) k h m) ∧ Hid (OC wr w.heap.size l) ∧ Hid (Below w.heap.size w wr)) (fun _ _ b _ => 12 - (RowKit.intOf b).toNat)
  case atStart => exact ⟨1, 0, m0, Nat.le_refl _, by decide, rfl, rfl, rfl, hm0, HF, o, B⟩
  case round =>
    clear B o HF hm0
    obtain ⟨k, h, m, hk1, hk, rfl, rfl, rfl, hm, HP, HO, HB⟩ := hrel
    by_cases hlt : k < 12
    · have d1 : decide ((k : Int) < 12) = true := decide_eq_true (by omega)
      go_wp2_with (first | (refine wpList_load_row rfl 41 _ rfl w.heap.size rfl 41 _ (0, 0) _ HO.out.row Try.underlying41 rfl (cX_info _) ?_))
      refine (inside_all l HL.out HA.out k n hlt hn _).mono ?_
      rintro e w1 ⟨rfl, hb⟩
      have HO1 := hide (HO.out.below' hb)
      have HB1 := hide (nxt HB.out hb)
      clear hb HO HB
      have hq := insX_le l ((k : Nat) : Int) n
      have HQ := hide (show (fun j : Nat => insX l j n) k = insX l (k : Int) n from rfl)
      obtain ⟨q, hq'⟩ : ∃ q, insX l ((k : Nat) : Int) n = q := ⟨_, rfl⟩
      rw [hq'] at hq HQ ⊢
      clear hq'
      by_cases hg : m < q
      · have d2 : decide ((q : Int) > (m : Int)) = true := decide_eq_true (by omega)
        have d3 : decide ((m : Int) < (q : Int)) = true := decide_eq_true (by omega)
        go_wp2_with fail
        go_roundw
        case measure => simp [RowKit.intOf]; omega
        case rel => exact ⟨k + 1, k, q, by omega, by omega, rfl, rfl, by go_num, hq, hide (by have := HP.out.more (by rw [HQ.out]; exact hg); rw [HQ.out] at this; exact this), HO1, HB1⟩
      · have d2 : decide ((q : Int) > (m : Int)) = false := decide_eq_false (by omega)
        have d3 : decide ((m : Int) < (q : Int)) = false := decide_eq_false (by omega)
        go_wp2_with fail
        go_roundw
        case measure => simp [RowKit.intOf]; omega
        case rel => exact ⟨k + 1, h, m, by omega, by omega, rfl, rfl, by go_num, hm, hide (HP.out.stay (by rw [HQ.out]; exact hg)), HO1, HB1⟩
    · obtain rfl : k = 12 := by omega
      go_wp2_with fail
      go_ret2
      exact ⟨h, m, rfl, HP.out, HB.out⟩
set_option maxHeartbeats 4000000 in
theorem marc_any (l : List Int) (hl : l.length ≤ 64) (ha : l.all hrX = true) (w : World) :
    Calls Try.prog 36 #[.agg (cX l)] w fun e w' => ∃ h m : Nat, e = .returned (.tuple #[.int .i64 (h : Int), .int .i64 (m : Int)]) ∧ ArcP l h m ∧ Below w.heap.size w w' := by
  have HL := hide hl
  have HA := hide ha
  clear ha
  go_enter Try.func36, Try.ntmps36
  have F := boxC1 (rfl : w.alloc (.cells _ 41) = _) l rfl
  go_wp2_with (first | (refine wpList_load_row rfl 41 _ rfl w.heap.size rfl 41 _ (0, 0) _ F.2.1.row Try.underlying41 rfl (cX_info _) ?_))
  generalize hW : w.alloc _ = W at F
  obtain ⟨B, o, -⟩ := F
  clear hW
  refine (inside_all l HL.out HA.out 0 12 (by decide) (by decide) _).mono ?_
  rintro e w1 ⟨rfl, hb⟩
  replace o := o.below' hb
  replace B := nxt B hb
  clear hb
  rw [insX_twelve l _ _ (by decide)]
  go_wp2_with fail
  go_loopw [5] (fun b wr => ∃ k : Nat, 1 ≤ k ∧ k ≤ 12 ∧ b = .int .i64 (k : Int) ∧ Hid (∀ m j : Nat, 1 ≤ m → m < k → j < 12 → insX l j m ≠ l.length) ∧ Hid (OC wr w.heap.size l) ∧ Hid (Below w.heap.size w wr)) (fun b _ => 12 - (RowKit.intOf b).toNat)
  case atStart => exact ⟨1, Nat.le_refl _, by decide, rfl, hide (fun m j h1 h2 => by omega), o, B⟩
  case round =>
    clear B o
    obtain ⟨k, hk1, hk, rfl, HP, HO, HB⟩ := hrel
    by_cases hlt : k < 12
    · have d1 : decide ((k : Int) < 12) = true := decide_eq_true (by omega)
      go_wp2_with (first | (refine wpList_load_row rfl 41 _ rfl w.heap.size rfl 41 _ (0, 0) _ HO.out.row Try.underlying41 rfl (cX_info _) ?_))
      refine (densest_any l HL.out HA.out k hk _).mono ?_
      rintro e w1 ⟨h, m, rfl, hd, hb⟩
      have HD := hide hd
      have HO1 := hide (HO.out.below' hb)
      have HB1 := hide (nxt HB.out hb)
      clear hb HO HB hd
      by_cases hg : m = l.length
      · have d2 : ((m : Int) == (l.length : Int)) = true := beq_iff_eq.2 (by omega)
        have HG := hide hg
        clear hg
        go_wp2_with fail
        go_ret2
        exact ⟨h, k, rfl, den_arc hk1 hlt HD.out HG.out HP.out, HB1.out⟩
      · have d2 : ((m : Int) == (l.length : Int)) = false := beq_eq_false_iff_ne.2 (by omega)
        have HG := hide hg
        clear hg
        go_wp2_with fail
        go_roundw
        case measure => simp [RowKit.intOf]; omega
        case rel =>
          refine ⟨k + 1, by omega, by omega, by go_num, hide (fun m j h1 h2 h3 => ?_), HO1, HB1⟩
          by_cases hmk : m < k
          · exact HP.out m j h1 hmk h3
          · obtain rfl : m = k := by omega
            exact den_none HD.out HG.out j h3
    · obtain rfl : k = 12 := by omega
      go_wp2_with fail
      go_ret2
      exact ⟨0, 12, rfl, arc_last HP.out, HB.out⟩
end Go.Proofs.Ytfhidmlceemhaaa
