/- The methods of counts: distances, median, farthest. -/
import Derived.Test.YtfhidmlceemhaaaAE
namespace Go.Proofs.Ytfhidmlceemhaaa
open Go Go.RowKit Go.Lib
open AM
theorem cX_index (l : List Int) {k : Nat} (hk : k < 12) (w : World) : Sem.run Try.prog (Instr.index 41 (.agg (cX l)) (.int .i64 (k : Int))) w = .ok (.int .i64 (ctX l k : Int)) w := by
  rcases (show k = 0 ∨ k = 1 ∨ k = 2 ∨ k = 3 ∨ k = 4 ∨ k = 5 ∨ k = 6 ∨ k = 7 ∨ k = 8 ∨ k = 9 ∨ k = 10 ∨ k = 11 by omega) with rfl | rfl | rfl | rfl | rfl | rfl | rfl | rfl | rfl | rfl | rfl | rfl <;> kernel_rfl
set_option maxHeartbeats 4000000 in
theorem dists_any (l : List Int) (hl : l.length ≤ 64) (h : Nat) (hh : h < 12) (w : World) :
    Calls Try.prog 42 #[.agg (cX l), .int .i64 (h : Int)] w fun e w' => e = .returned (.int .i64 (sumX (fun j => ctX l j * dsN h j) 12 : Int)) ∧ Below w.heap.size w w' := by
  have HL := hide hl
  go_enter Try.func42, Try.ntmps42
  have F := boxC1 (rfl : w.alloc (.cells _ 41) = _) l rfl
  go_wp2_with (first | (refine wpList_load_row rfl 41 _ rfl w.heap.size rfl 41 _ (0, 0) _ F.2.1.row Try.underlying41 rfl (cX_info _) ?_))
  generalize hW : w.alloc _ = W at F
  obtain ⟨B, o, -⟩ := F
  clear hW o
  go_loopw [5, 9] (fun v a wr => ∃ k : Nat, k ≤ 12 ∧ v = .int .i64 (sumX (fun j => ctX l j * dsN h j) k : Int) ∧ a = .int .i64 (k : Int) ∧ Hid (Below w.heap.size w wr)) (fun _ a _ => 12 - (RowKit.intOf a).toNat)
  case atStart => exact ⟨0, Nat.zero_le _, rfl, rfl, B⟩
  case round =>
    clear B
    obtain ⟨k, hk, rfl, rfl, HB⟩ := hrel
    have HS := hide (show sumX (fun j => ctX l j * dsN h j) (k + 1) = sumX (fun j => ctX l j * dsN h j) k + ctX l k * dsN h k from rfl)
    have hp : ∀ j, ctX l j * dsN h j ≤ 384 := fun j => Nat.le_trans (Nat.mul_le_mul (ct64 HL.out j) (dsN_le h j)) (by decide)
    have hs : sumX (fun j => ctX l j * dsN h j) k ≤ 4608 := by
      have := sumX_le hp k
      omega
    obtain ⟨s, hss⟩ : ∃ s, sumX (fun j => ctX l j * dsN h j) k = s := ⟨_, rfl⟩
    rw [hss] at hs HS ⊢
    have HSS := hide hss
    clear hss
    by_cases hlt : k < 12
    · have d1 : decide ((k : Int) < 12) = true := decide_eq_true (by omega)
      have z := fun W => cX_index l hlt W
      have hpk := hp k
      have hu2 := ct64 HL.out k
      obtain ⟨u, hu⟩ : ∃ u, ctX l k = u := ⟨_, rfl⟩
      simp only [hu] at z HS hpk hu2
      clear hu
      have HDS := hide (dsX_nat hh hlt)
      have hd6 := dsN_le h k
      obtain ⟨d, hd⟩ : ∃ d, dsN h k = d := ⟨_, rfl⟩
      rw [hd] at hpk HS hd6 HDS
      clear hd
      have HP := hide (show ((u * d : Nat) : Int) = (u : Int) * (d : Int) from Int.natCast_mul u d)
      obtain ⟨q, hq⟩ : ∃ q, u * d = q := ⟨_, rfl⟩
      rw [hq] at hpk HS HP
      clear hq
      have w2 : IntKind.i64.wrap ((u : Int) * (d : Int)) = (q : Int) := by rw [← HP.out]; exact IntWalk.i64_in _ (by omega)
      have w3 : IntKind.i64.wrap ((s : Int) + (q : Int)) = (s : Int) + (q : Int) := IntWalk.i64_in _ (by omega)
      go_wp2_with fail
      refine (dist_any (h : Int) (k : Int) (d : Int) HDS.out _).mono ?_
      rintro e w1 ⟨rfl, rfl⟩
      go_wp2_with fail
      go_roundw
      case measure => simp [RowKit.intOf]; omega
      case rel => exact ⟨k + 1, by omega, by rw [HS.out]; go_num, by go_num, HB⟩
    · obtain rfl : k = 12 := by omega
      go_wp2_with fail
      go_ret
      exact ⟨by rw [HSS.out]; rfl, HB.out⟩
/-- what distances adds up -/
theorem dists_all (l : List Int) (hl : l.length ≤ 64) (ha : l.all hrX = true) (h : Nat) (hh : h < 12) (w : World) :
    Calls Try.prog 42 #[.agg (cX l), .int .i64 (h : Int)] w fun e w' => e = .returned (.int .i64 (sdX l h : Int)) ∧ Below w.heap.size w w' := by
  rw [← sdF_ct hh l ha]
  exact dists_any l hl h hh w
set_option maxHeartbeats 4000000 in
theorem mmed_any (l : List Int) (hl : l.length ≤ 64) (ha : l.all hrX = true) (w : World) :
    Calls Try.prog 38 #[.agg (cX l)] w fun e w' => ∃ h m : Nat, e = .returned (.tuple #[.int .i64 (h : Int), .int .i64 (m : Int)]) ∧ MedP l h m ∧ Below w.heap.size w w' := by
  have HL := hide hl
  have HA := hide ha
  clear ha
  go_enter Try.func38, Try.ntmps38
  have F := boxC1 (rfl : w.alloc (.cells _ 41) = _) l rfl
  go_wp2_with (first | (refine wpList_load_row rfl 41 _ rfl w.heap.size rfl 41 _ (0, 0) _ F.2.1.row Try.underlying41 rfl (cX_info _) ?_))
  generalize hW : w.alloc _ = W at F
  obtain ⟨B, o, -⟩ := F
  clear hW
  refine (dists_all l HL.out HA.out 0 (by decide) _).mono ?_
  rintro e w1 ⟨rfl, hb⟩
  replace o := o.below' hb
  replace B := nxt B hb
  clear hb
  have HF := hide (MinP.first (sdX l))
  obtain ⟨m0, hm0'⟩ : ∃ m, sdX l 0 = m := ⟨_, rfl⟩
  rw [hm0'] at HF ⊢
  clear hm0'
  go_wp2_with fail
  go_loopw [4, 5, 6] (fun v a b wr => ∃ k h m : Nat, 1 ≤ k ∧ k ≤ 12 ∧ v = .int .i64 (h : Int) ∧ a = .int .i64 (m : Int) ∧ b = .int .i64 (k : Int) ∧ Hid (MinP (sdX l) k h m) ∧ Hid (OC wr w.heap.size l) ∧ Hid (Below w.heap.size w wr)) (fun _ _ b _ => 12 - (RowKit.intOf b).toNat)
  case atStart => exact ⟨1, 0, m0, Nat.le_refl _, by decide, rfl, rfl, rfl, HF, o, B⟩
  case round =>
    clear B o HF
    obtain ⟨k, h, m, hk1, hk, rfl, rfl, rfl, HP, HO, HB⟩ := hrel
    by_cases hlt : k < 12
    · have d1 : decide ((k : Int) < 12) = true := decide_eq_true (by omega)
      go_wp2_with (first | (refine wpList_load_row rfl 41 _ rfl w.heap.size rfl 41 _ (0, 0) _ HO.out.row Try.underlying41 rfl (cX_info _) ?_))
      refine (dists_all l HL.out HA.out k hlt _).mono ?_
      rintro e w1 ⟨rfl, hb⟩
      have HO1 := hide (HO.out.below' hb)
      have HB1 := hide (nxt HB.out hb)
      clear hb HO HB
      obtain ⟨q, hq'⟩ : ∃ q, sdX l k = q := ⟨_, rfl⟩
      have HQ := hide hq'
      rw [hq']
      clear hq'
      by_cases hg : q < m
      · have d2 : decide ((q : Int) < (m : Int)) = true := decide_eq_true (by omega)
        go_wp2_with fail
        go_roundw
        case measure => simp [RowKit.intOf]; omega
        case rel => exact ⟨k + 1, k, q, by omega, by omega, rfl, rfl, by go_num, hide (by have := HP.out.more (by rw [HQ.out]; exact hg); rw [HQ.out] at this; exact this), HO1, HB1⟩
      · have d2 : decide ((q : Int) < (m : Int)) = false := decide_eq_false (by omega)
        go_wp2_with fail
        go_roundw
        case measure => simp [RowKit.intOf]; omega
        case rel => exact ⟨k + 1, h, m, by omega, by omega, rfl, rfl, by go_num, hide (HP.out.stay (by rw [HQ.out]; exact hg)), HO1, HB1⟩
    · obtain rfl : k = 12 := by omega
      go_wp2_with fail
      go_ret2
      exact ⟨h, m, rfl, HP.out, HB.out⟩
set_option maxHeartbeats 4000000 in
theorem far_any (l : List Int) (hl : l.length ≤ 64) (h : Nat) (hh : h < 12) (w : World) :
    Calls Try.prog 40 #[.agg (cX l), .int .i64 (h : Int)] w fun e w' => ∃ m : Nat, e = .returned (.int .i64 (m : Int)) ∧ (∀ t : Nat, m ≤ t ↔ ∀ j, j < 12 → 0 < ctX l j → dsN h j ≤ t) ∧ Below w.heap.size w w' := by
  have HL := hide hl
  go_enter Try.func40, Try.ntmps40
  have F := boxC1 (rfl : w.alloc (.cells _ 41) = _) l rfl
  go_wp2_with (first | (refine wpList_load_row rfl 41 _ rfl w.heap.size rfl 41 _ (0, 0) _ F.2.1.row Try.underlying41 rfl (cX_info _) ?_))
  generalize hW : w.alloc _ = W at F
  obtain ⟨B, o, -⟩ := F
  clear hW o
  go_loopw [5, 9] (fun v a wr => ∃ k m : Nat, k ≤ 12 ∧ m ≤ 6 ∧ v = .int .i64 (m : Int) ∧ a = .int .i64 (k : Int) ∧ Hid (∀ t : Nat, m ≤ t ↔ ∀ j, j < k → 0 < ctX l j → dsN h j ≤ t) ∧ Hid (Below w.heap.size w wr)) (fun _ a _ => 12 - (RowKit.intOf a).toNat)
  case atStart => exact ⟨0, 0, Nat.zero_le _, Nat.zero_le _, rfl, rfl, hide (fun t => ⟨fun _ j hj => by omega, fun _ => Nat.zero_le _⟩), B⟩
  case round =>
    clear B
    obtain ⟨k, m, hk, hm6, rfl, rfl, HM, HB⟩ := hrel
    by_cases hlt : k < 12
    · have d1 : decide ((k : Int) < 12) = true := decide_eq_true (by omega)
      have z := fun W => cX_index l hlt W
      obtain ⟨u, hu⟩ : ∃ u, ctX l k = u := ⟨_, rfl⟩
      simp only [hu] at z
      have HU := hide hu
      clear hu
      by_cases hu0 : 0 < u
      · have d2 : decide ((u : Int) > 0) = true := decide_eq_true (by omega)
        have d3 : decide ((0 : Int) < (u : Int)) = true := decide_eq_true (by omega)
        have d4 : decide (0 < u) = true := decide_eq_true (by omega)
        have HDS := hide (dsX_nat hh hlt)
        have hd6 := dsN_le h k
        obtain ⟨d, hd⟩ : ∃ d, dsN h k = d := ⟨_, rfl⟩
        rw [hd] at hd6 HDS
        have HD := hide hd
        clear hd
        go_wp2_with fail
        refine (dist_any (h : Int) (k : Int) (d : Int) HDS.out _).mono ?_
        rintro e w1 ⟨rfl, rfl⟩
        go_wp2_with fail
        go_roundw
        case measure => simp [RowKit.intOf]; omega
        case rel =>
          refine ⟨k + 1, max m d, by omega, by omega, by rw [show ((max m d : Nat) : Int) = max (m : Int) (d : Int) by omega], by go_num, hide (fun t => ?_), HB⟩
          constructor
          · intro hle j hj hc
            by_cases hjk : j < k
            · exact (HM.out t).1 (by omega) j hjk hc
            · obtain rfl : j = k := by omega
              rw [HD.out]; omega
          · intro H
            have h1 := (HM.out t).2 fun j hj => H j (by omega)
            have h2 := H k (by omega) (by rw [HU.out]; exact hu0)
            rw [HD.out] at h2
            omega
      · have d2 : decide ((u : Int) > 0) = false := decide_eq_false (by omega)
        have d3 : decide ((0 : Int) < (u : Int)) = false := decide_eq_false (by omega)
        have d4 : decide (0 < u) = false := decide_eq_false (by omega)
        go_wp2_with fail
        go_roundw
        case measure => simp [RowKit.intOf]; omega
        case rel =>
          refine ⟨k + 1, m, by omega, hm6, rfl, by go_num, hide (fun t => (HM.out t).trans ⟨fun H j hj hc => ?_, fun H j hj => H j (by omega)⟩), HB⟩
          by_cases hjk : j < k
          · exact H j hjk hc
          · obtain rfl : j = k := by omega
            rw [HU.out] at hc
            exact absurd hc hu0
    · obtain rfl : k = 12 := by omega
      go_wp2_with fail
      go_ret
      exact ⟨m, rfl, HM.out, HB.out⟩
end Go.Proofs.Ytfhidmlceemhaaa
