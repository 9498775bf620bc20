/- list, steps. -/
import Derived.Test.YtgmdfaamheblmaaPARow
import Derived.Test.YtgmdfaamheblmaaPRdy
namespace Go.Proofs.Ytgmdfaamheblmaa
open Go Go.RowKit PM

theorem arcs_le {n i j : Nat} (hn : n ≤ 24) (hi : i < n) (hj : j ≤ n) (R : Nat → Nat → Bool) : (arcsTo n R i ++ rowTo R i j).length ≤ 576 := by
  rw [List.length_append]
  have h1 := arcsTo_len n R i
  have h2 := rowTo_len R i j
  have h3 : (i + 1) * n ≤ 24 * 24 := Nat.mul_le_mul (by omega) hn
  rw [Nat.succ_mul] at h3
  omega
theorem listR_len {n : Nat} (hn : n ≤ 24) (R : Nat → Nat → Bool) : (listR n R).length ≤ 576 := by
  have h1 := arcsTo_len n R n
  have h3 : n * n ≤ 24 * 24 := Nat.mul_le_mul hn hn
  unfold listR; omega
set_option maxHeartbeats 8000000 in
theorem list_any (n : Nat) (R : Nat → Nat → Bool) (w : World) (hn : n ≤ 24) :
    Calls Try.prog 41 #[.int .i64 (n : Int), .agg (cR R)] w fun e w' => (∃ A c, e = .returned (.slice A (listR n (off R)).length c) ∧ AR w' w.heap.size A (listR n (off R)).length c ((listR n (off R)).map zA)) ∧ Below w.heap.size w w' := by
  go_enter Try.func41, Try.ntmps41
  go_wp2_with fail
  generalize hW : w.alloc _ = W
  obtain ⟨B, o3⟩ := boxO1 hW R rfl
  clear hW
  obtain ⟨G, hG⟩ : ∃ G, W.heap.size = G := ⟨_, rfl⟩
  have HG := hide (show w.heap.size ≤ G ∧ w.heap.size < G from by have := o3.lt; have := B.size; omega)
  have HG1 := hide (Nat.le_of_eq hG.symm)
  clear hG
  go_loopw [5, 9] (fun v5 v9 wr => ∃ (i q : Nat) (As : Option Addr) (cs : Nat), i ≤ n ∧ v9 = .int .i64 ((i : Nat) : Int) ∧ v5 = .slice As q cs ∧ AR wr G As q cs ((arcsTo n (off R) i).map zA) ∧ Below w.heap.size w wr ∧ OR wr w.heap.size R ∧ G ≤ wr.heap.size) (fun _ v9 _ => n - (RowKit.intOf v9).toNat)
  case atStart => exact ⟨0, 0, none, 0, by omega, rfl, rfl, AR.nil_, B, o3, HG1.out⟩
  case round =>
    clear B o3 HG1
    obtain ⟨i, q, As, cs, hi, rfl, rfl, hr, B, o3, hGw⟩ := hrel
    by_cases hlt : i < n
    · have hi24 : i < 24 := by omega
      have hin : (i : Int) < (n : Int) := by omega
      have i1 : (0 : Int) ≤ (i : Int) := by omega
      have i2 : (i : Int) < 24 := by omega
      go_wp2_with fail
      go_loopw [5, 13] (fun v5 v13 wr => ∃ (j q : Nat) (As : Option Addr) (cs : Nat), j ≤ n ∧ v13 = .int .i64 ((j : Nat) : Int) ∧ v5 = .slice As q cs ∧ AR wr G As q cs ((arcsTo n (off R) i ++ rowTo (off R) i j).map zA) ∧ Below w.heap.size w wr ∧ OR wr w.heap.size R ∧ G ≤ wr.heap.size) (fun _ v13 _ => n - (RowKit.intOf v13).toNat)
      case atStart => exact ⟨0, q, As, cs, by omega, rfl, rfl, by unfold rowTo; rw [List.append_nil]; exact hr, B, o3, hGw⟩
      case round =>
        clear B o3 hGw hr
        obtain ⟨j, q, As, cs, hj, rfl, rfl, hr, B, o3, hGw⟩ := hrel
        by_cases hlt2 : j < n
        · have hj24 : j < 24 := by omega
          have hjn : (j : Int) < (n : Int) := by omega
          by_cases hij : i = j
          · subst hij
            have HN := hide (show arcsTo n (off R) i ++ rowTo (off R) i (i + 1) = arcsTo n (off R) i ++ rowTo (off R) i i from by
              congr 1
              conv => lhs; unfold rowTo
              rw [if_neg (by simp [off]), List.append_nil])
            go_wp2_with fail
            go_roundw
            case measure => simp [RowKit.intOf]; omega
            case rel => exact ⟨i + 1, q, As, cs, by omega, by go_num, rfl, by rw [HN.out]; exact hr, B, o3, hGw⟩
          · have e3 : ¬ (i : Int) = (j : Int) := by omega
            have z2 := o3.cell hi24
            obtain ⟨r, hr0⟩ : ∃ r, R i j = r := ⟨_, rfl⟩
            have HQ := hide hr0
            have HO := hide (show off R i j = r from by unfold off; rw [hr0, beq_eq_false_iff_ne.2 hij]; rfl)
            clear hr0 hij
            go_wp2_with fail
            refine (has_any _ j hj24 _ r HQ.out).mono ?_
            rintro e w7 ⟨rfl, rfl⟩
            cases r with
            | true =>
              have HN := hide (show (arcsTo n (off R) i ++ rowTo (off R) i (j + 1)).map zA = (arcsTo n (off R) i ++ rowTo (off R) i j).map zA ++ [((i : Int), (j : Int))] from by
                conv => lhs; unfold rowTo
                rw [if_pos HO.out, ← List.append_assoc, List.map_append]; rfl)
              have hq : q ≤ 576 := by
                have h1 := arcs_le hn hlt hj (off R)
                have h2 := hr.len
                rw [List.length_map] at h2; omega
              have HBF := hide hGw
              have F : Below wr.heap.size wr (wr.alloc (.cells #[.int .i64 (i : Int), .int .i64 (j : Int)] 42)) := (Below.refl _ _).alloc (Nat.le_refl _) _
              go_wp2_with (at_builtin; refine wpList_append_ar rfl _ _ 22 rfl Try.underlying22 arc_info G _ q cs _ rfl (hr.below F) (some ⟨wr.heap.size, 0, none⟩) 1 1 [((i : Int), (j : Int))] rfl (yl_one wr 42 (i : Int) (j : Int)) (q + 1) rfl (by omega) (by have := HBF.out; simp; omega) ?_; intro A9 c9 w9 hr9 hG9)
              have o9 := hG9.or (o3.below' F) (fun b o e => by have := (hr.lt b o e).1; have := HG.out.2; omega)
              have B9 := (B.trans (F.mono B.size)).trans (hG9.1.mono HG.out.1)
              have hs9 : G ≤ w9.heap.size := Nat.le_trans HBF.out (Nat.le_trans F.size hG9.2.1)
              clear o3 hr F hG9 B hGw
              go_roundw
              case measure => simp [RowKit.intOf]; omega
              case rel => exact ⟨j + 1, q + 1, A9, c9, by omega, by go_num, rfl, by rw [HN.out]; exact hr9, B9, o9, hs9⟩
            | false =>
              have HN := hide (show arcsTo n (off R) i ++ rowTo (off R) i (j + 1) = arcsTo n (off R) i ++ rowTo (off R) i j from by
                congr 1
                conv => lhs; unfold rowTo
                rw [if_neg (by rw [HO.out]; decide), List.append_nil])
              go_wp2_with fail
              go_roundw
              case measure => simp [RowKit.intOf]; omega
              case rel => exact ⟨j + 1, q, As, cs, by omega, by go_num, rfl, by rw [HN.out]; exact hr, B, o3, hGw⟩
        · obtain rfl : j = n := by omega
          have d7 : decide ((j : Int) < (j : Int)) = false := decide_eq_false (by omega)
          go_wp2_with fail
          go_roundw
          case measure => simp [RowKit.intOf]; omega
          case rel => exact ⟨i + 1, q, As, cs, by omega, by go_num, rfl, hr, B, o3, hGw⟩
    · obtain rfl : i = n := by omega
      have d7 : decide ((i : Int) < (i : Int)) = false := decide_eq_false (by omega)
      have hq : q = (listR i (off R)).length := by have := hr.len; rw [List.length_map] at this; exact this.symm
      subst hq
      go_wp2_with fail
      go_ret
      exact ⟨⟨As, cs, rfl, hr.low HG.out.1⟩, B⟩
end Go.Proofs.Ytgmdfaamheblmaa
