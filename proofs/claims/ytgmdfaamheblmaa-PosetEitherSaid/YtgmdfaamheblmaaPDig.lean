/- The reference's digraphs. -/
import Derived.Test.YtgmdfaamheblmaaPEqs
namespace Go.Proofs.Ytgmdfaamheblmaa
open Go Go.RowKit PM

set_option maxHeartbeats 16000000 in
set_option maxRecDepth 100000 in
theorem dig_loop (N : Nat) (A : Option Addr) (m c : Nat) (l : List (Int × Int)) (w : World) (hx : YL w A m l) (hN : N ≤ 24) (hmn : m ≤ N * N) (r : Bool) (hr : vL N none l = r) :
    Calls Try.prog 36 #[.int .i64 (N : Int), .slice A m c] w fun e w' => e = .returned (.bool r) ∧ Below w.heap.size w w' := by
  have HX := hide hx
  have HR := hide hr
  have hq24 : N * N ≤ 576 := Nat.mul_le_mul hN hN
  obtain ⟨q, hq⟩ : ∃ q, N * N = q := ⟨_, rfl⟩
  rw [hq] at hmn hq24
  have hqi : (N : Int) * (N : Int) = (q : Int) := by rw [← hq]; exact (Int.natCast_mul N N).symm
  have W0 : IntKind.i64.wrap ((N : Int) * (N : Int)) = (q : Int) := by rw [hqi]; exact IntWalk.i64_in _ (by omega)
  have d0 : decide ((N : Int) < 0) = false := decide_eq_false (by omega)
  have d1 : decide ((24 : Int) < (N : Int)) = false := decide_eq_false (by omega)
  have d2 : decide ((q : Int) < (m : Int)) = false := decide_eq_false (by omega)
  have d3 : decide (q < m) = false := decide_eq_false (by omega)
  have hm : m ≤ 576 := by omega
  clear hx hr hq hqi
  go_enter Try.func36, Try.ntmps36
  go_wp2_with fail
  clear W0
  go_loopw [5] (fun v5 wr => ∃ (k z : Nat), k ≤ m ∧ v5 = .int .i64 ((k : Nat) : Int) ∧ wr = w.drewN z ∧ Hid (vL N (befA l k) (l.drop k) = r)) (fun v5 _ => m - (RowKit.intOf v5).toNat)
  case atStart => exact ⟨0, 0, by omega, rfl, rfl, hide (by rw [List.drop_zero]; exact HR.out)⟩
  case round =>
    obtain ⟨k, z, hk, rfl, rfl, HS⟩ := hrel
    have HB : Hid (Below w.heap.size w (w.drewN z)) := below_drewN (Below.refl _ _) z
    have HQ : Hid (∀ y, (w.drewN z).drewN y = w.drewN (z + y)) := fun y => World.drewN_drewN _ _ _
    by_cases hlt : k < m
    · obtain ⟨b, o, y, rfl, hbl, hy, k0, k1⟩ := (HX.out.keep HB.out).at_ hlt
      have HD := hide (show vL N (befA l k) (y :: l.drop (k + 1)) = r from by rw [← drop_atA hy]; exact HS.out)
      have HXX := hide (HX.out.keep HB.out)
      obtain ⟨x, y⟩ := y
      simp only at k0 k1
      have HY := hide hy
      clear hy HS
      generalize w.drewN z = W at *
      have i1 : (0 : Int) ≤ (k : Int) := by omega
      have i2 : (k : Int) < (m : Int) := by omega
      by_cases a1 : x < 0
      · have e1 : decide (x < 0) = true := decide_eq_true a1
        obtain rfl : r = false := by rw [← HD.out]; exact vL_bad fun h => by omega
        clear HD HY HX HXX HR
        go_wp2_with fail
        go_quiet (fail)
        go_wp2_with fail
        go_ret
        exact ⟨rfl, below_drewN HB.out _⟩
      have e1 : decide (x < 0) = false := decide_eq_false a1
      by_cases a2 : (N : Int) ≤ x
      · have e2 : decide ((N : Int) ≤ x) = true := decide_eq_true a2
        obtain rfl : r = false := by rw [← HD.out]; exact vL_bad fun h => by omega
        clear HD HY HX HXX HR
        go_wp2_with fail
        go_quiet (fail)
        go_wp2_with fail
        go_ret
        exact ⟨rfl, below_drewN HB.out _⟩
      have e2 : decide ((N : Int) ≤ x) = false := decide_eq_false a2
      by_cases a3 : y < 0
      · have e3 : decide (y < 0) = true := decide_eq_true a3
        obtain rfl : r = false := by rw [← HD.out]; exact vL_bad fun h => by omega
        clear HD HY HX HXX HR
        go_wp2_with fail
        go_quiet (fail)
        go_wp2_with fail
        go_ret
        exact ⟨rfl, below_drewN HB.out _⟩
      have e3 : decide (y < 0) = false := decide_eq_false a3
      by_cases a4 : (N : Int) ≤ y
      · have e4 : decide ((N : Int) ≤ y) = true := decide_eq_true a4
        obtain rfl : r = false := by rw [← HD.out]; exact vL_bad fun h => by omega
        clear HD HY HX HXX HR
        go_wp2_with fail
        go_quiet (fail)
        go_wp2_with fail
        go_ret
        exact ⟨rfl, below_drewN HB.out _⟩
      have e4 : decide ((N : Int) ≤ y) = false := decide_eq_false a4
      by_cases a5 : x = y
      · have e5 : (x == y) = true := beq_iff_eq.2 a5
        obtain rfl : r = false := by rw [← HD.out]; exact vL_bad fun h => h.2.2 a5
        clear HD HY HX HXX HR
        go_wp2_with fail
        go_quiet (fail)
        go_wp2_with fail
        go_ret
        exact ⟨rfl, below_drewN HB.out _⟩
      have e5 : (x == y) = false := beq_eq_false_iff_ne.2 a5
      have hok : (0 ≤ x ∧ x < (N : Int)) ∧ (0 ≤ y ∧ y < (N : Int)) ∧ x ≠ y := ⟨⟨by omega, by omega⟩, ⟨by omega, by omega⟩, a5⟩
      rcases Nat.eq_zero_or_pos k with hk0 | hk0
      · have i0 : decide ((0 : Int) < (k : Int)) = false := decide_eq_false (by omega)
        have i0' : decide (0 < k) = false := decide_eq_false (by omega)
        have HN := hide (show vL N (befA l (k + 1)) (l.drop (k + 1)) = r from by
          rw [← HD.out, vL_good hok (fun p e => by rw [hk0] at e; cases (show none = some p from e))]
          show vL N (l[k]?) _ = _
          rw [HY.out])
        clear hk0
        clear hok a1 a2 a3 a4 a5 HD HX HR
        go_wp2_with fail
        go_quiet (fail)
        go_wp2_with fail
        go_quiet (fail)
        go_wp2_with fail
        go_roundw
        case measure => simp [RowKit.intOf]; omega
        case rel => exact ⟨k + 1, _, by omega, by go_num, (by first | exact HQ.out _ | (rw [World.drewN_drewN]; exact HQ.out _)), HN⟩
      · obtain ⟨f, hf⟩ : ∃ f, k = f + 1 := ⟨k - 1, by omega⟩
        obtain ⟨b2, o2, p, he, hbl2, hp, k2, k3⟩ := HXX.out.at_ (show f < m by omega)
        obtain ⟨rfl, rfl⟩ : b = b2 ∧ o = o2 := by injection he with he; injection he with e1 e2; exact ⟨e1, e2⟩
        obtain ⟨u, v⟩ := p
        simp only at k2 k3
        have HBF := hide (show befA l k = some (u, v) from by rw [hf]; exact hp)
        have HBN := hide (show befA l (k + 1) = some (x, y) from HY.out)
        have i0 : decide ((0 : Int) < (k : Int)) = true := decide_eq_true (by omega)
        have i0' : decide (0 < k) = true := decide_eq_true (by omega)
        have i3 : (0 : Int) ≤ (f : Int) := by omega
        have i4 : (f : Int) < (m : Int) := by omega
        have W1 : (k : Int) - 1 = (f : Int) := by omega
        have W3 : IntKind.i64.wrap (f : Int) = (f : Int) := IntWalk.i64_in _ (by omega)
        clear hp he hf hk0
        by_cases b1 : x < u
        · have g1 : decide (x < u) = true := decide_eq_true b1
          obtain rfl : r = false := by rw [← HD.out, HBF.out]; exact vL_bad2 (decide_eq_false (by simp only; omega))
          clear hok a1 a2 a3 a4 a5 HD HX HR HBF HXX HY b1
          go_wp2_with fail
          go_quiet (fail)
          go_wp2_with fail
          go_quiet (fail)
          go_wp2_with fail
          go_ret
          exact ⟨rfl, below_drewN (below_drewN HB.out _) _⟩
        have g1 : decide (x < u) = false := decide_eq_false b1
        by_cases b2' : x = u
        · have g2 : (x == u) = true := beq_iff_eq.2 b2'
          by_cases b3 : y ≤ v
          · have g3 : decide (y ≤ v) = true := decide_eq_true b3
            obtain rfl : r = false := by rw [← HD.out, HBF.out]; exact vL_bad2 (decide_eq_false (by simp only; omega))
            clear hok a1 a2 a3 a4 a5 HD HX HR HBF HXX HY b1 b2' b3
            go_wp2_with fail
            go_quiet (fail)
            go_wp2_with fail
            go_quiet (fail)
            go_wp2_with fail
            go_ret
            exact ⟨rfl, below_drewN (below_drewN HB.out _) _⟩
          · have g3 : decide (y ≤ v) = false := decide_eq_false b3
            have HN := hide (show vL N (befA l (k + 1)) (l.drop (k + 1)) = r from by
              rw [← HD.out, vL_good hok (fun p e => by rw [HBF.out] at e; cases e; exact decide_eq_true (by simp only; omega))]
              rw [HBN.out])
            clear hok a1 a2 a3 a4 a5 HD HX HR HBF HXX b1 b2' b3
            go_wp2_with fail
            go_quiet (fail)
            go_wp2_with fail
            go_quiet (fail)
            go_wp2_with fail
            go_roundw
            case measure => simp [RowKit.intOf]; omega
            case rel => exact ⟨k + 1, _, by omega, by go_num, (by first | exact HQ.out _ | (rw [World.drewN_drewN]; exact HQ.out _)), HN⟩
        · have g2 : (x == u) = false := beq_eq_false_iff_ne.2 b2'
          have HN := hide (show vL N (befA l (k + 1)) (l.drop (k + 1)) = r from by
            rw [← HD.out, vL_good hok (fun p e => by rw [HBF.out] at e; cases e; exact decide_eq_true (by simp only; omega))]
            rw [HBN.out])
          clear hok a1 a2 a3 a4 a5 HD HX HR HBF HXX b1 b2'
          go_wp2_with fail
          go_quiet (fail)
          go_wp2_with fail
          go_quiet (fail)
          go_wp2_with fail
          go_roundw
          case measure => simp [RowKit.intOf]; omega
          case rel => exact ⟨k + 1, _, by omega, by go_num, (by first | exact HQ.out _ | (rw [World.drewN_drewN]; exact HQ.out _)), HN⟩
    · obtain rfl : r = true := by
        rw [← HS.out, List.drop_of_length_le (by rw [HX.out.1]; omega)]; rfl
      have d4 : decide ((k : Int) < (m : Int)) = false := decide_eq_false (by omega)
      have d5 : decide (k < m) = false := decide_eq_false hlt
      clear HS
      go_wp2_with fail
      go_ret
      exact ⟨rfl, HB.out⟩
end Go.Proofs.Ytgmdfaamheblmaa
