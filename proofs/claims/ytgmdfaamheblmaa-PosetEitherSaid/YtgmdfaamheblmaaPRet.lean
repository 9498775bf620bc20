/- returning, firstReturning. -/
import Derived.Test.YtgmdfaamheblmaaPRdy
namespace Go.Proofs.Ytgmdfaamheblmaa
open Go Go.RowKit PM

set_option maxHeartbeats 4000000 in
theorem returning_any (n : Nat) (R : Nat → Nat → Bool) (w : World) (hn : n ≤ 24) (r : Nat) (hr : least n (fun i => R i i) = r) :
    Calls Try.prog 45 #[.int .i64 (n : Int), .agg (cR R)] w fun e w' => e = .returned (.int .i64 (r : Int)) ∧ Below w.heap.size w w' := by
  have HR := hide hr
  clear hr
  go_enter Try.func45, Try.ntmps45
  go_wp2_with fail
  generalize hW : w.alloc _ = W
  obtain ⟨B, o4⟩ := boxO1 hW R rfl
  clear hW
  go_loopw [7] (fun v7 wr => ∃ (i f : Nat), i + f = n ∧ v7 = .int .i64 ((i : Nat) : Int) ∧ wr = W ∧ Hid (leastF n (fun i => R i i) f i = r)) (fun v7 _ => n - (RowKit.intOf v7).toNat)
  case atStart => exact ⟨0, n, by omega, rfl, rfl, hide HR.out⟩
  case round =>
    obtain ⟨i, f, hif, rfl, rfl, HL⟩ := hrel
    by_cases hlt : i < n
    · obtain ⟨f, rfl⟩ : ∃ g, f = g + 1 := ⟨f - 1, by omega⟩
      have hi24 : i < 24 := by omega
      have hin : (i : Int) < (n : Int) := by omega
      have i1 : (0 : Int) ≤ (i : Int) := by omega
      have i2 : (i : Int) < 24 := by omega
      have z2 := o4.cell hi24
      obtain ⟨d, hd⟩ : ∃ d, R i i = d := ⟨_, rfl⟩
      have HD := hide hd
      clear hd
      go_wp2_with fail
      refine (has_any (R i) i hi24 _ d HD.out).mono ?_
      rintro e w7 ⟨rfl, rfl⟩
      cases d with
      | true =>
        obtain rfl := leastF_hit HL.out HD.out
        clear HL
        go_wp2_with fail
        go_ret
        exact ⟨rfl, B⟩
      | false =>
        have HN := hide (leastF_miss HL.out HD.out)
        go_wp2_with fail
        go_roundw
        case measure => simp [RowKit.intOf]; omega
        case rel => exact ⟨i + 1, f, by omega, by go_num, (by first | rfl | trivial), HN⟩
    · obtain rfl : f = 0 := by omega
      obtain rfl : i = n := by omega
      obtain rfl : i = r := HL.out
      have d2 : decide ((i : Int) < (i : Int)) = false := decide_eq_false (by omega)
      clear hlt
      go_wp2_with fail
      go_ret
      exact ⟨rfl, B⟩
set_option maxHeartbeats 4000000 in
theorem firstRet_any (n : Nat) (f : Nat → Bool) (R : Nat → Nat → Bool) (s : Nat) (w : World) (hn : n ≤ 24) (hs : s < 24) (r : Nat) (hr : least n (fun i => f i && R i s) = r) :
    Calls Try.prog 56 #[.int .i64 (n : Int), .int .u32 (msk f : Int), .agg (cR R), .int .i64 (s : Int)] w fun e w' => e = .returned (.int .i64 (r : Int)) ∧ Below w.heap.size w w' := by
  have HR := hide hr
  clear hr
  go_enter Try.func56, Try.ntmps56
  go_wp2_with fail
  generalize hW : w.alloc _ = W
  obtain ⟨B, o4⟩ := boxO1 hW R rfl
  clear hW
  go_loopw [11] (fun v11 wr => ∃ (i g : Nat), i + g = n ∧ v11 = .int .i64 ((i : Nat) : Int) ∧ wr = W ∧ Hid (leastF n (fun i => f i && R i s) g i = r)) (fun v11 _ => n - (RowKit.intOf v11).toNat)
  case atStart => exact ⟨0, n, by omega, rfl, rfl, hide HR.out⟩
  case round =>
    obtain ⟨i, g, hif, rfl, rfl, HL⟩ := hrel
    by_cases hlt : i < n
    · obtain ⟨g, rfl⟩ : ∃ h, g = h + 1 := ⟨g - 1, by omega⟩
      have hi24 : i < 24 := by omega
      have hin : (i : Int) < (n : Int) := by omega
      have i1 : (0 : Int) ≤ (i : Int) := by omega
      have i2 : (i : Int) < 24 := by omega
      have z2 := o4.cell hi24
      obtain ⟨d, hd⟩ : ∃ d, f i = d := ⟨_, rfl⟩
      have HD := hide hd
      clear hd
      go_wp2_with fail
      refine (has_any f i hi24 _ d HD.out).mono ?_
      rintro e w7 ⟨rfl, rfl⟩
      cases d with
      | false =>
        have HN := hide (leastF_miss HL.out (show (f i && R i s) = false by rw [HD.out]; rfl))
        go_wp2_with fail
        go_roundw
        case measure => simp [RowKit.intOf]; omega
        case rel => exact ⟨i + 1, g, by omega, by go_num, (by first | rfl | trivial), HN⟩
      | true =>
        obtain ⟨d2, hd2⟩ : ∃ d, R i s = d := ⟨_, rfl⟩
        have HD2 := hide hd2
        clear hd2
        go_wp2_with fail
        refine (has_any (R i) s hs _ d2 HD2.out).mono ?_
        rintro e w7 ⟨rfl, rfl⟩
        cases d2 with
        | true =>
          obtain rfl := leastF_hit HL.out (show (f i && R i s) = true by rw [HD.out, HD2.out]; rfl)
          clear HL
          go_wp2_with fail
          go_ret
          exact ⟨rfl, B⟩
        | false =>
          have HN := hide (leastF_miss HL.out (show (f i && R i s) = false by rw [HD2.out, Bool.and_false]))
          go_wp2_with fail
          go_roundw
          case measure => simp [RowKit.intOf]; omega
          case rel => exact ⟨i + 1, g, by omega, by go_num, (by first | rfl | trivial), HN⟩
    · obtain rfl : g = 0 := by omega
      obtain rfl : i = n := by omega
      obtain rfl : i = r := HL.out
      have d2 : decide ((i : Int) < (i : Int)) = false := decide_eq_false (by omega)
      clear hlt
      go_wp2_with fail
      go_ret
      exact ⟨rfl, B⟩
end Go.Proofs.Ytgmdfaamheblmaa
