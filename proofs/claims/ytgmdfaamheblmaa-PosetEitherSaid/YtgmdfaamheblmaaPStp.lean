/- steps. -/
import Derived.Test.YtgmdfaamheblmaaPLst
namespace Go.Proofs.Ytgmdfaamheblmaa
open Go Go.RowKit PM

/-- the unions of sets -/
def stp (n : Nat) (S R : Nat → Nat → Bool) : Nat → Nat → Bool := fun a b => decide (a < n) && (List.range n).any fun m => S a m && R m b
def stJ (n : Nat) (S R : Nat → Nat → Bool) (i k : Nat) : Nat → Nat → Bool := fun a b => if a < i then (List.range n).any fun m => S a m && R m b else if a = i then (List.range k).any fun m => S a m && R m b else false
theorem stJ_lt {n S R i k a b} (h : a < i) : stJ n S R i k a b = (List.range n).any fun m => S a m && R m b := if_pos h
theorem stJ_eq (n S R i k b) : stJ n S R i k i b = (List.range k).any fun m => S i m && R m b := by
  unfold stJ
  rw [if_neg (Nat.lt_irrefl i), if_pos rfl]
theorem stJ_gt {n S R i k a b} (h : i < a) : stJ n S R i k a b = false := by
  unfold stJ
  rw [if_neg (by omega), if_neg (by omega)]
theorem stJ_next {n S R i k a b} (h : a ≠ i) : stJ n S R i k a b = stJ n S R i (k + 1) a b := by
  rcases Nat.lt_or_ge a i with h1 | h1
  · rw [stJ_lt h1, stJ_lt h1]
  · rw [stJ_gt (by omega), stJ_gt (by omega)]
theorem stJ_at (n S R i k b) : stJ n S R i (k + 1) i b = (stJ n S R i k i b || (S i k && R k b)) := by
  rw [stJ_eq, stJ_eq, List.range_succ, List.any_append]
  simp
theorem stJ_row (n S R i a b) : stJ n S R i n a b = stJ n S R (i + 1) 0 a b := by
  rcases Nat.lt_trichotomy a i with h | h | h
  · rw [stJ_lt h, stJ_lt (by omega)]
  · subst h
    rw [stJ_eq, stJ_lt (by omega)]
  · rw [stJ_gt h]
    rcases Nat.lt_or_ge (i + 1) a with h1 | h1
    · rw [stJ_gt h1]
    · obtain rfl : a = i + 1 := by omega
      rw [stJ_eq]; rfl
theorem stJ_zero (n S R) : stJ n S R 0 0 = noR := by
  funext a b
  unfold noR
  rcases Nat.eq_zero_or_pos a with h | h
  · subst h; rw [stJ_eq]; rfl
  · rw [stJ_gt h]
theorem stJ_end (n S R a b) : stJ n S R n 0 a b = stp n S R a b := by
  unfold stp
  rcases Nat.lt_trichotomy a n with h | h | h
  · rw [stJ_lt h, decide_eq_true h, Bool.true_and]
  · subst h
    rw [stJ_eq, decide_eq_false (Nat.lt_irrefl a), Bool.false_and]; rfl
  · rw [stJ_gt h, decide_eq_false (by omega), Bool.false_and]
theorem boxO3 {w W : World} {c0 c1 c2 c3 : Array Value} (hW : (((w.alloc (.cells c0 54)).alloc (.cells c1 54)).alloc (.cells c2 54)).alloc (.cells c3 54) = W) (R0 R1 R2 R3 : Nat → Nat → Bool) (h0 : c0 = cR R0) (h1 : c1 = cR R1) (h2 : c2 = cR R2) (h3 : c3 = cR R3) :
    Below w.heap.size w W ∧ OR W w.heap.size R0 ∧ OR W (w.heap.size + 1) R1 ∧ OR W (w.heap.size + 2) R2 ∧ OR W (w.heap.size + 3) R3 := by
  subst h0; subst h1; subst h2; subst h3
  obtain ⟨a, b, c⟩ := boxD (rfl : (w.alloc (.cells (cR R0) 54)).alloc (.cells (cR R1) 54) = _)
  have hs : ((w.alloc (.cells (cR R0) 54)).alloc (.cells (cR R1) 54)).heap.size = w.heap.size + 2 := by simp
  generalize (w.alloc (.cells (cR R0) 54)).alloc (.cells (cR R1) 54) = V at *
  obtain ⟨a2, b2, c2⟩ := boxD hW
  rw [hs] at b2 c2
  exact ⟨a.trans (a2.mono a.size), b.below' a2, c.below' a2, b2, c2⟩
set_option maxHeartbeats 8000000 in
theorem steps_any (n : Nat) (S R : Nat → Nat → Bool) (w : World) (hn : n ≤ 24) :
    Calls Try.prog 42 #[.int .i64 (n : Int), .agg (cR S), .agg (cR R)] w fun e w' => e = .returned (.agg (cR (stp n S R))) ∧ Below w.heap.size w w' := by
  go_enter Try.func42, Try.ntmps42
  go_wp2_with fail
  generalize hW : (((w.alloc _).alloc _).alloc _).alloc _ = W
  obtain ⟨B, o4, o5, o6, o7⟩ := boxO3 hW S R noR noR rfl rfl zeros24 zeros24
  clear hW
  rw [← stJ_zero n S R] at o7
  go_loopw [11] (fun v11 wr => ∃ (i : Nat), i ≤ n ∧ v11 = .int .i64 ((i : Nat) : Int) ∧ Below w.heap.size w wr ∧ OR wr w.heap.size S ∧ OR wr (w.heap.size + 1) R ∧ OR wr (w.heap.size + 2) noR ∧ OR wr (w.heap.size + 3) (stJ n S R i 0)) (fun v11 _ => n - (RowKit.intOf v11).toNat)
  case atStart => exact ⟨0, by omega, rfl, B, o4, o5, o6, o7⟩
  case round =>
    clear B o4 o5 o6 o7
    obtain ⟨i, hi, rfl, B, o4, o5, o6, o7⟩ := hrel
    by_cases hlt : i < n
    · have hi24 : i < 24 := by omega
      have hin : (i : Int) < (n : Int) := by omega
      have i1 : (0 : Int) ≤ (i : Int) := by omega
      have i2 : (i : Int) < 24 := by omega
      go_wp2_with fail
      go_loopw [15] (fun v15 wr => ∃ (k : Nat), k ≤ n ∧ v15 = .int .i64 ((k : Nat) : Int) ∧ Below w.heap.size w wr ∧ OR wr w.heap.size S ∧ OR wr (w.heap.size + 1) R ∧ OR wr (w.heap.size + 2) noR ∧ OR wr (w.heap.size + 3) (stJ n S R i k)) (fun v15 _ => n - (RowKit.intOf v15).toNat)
      case atStart => exact ⟨0, by omega, rfl, B, o4, o5, o6, o7⟩
      case round =>
        clear B o4 o5 o6 o7
        obtain ⟨k, hk, rfl, B, o4, o5, o6, o7⟩ := hrel
        by_cases hlt2 : k < n
        · have hk24 : k < 24 := by omega
          have hkn : (k : Int) < (n : Int) := by omega
          have j1 : (0 : Int) ≤ (k : Int) := by omega
          have j2 : (k : Int) < 24 := by omega
          have z2 := o4.cell hi24
          have z3 := o7.cell hi24
          have z4 := o7.frozen i
          have z5 := o5.cell hk24
          obtain ⟨r, hr⟩ : ∃ r, S i k = r := ⟨_, rfl⟩
          have HR := hide hr
          clear hr
          go_wp2_with fail
          refine (has_any _ k hk24 _ r HR.out).mono ?_
          rintro e w7 ⟨rfl, rfl⟩
          cases r with
          | true =>
            go_wp2_with fail
            refine wp_region_still_tail 8 (by kernel_rfl) (by kernel_rfl) ?_
            simp only [List.take_succ_cons, List.take_zero, List.drop_succ_cons, List.drop_zero]
            iterate 8 still_step
            refine wpStill_nil ?_
            change wpList _ _ _ _ _ wr.drew
            go_wp2_with fail
            go_roundw
            case measure => simp [RowKit.intOf]; omega
            case rel =>
              exact ⟨k + 1, by omega, by go_num, (B.drew).setCell (by show w.heap.size ≤ w.heap.size + 3; omega) _, o4.drew.far (by show w.heap.size ≠ w.heap.size + 3; omega) _, o5.drew.far (by show w.heap.size + 1 ≠ w.heap.size + 3; omega) _, o6.drew.far (by show w.heap.size + 2 ≠ w.heap.size + 3; omega) _, OR.put (R := stJ n S R i k) o7.drew hi24 (fun a b h => stJ_next h) (by
                rw [b_or]
                congr 1
                refine msk_ext fun j _ => ?_
                rw [stJ_at, HR.out, Bool.true_and])⟩
          | false =>
            go_wp2_with fail
            go_roundw
            case measure => simp [RowKit.intOf]; omega
            case rel =>
              exact ⟨k + 1, by omega, by go_num, B, o4, o5, o6, o7.cast fun a b _ _ => by
                by_cases h : a = i
                · subst h
                  rw [stJ_at, HR.out, Bool.false_and, Bool.or_false]
                · exact stJ_next h⟩
        · obtain rfl : k = n := by omega
          have d2 : decide ((k : Int) < (k : Int)) = false := decide_eq_false (by omega)
          go_wp2_with fail
          go_roundw
          case measure => simp [RowKit.intOf]; omega
          case rel => exact ⟨i + 1, by omega, by go_num, B, o4, o5, o6, o7.cast fun a b _ _ => stJ_row k S R i a b⟩
    · obtain rfl : i = n := by omega
      have o7 := o7.cast fun a b _ _ => stJ_end i S R a b
      have d2 : decide ((i : Int) < (i : Int)) = false := decide_eq_false (by omega)
      go_wp2_with (first | (refine wpList_load_row rfl 54 _ rfl (w.heap.size + 3) rfl 54 _ (0, 0) _ o7.row Try.underlying54 rfl (cR_info _) ?_) | (refine wpList_store_row rfl 54 _ _ rfl (w.heap.size + 2) _ rfl rfl 54 _ o6.row (cR_info _) (by rw [cR_size, cR_size]) (cR_one _) ?_))
      have hr := (o6.setRow (stp i S R)).row
      refine bodyPost_ret (v := .agg (cR (stp i S R))) (results_cell_row rfl _ _ (w.heap.size + 2) 54 _ (0, 0) _ rfl hr Try.underlying54 rfl (cR_info _)) rfl ?_
      exact ⟨rfl, below_row B (by omega) _⟩
end Go.Proofs.Ytgmdfaamheblmaa
