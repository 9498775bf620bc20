/- What a vertex reaches. -/
import Derived.Test.YtgmdfaamheblmaaPSuc
import Derived.Deep.WholeRow
namespace Go.Proofs.Ytgmdfaamheblmaa
open Go Go.RowKit PM

/-- within the k-th turn, the rows below i done -/
def RI (W : Nat → Nat → Bool) (k i : Nat) : Nat → Nat → Bool := fun a b => if a < i then st k W a b else W a b
theorem RI_zero (W k) : RI W k 0 = W := by funext a b; exact if_neg (by omega)
theorem RI_self (W : Nat → Nat → Bool) (k i b : Nat) : RI W k i k b = W k b := by
  unfold RI
  split
  · unfold st; cases W k b <;> simp
  · rfl
theorem RI_at (W : Nat → Nat → Bool) (k i b : Nat) : RI W k i i b = W i b := if_neg (by omega)
theorem RI_next {W : Nat → Nat → Bool} {k i a b : Nat} (h : a ≠ i) : RI W k i a b = RI W k (i + 1) a b := by
  unfold RI
  by_cases h1 : a < i
  · rw [if_pos h1, if_pos (by omega)]
  · rw [if_neg h1, if_neg (by omega)]
theorem RI_step (W : Nat → Nat → Bool) (k i b : Nat) : RI W k (i + 1) i b = (W i b || (W i k && W k b)) := if_pos (by omega)
theorem RI_end {n : Nat} {T : Nat → Nat → Bool} (hT : Fits n T) (k a b : Nat) : RI (war T k) k n a b = war T (k + 1) a b := by
  unfold RI
  split
  · rfl
  · rename_i h
    show war T k a b = st k (war T k) a b
    have h0 : ∀ j, war T k a j = false := fun j => by
      rcases hw : war T k a j with _ | _
      · rfl
      · exact (h ((war_sound T k a j hw).fits hT).1).elim
    unfold st
    rw [h0, h0]; rfl
set_option maxHeartbeats 4000000 in
theorem reached_any (A : Option Addr) (m c : Nat) (n : Nat) (bs : List (Nat × Nat)) (w : World) (hd : Dig n bs) (hx : YL w A m (bs.map zA)) :
    Calls Try.prog 39 #[.int .i64 (n : Int), .slice A m c] w fun e w' => e = .returned (.agg (cR (war (adj bs) n))) ∧ Below w.heap.size w w' := by
  have HX := hide hx
  have HD := hide hd
  have hn := hd.le
  have HT := hide hd.adj
  obtain ⟨T, hTT⟩ : ∃ T, adj bs = T := ⟨_, rfl⟩
  rw [hTT] at HT
  have HTT := hide hTT
  rw [hTT]
  clear hx hd hTT
  go_enter Try.func39, Try.ntmps39
  go_wp2_with fail
  generalize hW : w.alloc _ = W
  obtain ⟨B, o2⟩ := boxO1 hW noR zeros24
  clear hW
  refine (suc_any A m c n bs _ HD.out (HX.out.keep B)).mono ?_
  rintro e w1 ⟨rfl, hb⟩
  rw [HTT.out]
  have B := B.trans (hb.mono B.size)
  have o2 := o2.below' hb
  clear hb
  have hgl := o2.lt
  obtain ⟨hb5, o5⟩ := boxO1 (rfl : w1.alloc (.cells _ 54) = _) noR zeros24
  have o5s := o5.setRow T
  have B5 := below_row (B.trans (hb5.mono B.size)) (Nat.le_trans B.size (Nat.le_refl _)) (cR T)
  have o2s := (o2.below' hb5).setOther (Nat.ne_of_lt hgl) (cR T)
  go_wp2_with (first | (refine wpList_store_row rfl 54 _ _ rfl (w1.heap.size) _ rfl rfl 54 _ o5.row (cR_info _) (by rw [cR_size, cR_size]) (cR_one _) ?_))
  generalize World.setRow _ _ _ = W5 at *
  have hne : w.heap.size ≠ w1.heap.size := Nat.ne_of_lt hgl
  have hge : w.heap.size ≤ w1.heap.size := B.size
  generalize w1.heap.size = g5 at *
  clear o2 o5 B hb5 hgl
  go_loopw [11] (fun v11 wr => ∃ (k : Nat), k ≤ n ∧ v11 = .int .i64 ((k : Nat) : Int) ∧ Below w.heap.size w wr ∧ OR wr w.heap.size noR ∧ OR wr g5 (war T k)) (fun v11 _ => n - (RowKit.intOf v11).toNat)
  case atStart => exact ⟨0, by omega, rfl, B5, o2s, o5s⟩
  case round =>
    clear B5 o2s o5s
    obtain ⟨k, hk, rfl, B, o2, o5⟩ := hrel
    by_cases hlt : k < n
    · have hk24 : k < 24 := by omega
      have hkn : (k : Int) < (n : Int) := by omega
      obtain ⟨V, hV⟩ : ∃ V, war T k = V := ⟨_, rfl⟩
      have HV := hide (show ∀ a b, RI V k n a b = war T (k + 1) a b from by rw [← hV]; exact fun a b => RI_end HT.out k a b)
      rw [hV] at o5
      clear hV
      rw [← RI_zero V k] at o5
      go_wp2_with fail
      go_loopw [15] (fun v15 wr => ∃ (i : Nat), i ≤ n ∧ v15 = .int .i64 ((i : Nat) : Int) ∧ Below w.heap.size w wr ∧ OR wr w.heap.size noR ∧ OR wr g5 (RI V k i)) (fun v15 _ => n - (RowKit.intOf v15).toNat)
      case atStart => exact ⟨0, by omega, rfl, B, o2, o5⟩
      case round =>
        clear B o2 o5
        obtain ⟨i, hi, rfl, B, o2, o5⟩ := hrel
        by_cases hlt2 : i < n
        · have hi24 : i < 24 := by omega
          have hin : (i : Int) < (n : Int) := by omega
          have i1 : (0 : Int) ≤ (i : Int) := by omega
          have i2 : (i : Int) < 24 := by omega
          have j1 : (0 : Int) ≤ (k : Int) := by omega
          have j2 : (k : Int) < 24 := by omega
          have z2 := o5.cell hi24
          have z3 := o5.frozen i
          have z4 := o5.cell hk24
          obtain ⟨r, hr⟩ : ∃ r, V i k = r := ⟨_, rfl⟩
          have HR := hide hr
          have HQ := hide (show RI V k i i k = r from by rw [RI_at]; exact hr)
          clear hr
          go_wp2_with fail
          refine (has_any _ k hk24 _ r HQ.out).mono ?_
          rintro e w7 ⟨rfl, rfl⟩
          cases r with
          | true =>
            go_wp2_with fail
            refine wp_region_still_tail 8 (by kernel_rfl) (by kernel_rfl) ?_
            simp only [List.take_succ_cons, List.take_zero, List.drop_succ_cons, List.drop_zero]
            iterate 8 still_step
            refine wpStill_nil ?_
            change wpList _ _ _ _ _ wr.drew
            go_wp2_with fail
            go_roundw
            case measure => simp [RowKit.intOf]; omega
            case rel =>
              exact ⟨i + 1, by omega, by go_num, (B.drew).setCell (by simp; omega) _, o2.drew.far (by simpa using hne) _, OR.put (R := RI V k i) o5.drew hi24 (fun a b h => RI_next h) (by
                rw [b_or]
                congr 1
                refine msk_ext fun j _ => ?_
                rw [RI_at, RI_self, RI_step, HR.out, Bool.true_and])⟩
          | false =>
            go_wp2_with fail
            go_roundw
            case measure => simp [RowKit.intOf]; omega
            case rel =>
              exact ⟨i + 1, by omega, by go_num, B, o2, o5.cast fun a b _ _ => by
                by_cases h : a = i
                · subst h
                  rw [RI_at, RI_step, HR.out, Bool.false_and, Bool.or_false]
                · exact RI_next h⟩
        · obtain rfl : i = n := by omega
          have d2 : decide ((i : Int) < (i : Int)) = false := decide_eq_false (by omega)
          go_wp2_with fail
          go_roundw
          case measure => simp [RowKit.intOf]; omega
          case rel => exact ⟨k + 1, by omega, by go_num, B, o2, o5.cast fun a b _ _ => HV.out a b⟩
    · obtain rfl : k = n := by omega
      go_wp2_with (first | (refine wpList_load_row rfl 54 _ rfl (g5) rfl 54 _ (0, 0) _ o5.row Try.underlying54 rfl (cR_info _) ?_) | (refine wpList_store_row rfl 54 _ _ rfl (w.heap.size) _ rfl rfl 54 _ o2.row (cR_info _) (by rw [cR_size, cR_size]) (cR_one _) ?_))
      have hr := (o2.setRow (war T k)).row
      refine bodyPost_ret (v := .agg (cR (war T k))) (results_cell_row rfl _ _ w.heap.size 54 _ (0, 0) _ rfl hr Try.underlying54 rfl (cR_info _)) rfl ?_
      exact ⟨rfl, below_row B (Nat.le_refl _) _⟩
end Go.Proofs.Ytgmdfaamheblmaa
