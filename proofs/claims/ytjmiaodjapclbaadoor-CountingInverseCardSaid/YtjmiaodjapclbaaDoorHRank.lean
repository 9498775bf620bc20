/- The contracts of coinagebase.Ascending, the reference's RankSet (layer 3). -/
import Derived.Test.YtjmiaodjapclbaaDoorHRow
namespace Go.Proofs.YtjmiaodjapclbaaDoor
open Go Go.RowKit

theorem IL.drewN {w : World} {A : Option Addr} {n : Nat} {xs : List Int} (h : IL w A n xs) (m : Nat) : IL (w.drewN m) A n xs := h
/-- what is known at place k: y is one more than the number before it -/
def AscAt (xs : List Int) (k : Nat) (y : Int) : Prop := 0 ≤ y ∧ (k = 0 → y = 0) ∧ (∀ f, k = f + 1 → xs[f]? = some (y - 1))
theorem AscAt.next {xs : List Int} {k : Nat} {x : Int} (h0 : ¬ x < 0) (hx : xs[k]? = some x) : AscAt xs (k + 1) (x + 1) := by
  refine ⟨by omega, fun e => by omega, fun f e => ?_⟩
  obtain rfl : f = k := by omega
  rw [Int.add_sub_cancel]
  exact hx
set_option maxHeartbeats 4000000 in
theorem asc_any (n : Nat) (h : Int) (A : Option Addr) (m c : Nat) (xs : List Int) (w : World) (hx : IL w A m xs) (_hn : n ≤ 70) (hh : h + 1 = (n : Int)) (hm : m ≤ maxLen) (r : Bool) (hr : setB n 0 xs = r) :
    Calls Tryd.prog 38 #[.slice A m c, .int .i64 0, .int .i64 h] w fun e w' => e = .returned (.bool r) ∧ Below w.heap.size w w' := by
  unfold maxLen at hm
  have HX := hide hx
  have HR := hide hr
  have HH := hide hh
  clear hx hr hh
  go_enter Tryd.func38, Tryd.ntmps38
  go_wp2_with fail
  go_loopw [7] (fun v7 wr => ∃ (k q : Nat) (y : Int), k ≤ m ∧ v7 = .int .i64 ((k : Nat) : Int) ∧ wr = w.drewN q ∧ AscAt xs k y ∧ Hid (setB n y (xs.drop k) = r)) (fun v7 _ => m - (intOf v7).toNat)
  case atStart => exact ⟨0, 0, 0, by omega, rfl, rfl, ⟨by omega, fun _ => rfl, fun f e => by omega⟩, hide (by rw [List.drop_zero]; exact HR.out)⟩
  case round =>
    obtain ⟨k, q, y, hk, rfl, rfl, ⟨y0, yz, yf⟩, HS⟩ := hrel
    have HB : Hid (Below w.heap.size w (w.drewN q)) := below_drewN (Below.refl _ _) q
    have HQ : Hid (∀ z, (w.drewN q).drewN z = w.drewN (q + z)) := fun z => World.drewN_drewN _ _ _
    by_cases hlt : k < m
    · obtain ⟨b, o, x, rfl, hx1, k0⟩ := (HX.out.drewN q).at_ hlt
      have HD := hide (show setB n y (x :: xs.drop (k + 1)) = r from by rw [← drop_atI hx1]; exact HS.out)
      have HX1 := hide hx1
      have i1 : (0 : Int) ≤ (k : Int) := by omega
      have i2 : (k : Int) < (m : Int) := by omega
      have HXX := hide (HX.out.drewN q)
      clear hx1 HS
      generalize w.drewN q = W at *
      by_cases h1 : x < 0
      · have d1 : decide (x < 0) = true := decide_eq_true h1
        obtain rfl : r = false := by rw [← HD.out]; unfold setB; rw [if_pos (by omega)]
        clear h1 yz yf
        go_wp2_with fail
        go_quiet (fail)
        go_wp2_with fail
        go_ret
        exact ⟨rfl, below_drewN HB.out _⟩
      · have d1 : decide (x < 0) = false := decide_eq_false h1
        by_cases h2 : h < x
        · have d2 : decide (h < x) = true := decide_eq_true h2
          obtain rfl : r = false := by
            rw [← HD.out]; unfold setB
            have := HH.out
            split
            · rfl
            · rw [if_pos (by omega)]
          clear h1 h2 yz yf
          go_wp2_with fail
          go_quiet (fail)
          go_wp2_with fail
          go_ret
          exact ⟨rfl, below_drewN HB.out _⟩
        · have d2 : decide (h < x) = false := decide_eq_false h2
          have hxn : ¬ (n : Int) ≤ x := by have := HH.out; omega
          rcases Nat.eq_zero_or_pos k with hk0 | hk0
          · have hy0 := yz hk0
            subst hy0
            have dk : decide (0 < (k : Int)) = false := by simp; omega
            have nk : ¬ 0 < k := by omega
            have H3 := hide (show setB n (x + 1) (xs.drop (k + 1)) = r from by
              rw [← HD.out]; conv => rhs; unfold setB
              rw [if_neg h1, if_neg hxn])
            have HA := hide (show AscAt xs (k + 1) (x + 1) from AscAt.next h1 HX1.out)
            clear h1 h2 hxn yz yf HD hk0
            go_wp2_with fail
            go_quiet (fail)
            go_wp2_with fail
            go_roundw
            case rel => exact ⟨k + 1, _, x + 1, by omega, by go_num, HQ.out _, HA.out, H3⟩
            case measure => simp [intOf]; omega
          · obtain ⟨f, hf⟩ : ∃ f, k = f + 1 := ⟨k - 1, by omega⟩
            have hp := yf f hf
            obtain ⟨b', o', p, e, hp1, k1⟩ := HXX.out.at_ (j := f) (by omega)
            injection e with e
            injection e with e1 e2
            subst e1
            subst e2
            rw [hp] at hp1
            injection hp1 with hp1
            have he : (k : Int) - 1 = (f : Int) := by omega
            have hw : IntKind.i64.wrap (f : Int) = (f : Int) := IntWalk.i64_in _ (by omega)
            have i3 : (0 : Int) ≤ (f : Int) := by omega
            have i4 : (f : Int) < (m : Int) := by omega
            have hkp : decide (0 < (k : Int)) = true := by simp; omega
            by_cases h3 : x ≤ p
            · have d3 : decide (x ≤ p) = true := decide_eq_true h3
              obtain rfl : r = false := by rw [← HD.out]; unfold setB; rw [if_pos (by omega)]
              clear h1 h2 h3 hxn hp1 hf hp yz yf
              go_wp2_with fail
              go_quiet (fail)
              go_wp2_with fail
              go_ret
              exact ⟨rfl, below_drewN HB.out _⟩
            · have d3 : decide (x ≤ p) = false := decide_eq_false h3
              have H3 := hide (show setB n (x + 1) (xs.drop (k + 1)) = r from by
                rw [← HD.out]; conv => rhs; unfold setB
                rw [if_neg (by omega), if_neg hxn])
              have HA := hide (show AscAt xs (k + 1) (x + 1) from AscAt.next h1 HX1.out)
              clear h1 h2 h3 hxn hp1 hf hp yz yf HD
              go_wp2_with fail
              go_quiet (fail)
              go_wp2_with fail
              go_roundw
              case rel => exact ⟨k + 1, _, x + 1, by omega, by go_num, HQ.out _, HA.out, H3⟩
              case measure => simp [intOf]; omega
    · obtain rfl : k = m := by omega
      obtain rfl : r = true := by
        have := HS.out
        rw [List.drop_of_length_le (by rw [HX.out.len]; exact Nat.le_refl _)] at this
        exact this.symm
      clear yz yf
      go_wp2_with fail
      go_ret
      exact ⟨rfl, HB.out⟩
theorem hrank_err2 (i : Int) (A : Option Addr) (m c : Nat) (w : World) (h : ¬(0 ≤ i ∧ i ≤ 64)) : Calls Tryd.prog 27 #[.int .i64 i, .slice A m c] w (GivesNE 0 2 w) := by
  by_cases h0 : i < 0
  · have d0 : decide (i < 0) = true := decide_eq_true h0
    clear h h0
    go_enter Tryd.func27, Tryd.ntmps27
    go_wp2_with fail
    generalize hW : w.alloc _ = W
    obtain ⟨hbW, bR, -⟩ := boxesA1 hW
    clear hW
    have k0 := bR.cell
    refine bodyPost_ret (v := .tuple #[.agg #[.slice none 0 0], .int .i64 2]) (by simp [results, Tryd.results27, go_sem, k0]) rfl ?_
    exact ⟨none, 0, 0, rfl, RL.nil_, by omega, by simp [maxLen], hbW⟩
  · have d0 : decide (i < 0) = false := decide_eq_false h0
    have d1 : decide ((64 : Int) < i) = true := decide_eq_true (by omega)
    clear h h0
    go_enter Tryd.func27, Tryd.ntmps27
    go_wp2_with fail
    generalize hW : w.alloc _ = W
    obtain ⟨hbW, bR, -⟩ := boxesA1 hW
    clear hW
    have k0 := bR.cell
    refine bodyPost_ret (v := .tuple #[.agg #[.slice none 0 0], .int .i64 2]) (by simp [results, Tryd.results27, go_sem, k0]) rfl ?_
    exact ⟨none, 0, 0, rfl, RL.nil_, by omega, by simp [maxLen], hbW⟩
theorem hrank_err1 (n : Nat) (A : Option Addr) (m c : Nat) (xs : List Int) (w : World) (hx : IL w A m xs) (hn : n ≤ 64) (hm : m ≤ maxLen) (h : setB n 0 xs = false) : Calls Tryd.prog 27 #[.int .i64 (n : Int), .slice A m c] w (GivesNE 0 1 w) := by
  have H := hide h
  have d0 : decide ((n : Int) < 0) = false := by simp
  have d1 : decide ((64 : Int) < (n : Int)) = false := by simp; omega
  clear h
  go_enter Tryd.func27, Tryd.ntmps27
  go_wp2_with fail
  generalize hW : w.alloc _ = W
  obtain ⟨hbW, bR, -⟩ := boxesA1 hW
  clear hW
  with_reducible refine (asc_any n _ A m c xs _ (hx.below hbW) (by omega) (by omega) hm false H.out).mono ?_
  rintro e w1 ⟨rfl, hb⟩
  have hbA := hbW.trans (hb.mono hbW.size)
  have bR := bR.below' hb
  have g0 := bR.cell
  have f0 := bR.frozen 0
  have b3 := bR.put (.slice none 0 0)
  go_wp2_with fail
  have k0 := b3.cell
  refine bodyPost_ret (v := .tuple #[.agg #[.slice none 0 0], .int .i64 1]) (by simp [results, Tryd.results27, go_sem, k0]) rfl ?_
  exact ⟨none, 0, 0, rfl, RL.nil_, by omega, by simp [maxLen], hbA.setCell (Nat.le_refl _) _⟩
theorem gap_le (n j v : Nat) : ∀ (c : Nat), v + c ≤ n → gap n j v c ≤ cho (n - v) (j + 1) := fun c h => by
  have := gap_cho n j v c h
  omega
set_option maxHeartbeats 4000000 in
theorem hrank_ok (n : Nat) (A : Option Addr) (m c : Nat) (l : List Nat) (w : World) (hx : RL w .i64 A m l) (hn : n ≤ 64) (ha : asc_ 0 n l) (T : Nat) (hT : rk n 0 l = T) : Calls Tryd.prog 27 #[.int .i64 (n : Int), .slice A m c] w (GivesNE T 0 w) := by
  have hml := asc_len l 0 n ha (by omega)
  rw [Nat.zero_add, hx.len] at hml
  have hm64 : m ≤ 64 := by omega
  have HX := hide hx
  have HA := hide ha
  have HA0 := hide (show setB (n : Int) 0 (ints l) = true from asc_setB n l 0 ha)
  have HT := hide (show rkr n 0 l = T from (rkr_rk ha).trans hT)
  have HTB := hide (show T < B9 ^ 100 from by
    have h1 := rk_aft n 0 l (by rw [Nat.zero_add]; exact ha)
    have h2 := cho_lt n l.length
    have h3 : B9 ^ (n + 1) ≤ B9 ^ 100 := Nat.pow_le_pow_right (by decide) (by omega)
    omega)
  have d0 : decide ((n : Int) < 0) = false := by simp
  have d1 : decide ((64 : Int) < (n : Int)) = false := by simp; omega
  clear ha hx hT
  go_enter Tryd.func27, Tryd.ntmps27
  go_wp2_with fail
  generalize hW : w.alloc _ = W
  obtain ⟨hbW, bR, -⟩ := boxesA1 hW
  clear hW
  with_reducible refine (asc_any n _ A m c _ _ (HX.out.below hbW).il (by omega) (by omega) (by unfold maxLen; omega) true HA0.out).mono ?_
  rintro e w1 ⟨rfl, hb⟩
  have hbA := hbW.trans (hb.mono hbW.size)
  have bR := bR.below' hb
  clear hb hbW
  go_wp2_with fail
  generalize hW : w1.alloc _ = W1
  obtain ⟨hb, b6, -⟩ := boxesA1 hW
  clear hW
  have HG := hide (show w.heap.size ≠ w1.heap.size ∧ w.heap.size ≤ w1.heap.size from by have := bR.lt; omega)
  have hbA := hbA.trans (hb.mono hbA.size)
  have bR := bR.below' hb
  have h6 : Cn W1 none 0 0 0 := ⟨RL.nil_, by omega, by simp [maxLen]⟩
  clear hb
  generalize w1.heap.size = g6 at *
  go_loopw [7, 8, 9, 10, 11] (fun v7 v8 _ _ _ wr => ∃ i nx s A6 n6 c6, i ≤ m ∧ v8 = .int .i64 ((i : Nat) : Int) ∧ v7 = .int .i64 ((nx : Nat) : Int) ∧ nx ≤ n ∧ Hid (asc_ nx n (l.drop i) ∧ s + rkr n nx (l.drop i) = T) ∧ Below w.heap.size w wr ∧ Box wr w.heap.size #[.slice none 0 0] 25 ∧ Box wr g6 #[.slice A6 n6 c6] 25 ∧ RL wr .i64 A m l ∧ Cn wr A6 n6 c6 s) (fun _ v8 _ _ _ _ => m - (intOf v8).toNat)
  case atStart => exact ⟨0, 0, 0, _, _, _, by omega, rfl, rfl, by omega, hide (by rw [List.drop_zero, Nat.zero_add]; exact ⟨HA.out, HT.out⟩), hbA, bR, b6, HX.out.below hbA, h6⟩
  case round =>
    obtain ⟨i, nx, s, A6, n6, c6, hi, rfl, rfl, hnx, HI, hbA, bR, b6, hxl, h6⟩ := hrel
    by_cases hlt : i < m
    · obtain ⟨b, o, x, rfl, hx1, k9⟩ := hxl.at_ hlt
      obtain ⟨j, hj⟩ : ∃ j, m - i - 1 = j := ⟨_, rfl⟩
      have hmi : (m : Int) - (i : Int) - 1 = (j : Int) := by omega
      have hlen : (l.drop (i + 1)).length = j := by rw [List.length_drop, HX.out.len]; omega
      have HI2 := hide (show (nx ≤ x ∧ x < n ∧ asc_ (x + 1) n (l.drop (i + 1))) ∧ s + (gap n j nx (x - nx) + rkr n (x + 1) (l.drop (i + 1))) = T from by
        have h1 := HI.out
        rw [drop_at hx1] at h1
        rw [← hlen]
        exact h1)
      have hnxx : nx ≤ x := HI2.out.1.1
      have hxn : x < n := HI2.out.1.2.1
      have HX1 := hide hx1
      clear hx1 hlen HI
      go_wp2_with fail
      go_loopw [9, 10, 11] (fun v9 _ _ wr => ∃ cc A6 n6 c6, nx + cc ≤ x ∧ v9 = .int .i64 ((nx + cc : Nat) : Int) ∧ Below w.heap.size w wr ∧ Box wr w.heap.size #[.slice none 0 0] 25 ∧ Box wr g6 #[.slice A6 n6 c6] 25 ∧ RL wr .i64 (some ⟨b, o, none⟩) m l ∧ Cn wr A6 n6 c6 (s + gap n j nx cc)) (fun v9 _ _ _ => x - (intOf v9).toNat)
      case atStart => exact ⟨0, _, _, _, by omega, rfl, hbA, bR, b6, hxl, h6⟩
      case round =>
        clear k9
        obtain ⟨cc, A6, n6, c6, hcc, rfl, hbA, bR, b6, hxl, h6⟩ := hrel
        obtain ⟨x', hx2, k9⟩ := hxl.cell hlt
        obtain rfl : x = x' := by have := HX1.out; rw [hx2] at this; exact (Option.some.inj this).symm
        clear hx2
        obtain ⟨v, hv⟩ : ∃ v, nx + cc = v := ⟨_, rfl⟩
        rw [hv] at hcc
        rw [hv]
        by_cases hvx : v < x
        · obtain ⟨a, ha⟩ : ∃ a, n - v - 1 = a := ⟨_, rfl⟩
          have hna : (n : Int) - (v : Int) - 1 = (a : Int) := by omega
          have HZ := hide (show s + gap n j nx cc + cho a j = s + gap n j nx (cc + 1) from by
            rw [← ha, ← hv, Nat.add_assoc]; rfl)
          have HQ := hide (show s + gap n j nx (cc + 1) < B9 ^ 100 from by
            have h1 := HI2.out.2
            have h2 := HTB.out
            have h3 : gap n j nx (cc + 1) ≤ gap n j nx (x - nx) := by
              have gm : ∀ p q, gap n j nx p ≤ gap n j nx (p + q) := by
                intro p q
                induction q with
                | zero => exact Nat.le_refl _
                | succ q ih => exact Nat.le_trans ih (Nat.le_add_right _ _)
              have := gm (cc + 1) (x - nx - (cc + 1))
              rwa [show cc + 1 + (x - nx - (cc + 1)) = x - nx by omega] at this
            omega)
          have HQ1 := hide (show s + gap n j nx cc < B9 ^ 100 from by have := HZ.out; have := HQ.out; omega)
          have HQ2 := hide (show cho a j < B9 ^ 100 from by have := HZ.out; have := HQ.out; omega)
          have HC := hide (choI_nat a j)
          have ha300 : a ≤ 300 := by omega
          have HV := hide hv
          clear hj ha hv
          go_wp2_with fail
          clear k9
          with_reducible refine (hbin_any a j ha300 _ _ HC.out).mono ?_
          intro e w7 h
          obtain ⟨A7, n7, c7, rfl, h7, hb7⟩ := GivesNE.cn h
          clear h
          have hbA := hbA.trans (hb7.mono hbA.size)
          have bR := bR.below' hb7
          have b6 := b6.below' hb7
          have hxl := hxl.below hb7
          have h6 := h6.below hb7
          clear hb7
          have k6 := b6.cell
          have l6 := b6.lt
          go_wp2_with fail
          clear k6 l6
          generalize hW : w7.alloc _ = W7
          obtain ⟨hb, -, -⟩ := boxesA1 hW
          clear hW
          have hbA := hbA.trans (hb.mono hbA.size)
          have bR := bR.below' hb
          have b6 := b6.below' hb
          have hxl := hxl.below hb
          have h6 := h6.below hb
          have h7 := h7.below hb
          clear hb
          with_reducible refine (radd_n (L := 100) (h6.nt HQ1.out) (h7.nt HQ2.out) (by omega) _ HZ.out).mono ?_
          intro e w8 h
          obtain ⟨A8, n8, c8, rfl, h8, hb8⟩ := GivesN.cn h
          clear h
          have hbA := hbA.trans (hb8.mono hbA.size)
          have bR := bR.below' hb8
          have b6 := b6.below' hb8
          have hxl := hxl.below hb8
          clear hb8 h6 h7
          have k6 := b6.cell
          have f6 := b6.frozen 0
          have h8 := h8.far (i := 0) b6 noInt1 (.slice A8 n8 c8)
          have hxl := hxl.put (i := 0) b6 (.slice A8 n8 c8)
          have bR := bR.far (p := ⟨g6, 0, none⟩) HG.out.1 (.slice A8 n8 c8)
          have b6 := b6.put (.slice A8 n8 c8)
          have hbA : Below w.heap.size w (w8.setCell ⟨g6, 0, none⟩ (.slice A8 n8 c8)) := hbA.setCell HG.out.2 _
          go_wp2_with fail
          go_roundw
          case measure => simp [intOf]; omega
          case rel => exact ⟨cc + 1, A8, n8, c8, by have := HV.out; omega, by rw [← HV.out]; go_num, hbA, bR, b6, hxl, h8⟩
        · obtain rfl : v = x := by omega
          have HN := hide (show Hid (asc_ (v + 1) n (l.drop (i + 1)) ∧ s + gap n j nx cc + rkr n (v + 1) (l.drop (i + 1)) = T) from by
            have h1 := HI2.out.2
            rw [show v - nx = cc by omega] at h1
            exact ⟨HI2.out.1.2.2, by omega⟩)
          have i1 : (0 : Int) ≤ (i : Int) := by omega
          clear hv
          go_wp2_with fail
          go_roundw
          case measure => simp [intOf]; omega
          case rel => exact ⟨i + 1, v + 1, s + gap n j nx cc, A6, n6, c6, by omega, by go_num, by go_num, by omega, HN.out, hbA, bR, b6, hxl, h6⟩
    · obtain rfl : i = m := by omega
      obtain rfl : s = T := by
        have h1 := HI.out.2
        rw [List.drop_of_length_le (by rw [HX.out.len]; exact Nat.le_refl _)] at h1
        exact h1
      have k0 := b6.cell
      have g0 := bR.cell
      have f0 := bR.frozen 0
      have h3 := h6.far (i := 0) bR noInt1 (.slice A6 n6 c6)
      have b3 := bR.put (.slice A6 n6 c6)
      go_wp2_with fail
      have k1 := b3.cell
      refine bodyPost_ret (v := .tuple #[.agg #[.slice A6 n6 c6], .int .i64 0]) (by simp [results, Tryd.results27, go_sem, k1]) rfl ?_
      exact ⟨A6, n6, c6, rfl, h3.1, h3.2.1, h3.2.2, hbA.setCell (Nat.le_refl _) _⟩
end Go.Proofs.YtjmiaodjapclbaaDoor
