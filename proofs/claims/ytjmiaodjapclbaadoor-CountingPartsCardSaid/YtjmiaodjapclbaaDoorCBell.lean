/- The contract of counting.Bell. -/
import Derived.Test.YtjmiaodjapclbaaDoorCPart
namespace Go.Proofs.YtjmiaodjapclbaaDoor
open Go Go.RowKit

theorem cum_head (a : Nat) (l : List Nat) : (cum a l)[0]? = some a := by cases l <;> rfl
theorem cum_len : ∀ (l : List Nat) (a : Nat), (cum a l).length = l.length + 1
  | [], _ => rfl
  | x :: l, a => by
    show (a :: cum (a + x) l).length = _
    rw [List.length_cons, cum_len l, List.length_cons]
theorem cum_at : ∀ (l : List Nat) (a i x y : Nat), (cum a l)[i]? = some y → l[i]? = some x → (cum a l)[i + 1]? = some (y + x)
  | [], _, _, _, _, _, h => by simp at h
  | z :: l, a, 0, x, y, h1, h2 => by
    have e : (cum a (z :: l)) = a :: cum (a + z) l := rfl
    rw [e] at h1 ⊢
    simp at h1 h2
    subst h1; subst h2
    rw [List.getElem?_cons_succ]
    exact cum_head _ _
  | z :: l, a, i + 1, x, y, h1, h2 => by
    have e : (cum a (z :: l)) = a :: cum (a + z) l := rfl
    rw [e, List.getElem?_cons_succ] at h1
    rw [e, List.getElem?_cons_succ]
    rw [List.getElem?_cons_succ] at h2
    exact cum_at l _ i x y h1 h2
theorem bRow_len : ∀ n, (bRow n).length = n + 1
  | 0 => rfl
  | n + 1 => by
    show (cum _ (bRow n)).length = _
    rw [cum_len, bRow_len n]
def rowsB : Nat → List Nat → Bool
  | 0, b => b.all (· < 1000000000 ^ 20)
  | n + 1, b => b.all (· < 1000000000 ^ 20) && rowsB n (bNext b)
theorem rowsB_at : ∀ (n r : Nat) (k : Nat), rowsB n (bRow k) = true → r ≤ n → (bRow (k + r)).all (· < 1000000000 ^ 20) = true
  | 0, r, k, h, hr => by
    obtain rfl : r = 0 := by omega
    exact h
  | n + 1, 0, k, h, hr => by
    simp only [rowsB, Bool.and_eq_true] at h
    exact h.1
  | n + 1, r + 1, k, h, hr => by
    simp only [rowsB, Bool.and_eq_true] at h
    rw [show k + (r + 1) = (k + 1) + r by omega]
    exact rowsB_at n r (k + 1) h.2 (by omega)
theorem rowsB64 : rowsB 64 (bRow 0) = true := by decide +kernel
theorem bRow_lt {r : Nat} (hr : r ≤ 64) {u : Nat} (hu : u ∈ bRow r) : u < B9 ^ 20 := by
  have h := rowsB_at 64 r 0 rowsB64 hr
  rw [Nat.zero_add, List.all_eq_true] at h
  exact of_decide_eq_true (h u hu)
theorem bRow_at {r i u : Nat} (hr : r ≤ 64) (hu : (bRow r)[i]? = some u) : u < B9 ^ 20 := bRow_lt hr (List.mem_of_getElem? hu)
theorem take_snocN {l : List Nat} {i r : Nat} (h : l[i]? = some r) : l.take (i + 1) = l.take i ++ [r] := by
  rw [List.take_add_one, h]; rfl
theorem bRow_last {r u : Nat} (h : (bRow r)[r]? = some u) : (bRow r).getLastD 0 = u := by
  rw [List.getLastD_eq_getLast?, List.getLast?_eq_getElem?, bRow_len, Nat.add_sub_cancel, h]
  rfl
theorem bNext_head {r u : Nat} (h : (bRow r)[r]? = some u) : (bRow (r + 1)).take 1 = [u] := by
  have e : (bRow (r + 1))[0]? = some u := by
    show (cum ((bRow r).getLastD 0) (bRow r))[0]? = some u
    rw [bRow_last h]
    exact cum_head _ _
  have := take_snocN e
  simpa using this
theorem bNext_at {r i x y : Nat} (h1 : (bRow (r + 1))[i]? = some y) (h2 : (bRow r)[i]? = some x) : (bRow (r + 1))[i + 1]? = some (y + x) := cum_at _ _ i x y h1 h2
theorem headD_at {l : List Nat} {u : Nat} (h : l[0]? = some u) : l.headD 0 = u := by
  cases l with
  | nil => cases h
  | cons a l => simpa using h

theorem cbell_err (i : Int) (w : World) (h : ¬(0 ≤ i ∧ i ≤ 64)) : Calls Tryd.prog 24 #[.int .i64 i] w (GivesNE 0 2 w) := by
  have H := hide h
  clear h
  go_enter Tryd.func24, Tryd.ntmps24
  go_wp2_with fail
  generalize hW : w.alloc _ = W
  obtain ⟨hbW, bR, -⟩ := boxesA1 hW
  clear hW
  refine (within_any i 64 _ false ⟨fun h => absurd h H.out, fun h => by cases h⟩).mono ?_
  rintro e w1 ⟨rfl, rfl⟩
  have g0 := bR.cell
  have f0 := bR.frozen 0
  have b3 := bR.put (.slice none 0 0)
  go_wp2_with fail
  have k0 := b3.cell
  refine bodyPost_ret (v := .tuple #[.agg #[.slice none 0 0], .int .i64 2]) (by simp [results, Tryd.results24, go_sem, k0]) rfl ?_
  exact ⟨none, 0, 0, rfl, RL.nil_, by omega, by simp [maxLen], hbW.setCell (Nat.le_refl _) _⟩

set_option maxHeartbeats 4000000 in
theorem cbell_ok (n : Nat) (hn : n ≤ 64) (w : World) (T : Nat) (hT : (bRow n).headD 0 = T) : Calls Tryd.prog 24 #[.int .i64 (n : Int)] w (GivesNE T 0 w) := by
  have HT := hide hT
  clear hT
  go_enter Tryd.func24, Tryd.ntmps24
  go_wp2_with fail
  generalize hW : w.alloc _ = W
  obtain ⟨hbW, bR, -⟩ := boxesA1 hW
  clear hW
  refine (within_any n 64 _ true ⟨fun _ => rfl, fun _ => ⟨by omega, by omega⟩⟩).mono ?_
  rintro e w1 ⟨rfl, rfl⟩
  go_wp2_with fail
  refine (of_one _).mono fun e w1 h => ?_
  obtain ⟨A1, n1, c1, rfl, h1, hb1⟩ := GivesN.cn h
  clear h
  have HS := hide (show w.heap.size < w.heap.size + 1 ∧ w.heap.size + 1 ≤ w1.heap.size from ⟨Nat.lt_succ_self _, Nat.le_trans bR.lt hb1.size⟩)
  have hbA := hbW.trans (hb1.mono hbW.size)
  have bR := bR.below' hb1
  clear hb1 hbW
  go_wp2_with fail
  have hr := NR.one A1 n1 c1 1 (base := w.heap.size + 1) HS.out.2 h1
  generalize hW : w1.alloc _ = W2 at *
  obtain ⟨hb, -, -⟩ := boxesA1 hW
  clear hW
  have hbA := hbA.trans (hb.mono hbA.size)
  have bR := bR.below' hb
  have HZ := hide hb.size
  clear hb h1
  generalize w1.heap.size = g1 at *
  go_loopw [4, 5, 6, 7, 15] (fun v4 _ _ _ v15 wr => ∃ r A c, r ≤ n ∧ v15 = .int .i64 ((r : Nat) : Int) ∧ v4 = .slice A (r + 1) c ∧ NR wr (w.heap.size + 1) A (r + 1) c (bRow r) ∧ w.heap.size + 1 ≤ wr.heap.size ∧ Below w.heap.size w wr ∧ Box wr w.heap.size #[.slice none 0 0] 25) (fun _ _ _ _ v15 _ => n - (intOf v15).toNat)
  case atStart => exact ⟨0, _, _, by omega, rfl, rfl, hr, Nat.le_trans HS.out.2 (HZ.out), hbA, bR⟩
  case round =>
    obtain ⟨r, A, c, hrn, rfl, rfl, hr, hsz, hbA, bR⟩ := hrel
    by_cases hlt : r < n
    · obtain ⟨g, u, S, m, d, rfl, hg0, hg1, hu, k0, x0⟩ := hr.at_ (j := r) (by omega)
      have HU := hide hu
      have hr2 := hr.nl
      have hx := NR.one S m d u (base := wr.heap.size) (Nat.le_refl _) x0
      have HX := hide hx
      clear hu hr hx x0
      go_wp2_with fail
      have hx := HX.out
      clear HX k0
      generalize hW : wr.alloc _ = W3 at *
      obtain ⟨hb, -, -⟩ := boxesA1 hW
      clear hW
      have HB2 := hide hb.size
      have hbA := hbA.trans (hb.mono hbA.size)
      have bR := bR.below' hb
      have hr2 := hr2.below hb
      clear hb
      generalize wr.heap.size = B2 at *
      have HG := hide (show g < B2 ∧ w.heap.size + 1 ≤ B2 ∧ w.heap.size < w.heap.size + 1 from ⟨hg1, hsz, HS.out.1⟩)
      clear hg0 hg1 hsz
      go_loopw [5, 6, 7, 26] (fun v5 _ _ v26 wq => ∃ i A c, i ≤ r + 1 ∧ v26 = .int .i64 ((i : Nat) : Int) ∧ v5 = .slice A (i + 1) c ∧ NR wq B2 A (i + 1) c ((bRow (r + 1)).take (i + 1)) ∧ NL wq (some ⟨g, 0, none⟩) (r + 1) (bRow r) ∧ B2 ≤ wq.heap.size ∧ Below w.heap.size w wq ∧ Box wq w.heap.size #[.slice none 0 0] 25) (fun _ _ _ v26 _ => r + 1 - (intOf v26).toNat)
      case atStart => exact ⟨0, _, _, by omega, rfl, rfl, by rw [bNext_head HU.out]; exact hx, hr2, HB2.out, hbA, bR⟩
      case round =>
        obtain ⟨i, A, c, hi, rfl, rfl, hx, hr2, hB2, hbA, bR⟩ := hrel
        by_cases hli : i < r + 1
        · obtain ⟨g5, u5, S5, m5, d5, rfl, hg5, hg5', hu5, k5, x5⟩ := hx.at_ (j := i) (by omega)
          obtain ⟨u6, S6, m6, d6, hb6, hu6, k6, x6⟩ := hr2.cell hli
          rw [Nat.zero_add] at k6
          rw [List.getElem?_take_of_lt (by omega)] at hu5
          have hii : (i : Int) < (i : Int) + 1 := by omega
          have HY1 := hide (show u5 < B9 ^ 100 from upB (bRow_at (by omega) hu5) (by omega))
          have HY2 := hide (show u6 < B9 ^ 100 from upB (bRow_at (by omega) hu6) (by omega))
          obtain ⟨z, hz⟩ : ∃ z, u5 + u6 = z := ⟨_, rfl⟩
          have HZ := hide hz
          have HT1 := hide (show (bRow (r + 1)).take (i + 1 + 1) = (bRow (r + 1)).take (i + 1) ++ [z] from take_snocN (by rw [← hz]; exact bNext_at hu5 hu6))
          clear hz hu5 hu6 hg5' hb6
          go_wp2_with fail
          generalize hW : wr.alloc _ = W5
          obtain ⟨hb, b7, -⟩ := boxesA1 hW
          clear hW
          have hB5 := Nat.le_trans hB2 hb.size
          have hbA := hbA.trans (hb.mono hbA.size)
          have bR := bR.below' hb
          have hr2 := hr2.below hb
          have hx := hx.below hb
          have x5 := x5.below hb
          have x6 := x6.below hb
          have k5 := (hb.cell (p := ⟨g5, i, none⟩) (World.block_lt_of_cell? wr _ k5)).trans k5
          have hl5 := World.block_lt_of_cell? W5 _ k5
          clear hb k6 hB2
          generalize wr.heap.size = gb at *
          have KF : Hid (∀ w', Below W5.heap.size W5 w' → w'.cell? ⟨g5, i, none⟩ = some (.slice S5 m5 d5) ∧ w'.cell? ⟨gb, 0, none⟩ = some (.slice S6 m6 d6)) := fun w' h => ⟨(h.cell (p := ⟨g5, i, none⟩) hl5).trans k5, (b7.below' h).cell⟩
          clear k5 hl5
          have P0 : Below W5.heap.size W5 W5.drew := (Below.refl _ _).drew
          obtain ⟨k0, k1⟩ := KF.out _ P0
          go_region_law (first
            | (go_simp; go_at_call 33; (with_reducible refine (add_n (L := 100) ((x5.below P0).nt HY1.out) ((x6.below P0).nt HY2.out) (by omega) z HZ.out).mono ?_); rintro e w7 ⟨A7, n7, c7, rfl, r7, l7, m7, hb7⟩; have h7 : Cn w7 A7 n7 c7 z := ⟨r7, l7, m7⟩; have E7 := P0.trans (hb7.mono P0.size); obtain ⟨y0, y1⟩ := KF.out _ E7; have F8 : Below W5.heap.size W5 (w7.alloc (.cells #[.slice A7 n7 c7] 25)) := E7.alloc E7.size _; have row8 := hx.below F8; have cel8 := (Box.new w7 #[.slice A7 n7 c7] 25).cell; have cn8 := h7.below ((Below.refl _ _).alloc (Nat.le_refl w7.heap.size) (.cells #[.slice A7 n7 c7] 25)); have s8 := Nat.le_trans hB5 F8.size)
            | (refine step_append_nr rfl _ _ 52 rfl 24 Tryd.underlying52 nat_info B2 _ (i + 1) c _ rfl row8 w7.heap.size 0 1 A7 n7 c7 z rfl cel8 cn8 (by omega) (i + 1 + 1) rfl (by omega) s8 ?_; intro A8 c8 w8 hr8 hG8))
          all_goals
            have G := (Grow.of F8 hB5).trans hG8
            have hr2 := hr2.grow (B := B2) (fun b o e => by injection e with e; injection e with e; rw [← e]; exact HG.out.1) G
            have hB8 := Nat.le_trans hB5 G.2.1
            have hbA := hbA.trans (G.1.mono (Nat.le_trans (Nat.le_of_lt HG.out.2.2) HG.out.2.1))
            have bR := bR.below G.1 (Nat.lt_of_lt_of_le HG.out.2.2 HG.out.2.1)
            have HR8 := hide hr8
            clear hr8 G hG8 row8 cel8 cn8 s8 F8 E7 P0 KF h7 r7 l7 m7 hb7 y0 y1 k0 k1 x5 x6 hx b7 hB5
            go_wp2_with fail
            go_roundw
            case measure => simp [intOf]; omega
            case rel => exact ⟨i + 1, A8, c8, by omega, by go_num, rfl, by rw [HT1.out]; exact HR8.out, hr2, hB8, hbA, bR⟩
        · obtain rfl : i = r + 1 := by omega
          have HX := hide (show NR wr (w.heap.size + 1) A (r + 1 + 1) c (bRow (r + 1)) from by
            rw [List.take_of_length_le (by rw [bRow_len]; omega)] at hx
            exact hx.low HG.out.2.1)
          have hB3 := Nat.le_trans HG.out.2.1 hB2
          clear hx
          go_wp2_with fail
          go_roundw
          case measure => simp [intOf]; omega
          case rel => exact ⟨r + 1, A, c, by omega, by go_num, rfl, HX.out, hB3, hbA, bR⟩
    · obtain rfl : r = n := by omega
      obtain ⟨g, u, S, m, d, rfl, hg0, hg1, hu, k0, x0⟩ := hr.at_ (j := 0) (by omega)
      obtain rfl : u = T := (headD_at hu).symm.trans HT.out
      clear hu
      have g0 := bR.cell
      have f0 := bR.frozen 0
      have h3 := x0.far (i := 0) bR noInt1 (.slice S m d)
      have b3 := bR.put (.slice S m d)
      go_wp2_with fail
      have k1 := b3.cell
      refine bodyPost_ret (v := .tuple #[.agg #[.slice S m d], .int .i64 0]) (by simp [results, Tryd.results24, go_sem, k1]) rfl ?_
      exact ⟨S, m, d, rfl, h3.1, h3.2.1, h3.2.2, hbA.setCell (Nat.le_refl _) _⟩
end Go.Proofs.YtjmiaodjapclbaaDoor
