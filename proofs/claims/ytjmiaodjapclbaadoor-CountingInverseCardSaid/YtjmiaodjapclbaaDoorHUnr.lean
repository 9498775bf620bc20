/- The contract of the reference's UnrankSet (layer 3). -/
import Derived.Test.YtjmiaodjapclbaaDoorHRow
import Derived.Test.YtjmiaodjapclbaaDoorCUnr
namespace Go.Proofs.YtjmiaodjapclbaaDoor
open Go Go.RowKit

/-- what holds at number v of the reference's search: r of the sets come before -/
def RInv (n k : Nat) (U : List Nat) (v : Nat) (s : List Nat) (r : Nat) : Prop :=
  r < cho (n - v) (k - s.length) ∧ s ++ un (n - v) v (k - s.length) r = U
theorem RInv.lt {n k v r : Nat} {U s : List Nat} (h : RInv n k U v s r) (hs : s.length < k) : v < n := by
  obtain ⟨h1, -⟩ := h
  rcases Nat.lt_or_ge v n with h2 | h2
  · exact h2
  · rw [cho_zero (show n - v < k - s.length by omega)] at h1
    omega
theorem RInv.take {n k v r : Nat} {U s : List Nat} (h : RInv n k U v s r) (hs : s.length < k) (hlt : r < cho (n - v - 1) (k - s.length - 1)) : RInv n k U (v + 1) (s ++ [v]) r := by
  have hv := h.lt hs
  obtain ⟨h1, h2⟩ := h
  obtain ⟨m, hm⟩ : ∃ m, n - v = m + 1 := ⟨n - v - 1, by omega⟩
  obtain ⟨j, hj⟩ : ∃ j, k - s.length = j + 1 := ⟨k - s.length - 1, by omega⟩
  rw [show n - v - 1 = m by omega, show k - s.length - 1 = j by omega] at hlt
  rw [hm, hj] at h2
  refine ⟨?_, ?_⟩
  · rw [List.length_append, List.length_singleton, show n - (v + 1) = m by omega, show k - (s.length + 1) = j by omega]
    exact hlt
  · rw [List.length_append, List.length_singleton, show n - (v + 1) = m by omega, show k - (s.length + 1) = j by omega, ← h2]
    have e : un (m + 1) v (j + 1) r = v :: un m (v + 1) j r := by show (if _ then _ else _) = _; rw [if_pos hlt]
    rw [e, List.append_assoc]
    rfl
theorem RInv.skip {n k v r : Nat} {U s : List Nat} (h : RInv n k U v s r) (hs : s.length < k) (hge : ¬ r < cho (n - v - 1) (k - s.length - 1)) : RInv n k U (v + 1) s (r - cho (n - v - 1) (k - s.length - 1)) := by
  have hv := h.lt hs
  obtain ⟨h1, h2⟩ := h
  obtain ⟨m, hm⟩ : ∃ m, n - v = m + 1 := ⟨n - v - 1, by omega⟩
  obtain ⟨j, hj⟩ : ∃ j, k - s.length = j + 1 := ⟨k - s.length - 1, by omega⟩
  rw [show n - v - 1 = m by omega, show k - s.length - 1 = j by omega] at hge ⊢
  rw [hm, hj] at h1 h2
  have h1' : r < cho m j + cho m (j + 1) := h1
  refine ⟨?_, ?_⟩
  · rw [show n - (v + 1) = m by omega, hj]
    omega
  · rw [show n - (v + 1) = m by omega, hj, ← h2]
    have e : un (m + 1) v (j + 1) r = un m (v + 1) (j + 1) (r - cho m j) := by show (if _ then _ else _) = _; rw [if_neg hge]
    rw [e]
theorem RInv.done {n k v r : Nat} {U s : List Nat} (h : RInv n k U v s r) (hs : s.length = k) : s = U := by
  obtain ⟨-, h2⟩ := h
  rw [show k - s.length = 0 by omega, un_none, List.append_nil] at h2
  exact h2

set_option maxHeartbeats 8000000 in
set_option maxRecDepth 100000 in
theorem hunr_err_0 (i j : Int) (A : Option Addr) (n c : Nat) (w : World) (_h0 : i < 0) : Calls Tryd.prog 29 #[.int .i64 i, .int .i64 j, .agg #[.slice A n c]] w fun e w' => e = .returned (.tuple #[.slice none 0 0, .int .i64 2]) ∧ Below w.heap.size w w' := by
  have d0 : decide (i < 0) = true := by simp; omega
  clear _h0
  go_enter Tryd.func29, Tryd.ntmps29
  go_wp2_with fail
  generalize hW : w.alloc _ = W
  obtain ⟨hbW, -, -⟩ := boxesA1 hW
  clear hW
  go_ret2
  exact ⟨rfl, hbW⟩
set_option maxHeartbeats 8000000 in
set_option maxRecDepth 100000 in
theorem hunr_err_1 (i j : Int) (A : Option Addr) (n c : Nat) (w : World) (_h0 : ¬(i < 0)) (_h1 : 64 < i) : Calls Tryd.prog 29 #[.int .i64 i, .int .i64 j, .agg #[.slice A n c]] w fun e w' => e = .returned (.tuple #[.slice none 0 0, .int .i64 2]) ∧ Below w.heap.size w w' := by
  have d0 : decide (i < 0) = false := by simp; omega
  have d1 : decide ((64 : Int) < i) = true := by simp; omega
  clear _h0 _h1
  go_enter Tryd.func29, Tryd.ntmps29
  go_wp2_with fail
  generalize hW : w.alloc _ = W
  obtain ⟨hbW, -, -⟩ := boxesA1 hW
  clear hW
  go_ret2
  exact ⟨rfl, hbW⟩
set_option maxHeartbeats 8000000 in
set_option maxRecDepth 100000 in
theorem hunr_err_2 (i j : Int) (A : Option Addr) (n c : Nat) (w : World) (_h0 : ¬(i < 0)) (_h1 : ¬(64 < i)) (_h2 : j < 0) : Calls Tryd.prog 29 #[.int .i64 i, .int .i64 j, .agg #[.slice A n c]] w fun e w' => e = .returned (.tuple #[.slice none 0 0, .int .i64 2]) ∧ Below w.heap.size w w' := by
  have d0 : decide (i < 0) = false := by simp; omega
  have d1 : decide ((64 : Int) < i) = false := by simp; omega
  have d2 : decide (j < 0) = true := by simp; omega
  clear _h0 _h1 _h2
  go_enter Tryd.func29, Tryd.ntmps29
  go_wp2_with fail
  generalize hW : w.alloc _ = W
  obtain ⟨hbW, -, -⟩ := boxesA1 hW
  clear hW
  go_ret2
  exact ⟨rfl, hbW⟩
set_option maxHeartbeats 8000000 in
set_option maxRecDepth 100000 in
theorem hunr_err_3 (i j : Int) (A : Option Addr) (n c : Nat) (w : World) (_h0 : ¬(i < 0)) (_h1 : ¬(64 < i)) (_h2 : ¬(j < 0)) (_h3 : i < j) : Calls Tryd.prog 29 #[.int .i64 i, .int .i64 j, .agg #[.slice A n c]] w fun e w' => e = .returned (.tuple #[.slice none 0 0, .int .i64 2]) ∧ Below w.heap.size w w' := by
  have d0 : decide (i < 0) = false := by simp; omega
  have d1 : decide ((64 : Int) < i) = false := by simp; omega
  have d2 : decide (j < 0) = false := by simp; omega
  have d3 : decide (i < j) = true := by simp; omega
  clear _h0 _h1 _h2 _h3
  go_enter Tryd.func29, Tryd.ntmps29
  go_wp2_with fail
  generalize hW : w.alloc _ = W
  obtain ⟨hbW, -, -⟩ := boxesA1 hW
  clear hW
  go_ret2
  exact ⟨rfl, hbW⟩
theorem hunr_err (i j : Int) (A : Option Addr) (n c : Nat) (w : World) (h : ¬((0 ≤ i ∧ i ≤ 64) ∧ 0 ≤ j ∧ j ≤ i)) : Calls Tryd.prog 29 #[.int .i64 i, .int .i64 j, .agg #[.slice A n c]] w fun e w' => e = .returned (.tuple #[.slice none 0 0, .int .i64 2]) ∧ Below w.heap.size w w' := by
  by_cases h0 : i < 0
  · exact hunr_err_0 i j A n c w h0
  · by_cases h1 : 64 < i
    · exact hunr_err_1 i j A n c w h0 h1
    · by_cases h2 : j < 0
      · exact hunr_err_2 i j A n c w h0 h1 h2
      · exact hunr_err_3 i j A n c w h0 h1 h2 (by omega)
set_option maxHeartbeats 8000000 in
set_option maxRecDepth 100000 in
theorem hunr_none (n k : Nat) (hn : n ≤ 64) (hk : k ≤ n) (A : Option Addr) (m c u : Nat) (w : World) (hA : Nt w 20 A m c u) (hu : cho n k ≤ u) : Calls Tryd.prog 29 #[.int .i64 (n : Int), .int .i64 (k : Int), .agg #[.slice A m c]] w fun e w' => e = .returned (.tuple #[.slice none 0 0, .int .i64 7]) ∧ Below w.heap.size w w' := by
  have d0 : decide ((n : Int) < 0) = false := by simp
  have d1 : decide ((64 : Int) < (n : Int)) = false := by simp; omega
  have d2 : decide ((k : Int) < 0) = false := by simp
  have d3 : decide ((n : Int) < (k : Int)) = false := by simp; omega
  have d4 : ¬ n < k := by omega
  have HC := hide (choI_nat n k)
  have HB1 := hide (show cho n k < B9 ^ 100 from upB (cho_lt n k) (by omega))
  obtain ⟨CR, hcr⟩ : ∃ CR, cmpI u (cho n k) = CR := ⟨_, rfl⟩
  have HCR := hide hcr
  have dcr : decide (0 ≤ CR) = true := by
    rw [← hcr]; unfold cmpI; rw [if_neg (by omega)]; split <;> simp
  clear hcr
  go_enter Tryd.func29, Tryd.ntmps29
  go_wp2_with fail
  generalize hW : w.alloc _ = W
  obtain ⟨hbW, b5, -⟩ := boxesA1 hW
  clear hW
  have hA := hA.below hbW
  with_reducible refine (hbin_any n k (by omega) _ _ HC.out).mono ?_
  intro e w1 h
  obtain ⟨A1, n1, c1, rfl, h1, hb1⟩ := GivesNE.cn h
  clear h
  have hbA := hbW.trans (hb1.mono hbW.size)
  have b5 := b5.below' hb1
  have hA := hA.below hb1
  clear hb1
  have k5 := b5.cell
  have l5 := b5.lt
  go_wp2_with fail
  clear k5 l5
  generalize hW : w1.alloc _ = W1
  obtain ⟨hb, -, -⟩ := boxesA1 hW
  clear hW
  have hbA := hbA.trans (hb.mono hbA.size)
  have b5 := b5.below' hb
  have hA := hA.below hb
  have h1 := h1.below hb
  clear hb
  with_reducible refine (rcmp_n (L := 100) (hA.up (by omega)) (h1.nt HB1.out) (by omega) CR HCR.out).mono ?_
  rintro e w2 ⟨rfl, hb2⟩
  have hbA := hbA.trans (hb2.mono hbA.size)
  have b5 := b5.below' hb2
  have hA := hA.below hb2
  clear hb2 h1
  go_wp2_with fail
  go_ret2
  exact ⟨rfl, hbA⟩
set_option maxHeartbeats 8000000 in
set_option maxRecDepth 100000 in
theorem hunr_ok (n k : Nat) (hn : n ≤ 64) (hk : k ≤ n) (A : Option Addr) (m c u : Nat) (w : World) (hA : Nt w 20 A m c u) (hu : u < cho n k) (U : List Nat) (hU : un n 0 k u = U) : Calls Tryd.prog 29 #[.int .i64 (n : Int), .int .i64 (k : Int), .agg #[.slice A m c]] w (GivesI U w) := by
  have d0 : decide ((n : Int) < 0) = false := by simp
  have d1 : decide ((64 : Int) < (n : Int)) = false := by simp; omega
  have d2 : decide ((k : Int) < 0) = false := by simp
  have d3 : decide ((n : Int) < (k : Int)) = false := by simp; omega
  have d4 : ¬ n < k := by omega
  have HC := hide (choI_nat n k)
  have HB1 := hide (show cho n k < B9 ^ 100 from upB (cho_lt n k) (by omega))
  obtain ⟨CR, hcr⟩ : ∃ CR, cmpI u (cho n k) = CR := ⟨_, rfl⟩
  have HCR := hide hcr
  have dcr : decide (0 ≤ CR) = false := by
    rw [← hcr, cmpI_lt hu]; rfl
  have HI : Hid (RInv n k U 0 [] u) := ⟨by rw [Nat.sub_zero]; exact hu, by rw [Nat.sub_zero]; exact hU⟩
  clear hcr hU
  go_enter Tryd.func29, Tryd.ntmps29
  go_wp2_with fail
  generalize hW : w.alloc _ = W
  obtain ⟨hbW, b5, -⟩ := boxesA1 hW
  clear hW
  have hA := hA.below hbW
  with_reducible refine (hbin_any n k (by omega) _ _ HC.out).mono ?_
  intro e w1 h
  obtain ⟨A1, n1, c1, rfl, h1, hb1⟩ := GivesNE.cn h
  clear h
  have hbA := hbW.trans (hb1.mono hbW.size)
  have b5 := b5.below' hb1
  have hA := hA.below hb1
  clear hb1
  have k5 := b5.cell
  have l5 := b5.lt
  go_wp2_with fail
  clear k5 l5
  generalize hW : w1.alloc _ = W1
  obtain ⟨hb, -, -⟩ := boxesA1 hW
  clear hW
  have hbA := hbA.trans (hb.mono hbA.size)
  have b5 := b5.below' hb
  have hA := hA.below hb
  have h1 := h1.below hb
  clear hb
  with_reducible refine (rcmp_n (L := 100) (hA.up (by omega)) (h1.nt HB1.out) (by omega) CR HCR.out).mono ?_
  rintro e w2 ⟨rfl, hb2⟩
  have hbA := hbA.trans (hb2.mono hbA.size)
  have b5 := b5.below' hb2
  have hA := hA.below hb2
  clear hb2 h1
  go_wp2_with fail
  have hx : IR w2 w2.heap.size none 0 0 [] := IR.nil_
  have HG := hide (show w.heap.size < w2.heap.size ∧ w.heap.size ≤ w.heap.size from ⟨b5.lt, Nat.le_refl _⟩)
  have HZ := hide (Nat.le_refl w2.heap.size)
  have HSW := hide hbA.size
  have hr := hA.up (show 20 ≤ 100 by omega)
  generalize hBB : w2.heap.size = B at hx HG HZ HSW
  have HZ2 := hide (Nat.le_of_eq hBB.symm)
  clear hBB hA
  go_loopw [10, 11, 12, 13] (fun v10 v11 _ _ wr => ∃ (s : List Nat) (A : Option Addr) (q c v r : Nat) (Ar : Option Addr) (nr cr : Nat), s.length = q ∧ v11 = .int .i64 ((v : Nat) : Int) ∧ v10 = .slice A q c ∧ IR wr B A q c s ∧ q ≤ k ∧ v ≤ n ∧ Hid (RInv n k U v s r) ∧ Below w.heap.size w wr ∧ Box wr w.heap.size #[.slice Ar nr cr] 25 ∧ Nt wr 100 Ar nr cr r ∧ B ≤ wr.heap.size) (fun _ v11 _ _ _ => n - (intOf v11).toNat)
  case atStart => exact ⟨[], _, 0, _, 0, _, _, _, _, rfl, rfl, rfl, hx, Nat.zero_le _, Nat.zero_le _, HI, hbA, b5, hr, HZ2.out⟩
  case round =>
    clear hx hr b5 hbA
    obtain ⟨s, A, q, c, v, r, Ar, nr, cr, hsl, rfl, rfl, hx, hqk, hv, HU, hbA, b5, hr, hB⟩ := hrel
    by_cases hlt : q < k
    · have hvn : v < n := HU.out.lt (by omega)
      obtain ⟨need, hneed⟩ : ∃ need, k - q - 1 = need := ⟨_, rfl⟩
      obtain ⟨a, ha⟩ : ∃ a, n - v - 1 = a := ⟨_, rfl⟩
      have hki : (k : Int) - (q : Int) - 1 = (need : Int) := by omega
      have hna : (n : Int) - (v : Int) - 1 = (a : Int) := by omega
      have HC2 := hide (choI_nat a need)
      have HB3 := hide (show cho a need < B9 ^ 100 from upB (cho_lt _ _) (by omega))
      have ha300 : a ≤ 300 := by omega
      have HSL := hide hsl
      obtain ⟨CQ, hcq⟩ : ∃ CQ, cmpI r (cho a need) = CQ := ⟨_, rfl⟩
      have HCQ := hide hcq
      by_cases hrb : r < cho a need
      · have dcq : decide (CQ < 0) = true := by rw [← hcq, cmpI_lt hrb]; rfl
        have HUN := hide (HU.out.take (by omega) (by rw [hsl, hneed, ha]; exact hrb))
        clear hcq hrb hneed ha hsl HU
        go_wp2_with fail
        with_reducible refine (hbin_any a need ha300 _ _ HC2.out).mono ?_
        intro e w7 h
        obtain ⟨A7, n7, c7, rfl, h7, hb7⟩ := GivesNE.cn h
        clear h
        have hbA := hbA.trans (hb7.mono hbA.size)
        have b5 := b5.below' hb7
        have hr := hr.below hb7
        have hx := hx.below hb7
        have hB7 := Nat.le_trans hB hb7.size
        clear hb7 hB
        have k5 := b5.cell
        have l5 := b5.lt
        go_wp2_with fail
        clear k5 l5
        generalize hW : w7.alloc _ = W7
        obtain ⟨hb, b12, -⟩ := boxesA1 hW
        clear hW
        have hbA := hbA.trans (hb.mono hbA.size)
        have b5 := b5.below' hb
        have hr := hr.below hb
        have hx := hx.below hb
        have h7 := h7.below hb
        have hB7b := Nat.le_trans hB7 hb.size
        clear hb
        generalize w7.heap.size = g12 at *
        with_reducible refine (rcmp_n (L := 100) hr (h7.nt HB3.out) (by omega) CQ HCQ.out).mono ?_
        rintro e w8 ⟨rfl, hb8⟩
        have hbA := hbA.trans (hb8.mono hbA.size)
        have b5 := b5.below' hb8
        have b12 := b12.below' hb8
        have hr := hr.below hb8
        have hx := hx.below hb8
        have h7 := h7.below hb8
        have hB8 := Nat.le_trans hB7b hb8.size
        clear hb8 hB7 hB7b
        clear b12 h7
        have F : Below w8.heap.size w8 (w8.alloc (.cells #[.int .i64 (v : Int)] 3)) := (Below.refl _ _).alloc (Nat.le_refl _) _
        have hbF := hbA.trans (F.mono hbA.size)
        have bF := b5.below' F
        have hrF := hr.below F
        have HBF := hide (Nat.le_trans hB8 F.size)
        clear hr b5 hbA
        go_wp2_with (at_builtin; refine wpList_append_ir rfl _ _ 32 rfl 8 Tryd.underlying32 int_info B _ q c s rfl (hx.below F) w8.heap.size 0 1 v rfl (Box.new w8 #[.int .i64 (v : Int)] 3).cell (by omega) (q + 1) rfl (by omega) HBF.out ?_; intro A9 c9 w9 hr9 hG9)
        have hbA := hbF.trans (hG9.1.mono HSW.out)
        have b5 := bF.below hG9.1 HG.out.1
        have hr := hG9.nt hrF
        have hB9 := Nat.le_trans HBF.out hG9.2.1
        have HR9 := hide hr9
        clear hr9 hG9 F bF hrF hbF hx
        go_roundw
        case measure => simp [intOf]; omega
        case rel => exact ⟨s ++ [v], A9, q + 1, c9, v + 1, r, Ar, nr, cr, by rw [List.length_append, HSL.out]; rfl, by go_num, rfl, HR9.out, by omega, by omega, HUN, hbA, b5, hr, hB9⟩
      · have dcq : decide (CQ < 0) = false := by
          rw [← hcq]; unfold cmpI; rw [if_neg hrb]; split <;> simp
        have HUN := hide (show RInv n k U (v + 1) s (r - cho a need) from by
          have h1 := HU.out.skip (by omega) (by rw [hsl, hneed, ha]; exact hrb)
          rw [hsl, hneed, ha] at h1
          exact h1)
        have HRL := hide (show cho a need ≤ r from by omega)
        have HRB := hide (show r - cho a need < B9 ^ 100 from by
          have h1 := HUN.out.1
          have h2 := cho_lt (n - (v + 1)) (k - s.length)
          have h3 : B9 ^ (n - (v + 1) + 1) ≤ B9 ^ 100 := Nat.pow_le_pow_right (by decide) (by omega)
          omega)
        clear hcq hrb hneed ha hsl HU
        go_wp2_with fail
        with_reducible refine (hbin_any a need ha300 _ _ HC2.out).mono ?_
        intro e w7 h
        obtain ⟨A7, n7, c7, rfl, h7, hb7⟩ := GivesNE.cn h
        clear h
        have hbA := hbA.trans (hb7.mono hbA.size)
        have b5 := b5.below' hb7
        have hr := hr.below hb7
        have hx := hx.below hb7
        have hB7 := Nat.le_trans hB hb7.size
        clear hb7 hB
        have k5 := b5.cell
        have l5 := b5.lt
        go_wp2_with fail
        clear k5 l5
        generalize hW : w7.alloc _ = W7
        obtain ⟨hb, b12, -⟩ := boxesA1 hW
        clear hW
        have hbA := hbA.trans (hb.mono hbA.size)
        have b5 := b5.below' hb
        have hr := hr.below hb
        have hx := hx.below hb
        have h7 := h7.below hb
        have hB7b := Nat.le_trans hB7 hb.size
        clear hb
        generalize w7.heap.size = g12 at *
        with_reducible refine (rcmp_n (L := 100) hr (h7.nt HB3.out) (by omega) CQ HCQ.out).mono ?_
        rintro e w8 ⟨rfl, hb8⟩
        have hbA := hbA.trans (hb8.mono hbA.size)
        have b5 := b5.below' hb8
        have b12 := b12.below' hb8
        have hr := hr.below hb8
        have hx := hx.below hb8
        have h7 := h7.below hb8
        have hB8 := Nat.le_trans hB7b hb8.size
        clear hb8 hB7 hB7b
        have k5 := b5.cell
        have l5 := b5.lt
        have k12 := b12.cell
        have l12 := b12.lt
        go_wp2_with fail
        clear k5 l5 k12 l12 b12
        with_reducible refine (rsub_n (L := 100) hr (h7.nt HB3.out) (by omega) _ rfl HRL.out).mono ?_
        intro e w9 h
        obtain ⟨A9, n9, c9, rfl, h9, hb9⟩ := GivesNE.cn h
        clear h
        have hbA := hbA.trans (hb9.mono hbA.size)
        have b5 := b5.below' hb9
        have hx := hx.below hb9
        have hB9 := Nat.le_trans hB8 hb9.size
        clear hb9 hr h7
        have k5 := b5.cell
        have f5 := b5.frozen 0
        have h9 := (h9.far (i := 0) b5 noInt1 (.slice A9 n9 c9)).nt HRB.out
        have b5n := b5.put (.slice A9 n9 c9)
        have hbN : Below w.heap.size w (w9.setCell ⟨w.heap.size, 0, none⟩ (.slice A9 n9 c9)) := hbA.setCell (Nat.le_refl _) _
        have HRN := hide (show IR (w9.setCell ⟨w.heap.size, 0, none⟩ (.slice A9 n9 c9)) B A q c s from hx.far (fun b o e => by have := (hx.lt b o e).1; have := HG.out.1; omega) _)
        have HS9 := hide (show B ≤ (w9.setCell ⟨w.heap.size, 0, none⟩ (.slice A9 n9 c9)).heap.size from by simpa [World.setCell] using hB9)
        go_wp2_with fail
        go_roundw
        case measure => simp [intOf]; omega
        case rel => exact ⟨s, A, q, c, v + 1, _, A9, n9, c9, HSL.out, by go_num, rfl, HRN.out, by omega, by omega, HUN, hbN, b5n, h9, HS9.out⟩
    · obtain rfl : q = k := by omega
      have HF := hide (HU.out.done hsl)
      have HLE := hide hx.le
      have HRL := hide hx.rl
      clear hsl hx
      go_wp2_with fail
      go_ret2
      exact ⟨A, q, c, rfl, by rw [← HF.out]; exact HRL.out, HLE.out.1, HLE.out.2, hbA⟩
end Go.Proofs.YtjmiaodjapclbaaDoor
