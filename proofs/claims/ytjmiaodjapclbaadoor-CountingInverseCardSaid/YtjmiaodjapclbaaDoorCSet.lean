/- The contracts of counting.isSet, RankSet. -/
import Derived.Test.YtjmiaodjapclbaaDoorCCho
import Derived.Test.YtjmiaodjapclbaaDoorNRow
import Derived.Deep.RegionLaw
namespace Go.Proofs.YtjmiaodjapclbaaDoor
open Go Go.RowKit

/-- a slice of ints that reads as xs -/
def IL (w : World) (A : Option Addr) (n : Nat) (xs : List Int) : Prop :=
  xs.length = n ∧ (0 < n → ∃ b o, A = some ⟨b, o, none⟩ ∧ ∀ (j : Nat) (x : Int), xs[j]? = some x → w.cell? ⟨b, o + j, none⟩ = some (.int .i64 x))
section
variable {w w' : World} {A : Option Addr} {n : Nat} {xs : List Int}
theorem IL.len (h : IL w A n xs) : xs.length = n := h.1
theorem IL.nil_ : IL w A 0 [] := ⟨rfl, fun h => absurd h (by omega)⟩
theorem IL.at_ (h : IL w A n xs) {j : Nat} (hj : j < n) : ∃ b o x, A = some ⟨b, o, none⟩ ∧ xs[j]? = some x ∧ w.cell? ⟨b, o + j, none⟩ = some (.int .i64 x) := by
  obtain ⟨b, o, e, hc⟩ := h.2 (by omega)
  have hl : j < xs.length := by rw [h.1]; exact hj
  exact ⟨b, o, xs[j], e, List.getElem?_eq_getElem hl, hc j _ (List.getElem?_eq_getElem hl)⟩
theorem IL.below (h : IL w A n xs) (hb : Below w.heap.size w w') : IL w' A n xs :=
  ⟨h.1, fun hn => by
    obtain ⟨b, o, e, hc⟩ := h.2 hn
    exact ⟨b, o, e, fun j x hx => (hb.cell (p := ⟨b, o + j, none⟩) (World.block_lt_of_cell? w _ (hc j x hx))).trans (hc j x hx)⟩⟩
end
/-- the ints of a list of numbers -/
def ints (l : List Nat) : List Int := l.map fun x : Nat => (x : Int)
theorem ints_at {l : List Nat} {j : Nat} {x : Int} (h : (ints l)[j]? = some x) : ∃ y : Nat, l[j]? = some y ∧ x = (y : Int) := by
  unfold ints at h
  rw [List.getElem?_map] at h
  obtain ⟨y, h1, h2⟩ := Option.map_eq_some_iff.1 h
  exact ⟨y, h1, h2.symm⟩
theorem at_ints {l : List Nat} {j y : Nat} (h : l[j]? = some y) : (ints l)[j]? = some (y : Int) := by
  unfold ints
  rw [List.getElem?_map, h]; rfl
theorem RL.il {w : World} {A : Option Addr} {n : Nat} {l : List Nat} (h : RL w .i64 A n l) : IL w A n (ints l) :=
  ⟨by unfold ints; rw [List.length_map]; exact h.1, fun hn => by
    obtain ⟨b, o, e, hc⟩ := h.2 hn
    refine ⟨b, o, e, fun j x hx => ?_⟩
    obtain ⟨y, h1, rfl⟩ := ints_at hx
    exact hc j y h1⟩
theorem IL.rl {w : World} {A : Option Addr} {n : Nat} {l : List Nat} (h : IL w A n (ints l)) : RL w .i64 A n l :=
  ⟨by have := h.1; unfold ints at this; rwa [List.length_map] at this, fun hn => by
    obtain ⟨b, o, e, hc⟩ := h.2 hn
    exact ⟨b, o, e, fun j x hx => hc j _ (at_ints hx)⟩⟩
/-- strictly ascending from y to n - 1 -/
def setB (n : Int) : Int → List Int → Bool
  | _, [] => true
  | y, x :: l => if x < y then false else if n ≤ x then false else setB n (x + 1) l
theorem setB_asc (n : Nat) : ∀ (xs : List Int) (v : Nat), setB n v xs = true → ∃ l, xs = ints l ∧ asc_ v n l
  | [], v, _ => ⟨[], rfl, trivial⟩
  | x :: xs, v, h => by
    unfold setB at h
    split at h
    · cases h
    · split at h
      · cases h
      · rename_i h1 h2
        obtain ⟨s, rfl⟩ : ∃ s : Nat, x = (s : Int) := ⟨x.toNat, by omega⟩
        obtain ⟨l, rfl, hl⟩ := setB_asc n xs (s + 1) (by rw [← h]; congr 1)
        exact ⟨s :: l, rfl, by omega, by omega, hl⟩
theorem asc_setB (n : Nat) : ∀ (l : List Nat) (v : Nat), asc_ v n l → setB n v (ints l) = true
  | [], _, _ => rfl
  | s :: l, v, h => by
    obtain ⟨h1, h2, h3⟩ := h
    show (if (s : Int) < v then false else if (n : Int) ≤ s then false else setB n (s + 1) (ints l)) = true
    rw [if_neg (by omega), if_neg (by omega)]
    have := asc_setB n l (s + 1) h3
    rw [← this]; congr 1
theorem asc_len : ∀ (l : List Nat) (v e : Nat), asc_ v e l → v ≤ e → v + l.length ≤ e
  | [], _, _, _, h => h
  | s :: l, v, e, h, _ => by
    obtain ⟨h1, h2, h3⟩ := h
    have := asc_len l (s + 1) e h3 (by omega)
    rw [List.length_cons]; omega
theorem asc_mem : ∀ (l : List Nat) (v e : Nat), asc_ v e l → ∀ x ∈ l, v ≤ x ∧ x < e
  | [], _, _, _, x, hx => by cases hx
  | s :: l, v, e, h, x, hx => by
    obtain ⟨h1, h2, h3⟩ := h
    rcases List.mem_cons.1 hx with rfl | hx
    · exact ⟨h1, h2⟩
    · have := asc_mem l (s + 1) e h3 x hx
      omega
theorem choI_nat (n k : Nat) : choI n (k : Int) = cho n k := by
  unfold choI
  split
  · rw [Int.toNat_natCast]
  · rw [cho_zero (by omega)]
theorem cho_lt : ∀ n k, cho n k < B9 ^ (n + 1)
  | n, 0 => by rw [cho_one]; exact Nat.one_lt_pow (by omega) (by decide)
  | 0, k + 1 => by show 0 < _; exact Nat.pow_pos (by decide)
  | n + 1, k + 1 => by
    show cho n k + cho n (k + 1) < B9 ^ (n + 1) * 1000000000
    have h1 := cho_lt n k
    have h2 := cho_lt n (k + 1)
    omega
theorem cho_pos : ∀ {n k : Nat}, k ≤ n → 0 < cho n k
  | n, 0, _ => by rw [cho_one]; exact Nat.one_pos
  | n + 1, k + 1, h => by
    have := cho_pos (n := n) (k := k) (by omega)
    show 0 < cho n k + cho n (k + 1)
    omega
theorem drop_at {l : List Nat} {i s : Nat} (h : l[i]? = some s) : l.drop i = s :: l.drop (i + 1) := by
  obtain ⟨hi, e⟩ := List.getElem?_eq_some_iff.1 h
  rw [List.drop_eq_getElem_cons hi, e]
theorem drop_atI {l : List Int} {i : Nat} {s : Int} (h : l[i]? = some s) : l.drop i = s :: l.drop (i + 1) := by
  obtain ⟨hi, e⟩ := List.getElem?_eq_some_iff.1 h
  rw [List.drop_eq_getElem_cons hi, e]
theorem aft_step {n i s : Nat} {l : List Nat} (h : l[i]? = some s) : aft n (l.drop i) = cho (n - 1 - s) (l.length - i) + aft n (l.drop (i + 1)) := by
  rw [drop_at h]
  show cho (n - 1 - s) ((l.drop (i + 1)).length + 1) + _ = _
  have hi := (List.getElem?_eq_some_iff.1 h).1
  rw [List.length_drop, show l.length - (i + 1) + 1 = l.length - i by omega]

set_option maxHeartbeats 1000000 in
theorem isSet_any (n : Nat) (A : Option Addr) (m c : Nat) (xs : List Int) (w : World) (hx : IL w A m xs) (hn : n ≤ 64) (hm : m ≤ maxLen) (r : Bool) (hr : setB n 0 xs = r) :
    Calls Tryd.prog 49 #[.int .i64 (n : Int), .slice A m c] w fun e w' => e = .returned (.bool r) ∧ w = w' := by
  unfold maxLen at hm
  have HX := hide hx
  have HR := hide hr
  clear hx hr
  go_enter Tryd.func49, Tryd.ntmps49
  go_wp2_with fail
  go_loop [5, 7, 10] (fun v5 _ v10 => ∃ (k : Nat) (y : Int), k ≤ m ∧ v10 = .int .i64 ((k : Nat) : Int) ∧ v5 = .int .i64 y ∧ 0 ≤ y ∧ y ≤ 64 ∧ Hid (setB n y (xs.drop k) = r)) (fun _ _ v10 => m - (intOf v10).toNat)
  case atStart => exact ⟨0, 0, by omega, rfl, rfl, by omega, by omega, hide (by rw [List.drop_zero]; exact HR.out)⟩
  case round =>
    obtain ⟨k, y, hk, rfl, rfl, hy0, hy1, H⟩ := hrel
    by_cases hlt : k < m
    · obtain ⟨b, o, x, rfl, hx1, k0⟩ := HX.out.at_ hlt
      have HD := hide (show setB n y (x :: xs.drop (k + 1)) = r from by rw [← drop_atI hx1]; exact H.out)
      clear hx1 H
      by_cases h1 : x < y
      · have d1 : decide (x < y) = true := decide_eq_true h1
        obtain rfl : r = false := by
          rw [← HD.out]; unfold setB; rw [if_pos h1]
        clear h1
        go_wp2_with fail
        go_ret
        exact ⟨rfl, rfl⟩
      · have d1 : decide (x < y) = false := decide_eq_false h1
        by_cases h2 : (n : Int) ≤ x
        · have d2 : decide ((n : Int) ≤ x) = true := decide_eq_true h2
          obtain rfl : r = false := by
            rw [← HD.out]; unfold setB; rw [if_neg h1, if_pos h2]
          clear h1 h2
          go_wp2_with fail
          go_ret
          exact ⟨rfl, rfl⟩
        · have d2 : decide ((n : Int) ≤ x) = false := decide_eq_false h2
          have H3 := hide (show setB n (x + 1) (xs.drop (k + 1)) = r from by
            rw [← HD.out]; conv => rhs; unfold setB
            rw [if_neg h1, if_neg h2])
          have b1 : 0 ≤ x := by omega
          have b2 : x ≤ 63 := by omega
          clear h1 h2 HD
          go_wp2_with fail
          go_round
          case rel => exact ⟨k + 1, x + 1, by omega, by go_num, rfl, by omega, by omega, H3⟩
          case measure => simp [intOf]; omega
    · obtain rfl : k = m := by omega
      obtain rfl : r = true := by
        have := H.out
        rw [List.drop_of_length_le (by rw [HX.out.len]; exact Nat.le_refl _)] at this
        exact this.symm
      go_wp2_with fail
      go_ret
      exact ⟨rfl, rfl⟩

theorem crank_err2 (i : Int) (A : Option Addr) (m c : Nat) (w : World) (h : ¬(0 ≤ i ∧ i ≤ 64)) : Calls Tryd.prog 26 #[.int .i64 i, .slice A m c] w (GivesNE 0 2 w) := by
  have H := hide h
  clear h
  go_enter Tryd.func26, Tryd.ntmps26
  go_wp2_with fail
  generalize hW : w.alloc _ = W
  obtain ⟨hbW, bR, -⟩ := boxesA1 hW
  clear hW
  refine (within_any i 64 _ false ⟨fun h => absurd h H.out, fun h => by cases h⟩).mono ?_
  rintro e w1 ⟨rfl, rfl⟩
  have g0 := bR.cell
  have f0 := bR.frozen 0
  have b3 := bR.put (.slice none 0 0)
  go_wp2_with fail
  have k0 := b3.cell
  refine bodyPost_ret (v := .tuple #[.agg #[.slice none 0 0], .int .i64 2]) (by simp [results, Tryd.results26, go_sem, k0]) rfl ?_
  exact ⟨none, 0, 0, rfl, RL.nil_, by omega, by simp [maxLen], hbW.setCell (Nat.le_refl _) _⟩
theorem crank_err1 (n : Nat) (A : Option Addr) (m c : Nat) (xs : List Int) (w : World) (hx : IL w A m xs) (hn : n ≤ 64) (hm : m ≤ maxLen) (h : setB n 0 xs = false) : Calls Tryd.prog 26 #[.int .i64 (n : Int), .slice A m c] w (GivesNE 0 1 w) := by
  have H := hide h
  clear h
  go_enter Tryd.func26, Tryd.ntmps26
  go_wp2_with fail
  generalize hW : w.alloc _ = W
  obtain ⟨hbW, bR, -⟩ := boxesA1 hW
  clear hW
  refine (within_any n 64 _ true ⟨fun _ => rfl, fun _ => ⟨by omega, by omega⟩⟩).mono ?_
  rintro e w1 ⟨rfl, rfl⟩
  go_wp2_with fail
  refine (isSet_any n A m c xs _ (hx.below hbW) hn hm false H.out).mono ?_
  rintro e w2 ⟨rfl, rfl⟩
  have g0 := bR.cell
  have f0 := bR.frozen 0
  have b3 := bR.put (.slice none 0 0)
  go_wp2_with fail
  have k0 := b3.cell
  refine bodyPost_ret (v := .tuple #[.agg #[.slice none 0 0], .int .i64 1]) (by simp [results, Tryd.results26, go_sem, k0]) rfl ?_
  exact ⟨none, 0, 0, rfl, RL.nil_, by omega, by simp [maxLen], hbW.setCell (Nat.le_refl _) _⟩
set_option maxHeartbeats 4000000 in
theorem crank_ok (n : Nat) (A : Option Addr) (m c : Nat) (l : List Nat) (w : World) (hx : RL w .i64 A m l) (hn : n ≤ 64) (ha : asc_ 0 n l) (T : Nat) (hT : rk n 0 l = T) : Calls Tryd.prog 26 #[.int .i64 (n : Int), .slice A m c] w (GivesNE T 0 w) := by
  have hml := asc_len l 0 n ha (by omega)
  rw [Nat.zero_add, hx.len] at hml
  have hm64 : m ≤ 64 := by omega
  have HA := hide ha
  have HX := hide hx
  have hra := rk_aft n 0 l (by rw [Nat.zero_add]; exact ha)
  rw [Nat.zero_add, hT, hx.len] at hra
  have HC := hide (choI_nat n m)
  have HCB := hide (show cho n m < B9 ^ 100 from upB (cho_lt n m) (by omega))
  have HS0 := hide (show cho n m - 1 = T + aft n (l.drop 0) from by rw [List.drop_zero]; omega)
  have HP := hide (show 1 ≤ cho n m from by omega)
  have HAL : Hid (∀ i, T + aft n (l.drop i) ≤ T + aft n l) := by
    intro i
    induction i with
    | zero => rw [List.drop_zero]; exact Nat.le_refl _
    | succ i ih =>
      rcases Nat.lt_or_ge i l.length with h | h
      · rw [aft_step (List.getElem?_eq_getElem h)] at ih
        omega
      · rw [List.drop_of_length_le (by omega)]
        show T + 0 ≤ _
        omega
  have HTB := hide (show T + aft n l < B9 ^ 100 from by have := HCB.out; omega)
  clear hra ha hx hT
  go_enter Tryd.func26, Tryd.ntmps26
  go_wp2_with fail
  generalize hW : w.alloc _ = W
  obtain ⟨hbW, bR, -⟩ := boxesA1 hW
  clear hW
  refine (within_any n 64 _ true ⟨fun _ => rfl, fun _ => ⟨by omega, by omega⟩⟩).mono ?_
  rintro e w1 ⟨rfl, rfl⟩
  go_wp2_with fail
  refine (isSet_any n A m c _ _ (HX.out.below hbW).il hn (by unfold maxLen; omega) true (asc_setB n l 0 HA.out)).mono ?_
  rintro e w2 ⟨rfl, rfl⟩
  go_wp2_with fail
  refine (choose_any n m (by omega) _ _ HC.out).mono fun e w3 h => ?_
  obtain ⟨A3, n3, c3, rfl, h3, hb3⟩ := GivesN.cn h
  clear h
  have hbA := hbW.trans (hb3.mono hbW.size)
  have bR := bR.below' hb3
  clear hb3 hbW
  go_wp2_with fail
  refine (of_one _).mono fun e w4 h => ?_
  obtain ⟨A4, n4, c4, rfl, h4, hb4⟩ := GivesN.cn h
  clear h
  have hbA := hbA.trans (hb4.mono hbA.size)
  have bR := bR.below' hb4
  have h3 := h3.below hb4
  clear hb4
  go_wp2_with fail
  refine (sub_n (L := 100) (h3.nt HCB.out) ((h4.nt (L := 1) (by decide)).up (by omega)) (by omega) _ HS0.out HP.out).mono fun e w5 h => ?_
  obtain ⟨A5, n5, c5, rfl, h5, hb5⟩ := GivesNE.cn h
  clear h
  have hbA := hbA.trans (hb5.mono hbA.size)
  have bR := bR.below' hb5
  clear hb5 h3 h4
  go_wp2_with fail
  generalize hW : w5.alloc _ = W5
  obtain ⟨hb, b6, -⟩ := boxesA1 hW
  clear hW
  have HG := hide (show w.heap.size ≠ w5.heap.size ∧ w.heap.size ≤ w5.heap.size from by have := bR.lt; omega)
  have hbA := hbA.trans (hb.mono hbA.size)
  have bR := bR.below' hb
  have h5 := h5.below hb
  clear hb
  generalize w5.heap.size = g6 at *
  go_loopw [8, 9, 30] (fun _ _ v30 wr => ∃ i A6 n6 c6, i ≤ m ∧ v30 = .int .i64 ((i : Nat) : Int) ∧ Below w.heap.size w wr ∧ Box wr w.heap.size #[.slice none 0 0] 25 ∧ Box wr g6 #[.slice A6 n6 c6] 25 ∧ Cn wr A6 n6 c6 (T + aft n (l.drop i))) (fun _ _ v30 _ => m - (intOf v30).toNat)
  case atStart => exact ⟨0, _, _, _, by omega, rfl, hbA, bR, b6, h5⟩
  case round =>
    obtain ⟨i, A6, n6, c6, hi, rfl, hbA, bR, b6, h6⟩ := hrel
    by_cases hlt : i < m
    · obtain ⟨b, o, x, rfl, hx1, k9⟩ := (HX.out.below hbA).at_ hlt
      have hxn := (asc_mem l 0 n HA.out x (List.mem_of_getElem? hx1)).2
      obtain ⟨need, hneed⟩ : ∃ need, m - i = need := ⟨_, rfl⟩
      have hst := aft_step (n := n) hx1
      rw [HX.out.len, hneed] at hst
      have hmi : (m : Int) - (i : Int) = (need : Int) := by omega
      have hnb : need ≤ 64 := by omega
      have hw : IntKind.i64.wrap (need : Int) = (need : Int) := IntWalk.i64_in _ (by omega)
      have HQ := hide (show T + aft n (l.drop i) < B9 ^ 100 from Nat.lt_of_le_of_lt (HAL.out i) HTB.out)
      have HB := hide (show cho (n - 1 - x) need < B9 ^ 100 from upB (cho_lt _ _) (by omega))
      have HZ := hide (show T + aft n (l.drop i) - cho (n - 1 - x) need = T + aft n (l.drop (i + 1)) from by omega)
      have HL := hide (show cho (n - 1 - x) need ≤ T + aft n (l.drop i) from by omega)
      clear hst hneed hx1
      go_wp2_with fail
      clear k9
      have KF : Hid (∀ w', Below wr.heap.size wr w' → w'.cell? ⟨g6, 0, none⟩ = some (.slice A6 n6 c6) ∧ w'.frozen? ⟨g6, 0, none⟩ = false) := fun w' h => ⟨(b6.below' h).cell, (b6.below' h).frozen 0⟩
      have P0 : Below wr.heap.size wr wr.drew := (Below.refl _ _).drew
      obtain ⟨k0, -⟩ := KF.out _ P0
      go_region_law (first
        | (go_simp; go_at_call 51; (with_reducible refine (later_any n need x hn hxn _ _ rfl).mono ?_); rintro e w7 ⟨A7, n7, c7, rfl, r7, l7, m7, hb7⟩; have h7 : Cn w7 A7 n7 c7 (cho (n - 1 - x) need) := ⟨r7, l7, m7⟩; have E7 := P0.trans (hb7.mono P0.size); obtain ⟨x0, -⟩ := KF.out _ E7)
        | (go_simp; go_at_call 50; (with_reducible refine (sub_n (L := 100) ((h6.below E7).nt HQ.out) (h7.nt HB.out) (by omega) _ HZ.out HL.out).mono ?_); rintro e w8 ⟨A8, n8, c8, rfl, r8, l8, m8, hb8⟩; have h8 : Cn w8 A8 n8 c8 (T + aft n (l.drop (i + 1))) := ⟨r8, l8, m8⟩; have E8 := E7.trans (hb8.mono E7.size); obtain ⟨y0, e0⟩ := KF.out _ E8))
      all_goals
        have bR := bR.below' E8
        have b6 := b6.below' E8
        have hbA := hbA.trans (E8.mono hbA.size)
        have h8 := h8.far (i := 0) b6 noInt1 (.slice A8 n8 c8)
        have bR := bR.far (p := ⟨g6, 0, none⟩) HG.out.1 (.slice A8 n8 c8)
        have b6 := b6.put (.slice A8 n8 c8)
        have hbA : Below w.heap.size w (w8.setCell ⟨g6, 0, none⟩ (.slice A8 n8 c8)) := hbA.setCell HG.out.2 _
        clear E8 E7 P0 KF h6 h7 k0 x0 y0 e0 r7 l7 m7 r8 l8 m8 hb7 hb8
        generalize w8.setCell (⟨g6, 0, none⟩ : Addr) (.slice A8 n8 c8) = w9 at *
        go_wp2
        go_roundw
        case measure => simp [intOf]; omega
        case rel => exact ⟨i + 1, A8, n8, c8, by omega, by go_num, hbA, bR, b6, h8⟩
    · obtain rfl : i = m := by omega
      have e0 : aft n (l.drop i) = 0 := by rw [List.drop_of_length_le (by rw [HX.out.len]; exact Nat.le_refl _)]; rfl
      rw [e0, Nat.add_zero] at h6
      clear e0
      have k0 := b6.cell
      have g0 := bR.cell
      have f0 := bR.frozen 0
      have h3 := h6.far (i := 0) bR noInt1 (.slice A6 n6 c6)
      have b3 := bR.put (.slice A6 n6 c6)
      go_wp2_with fail
      have k1 := b3.cell
      refine bodyPost_ret (v := .tuple #[.agg #[.slice A6 n6 c6], .int .i64 0]) (by simp [results, Tryd.results26, go_sem, k1]) rfl ?_
      exact ⟨A6, n6, c6, rfl, h3.1, h3.2.1, h3.2.2, hbA.setCell (Nat.le_refl _) _⟩
end Go.Proofs.YtjmiaodjapclbaaDoor
