/- The reference's Acyclic, Reaches, Order. -/
import Derived.Test.YtgmdfaamheblmaaPTab
import Derived.Test.YtgmdfaamheblmaaPAwk
namespace Go.Proofs.Ytgmdfaamheblmaa
open Go Go.RowKit PM

set_option maxHeartbeats 2000000 in
theorem racy_v (n : Int) (A : Option Addr) (m c : Nat) (l : List (Int × Int)) (w : World) (hx : YL w A m l) (hv : vB n l = false) :
    Calls Try.prog 16 #[.int .i64 n, .slice A m c] w fun e w' => e = .returned (.bool false) ∧ Below w.heap.size w w' := by
  have HX := hide hx
  have HV := hide hv
  clear hx hv
  go_enter Try.func16, Try.ntmps16
  go_wp2_with fail
  refine (rvalid_any n A m c l _ HX.out false HV.out).mono ?_
  rintro e w1 ⟨rfl, B⟩
  go_wp2_with fail
  go_ret
  exact ⟨rfl, B⟩
set_option maxHeartbeats 8000000 in
theorem racy_y (N : Nat) (A : Option Addr) (m c : Nat) (bs : List (Nat × Nat)) (w : World) (hx : YL w A m (bs.map zA)) (hd : Dig N bs) (r : Bool) (hr : Acy N (adj bs) ↔ r = true) :
    Calls Try.prog 16 #[.int .i64 (N : Int), .slice A m c] w fun e w' => e = .returned (.bool r) ∧ Below w.heap.size w w' := by
  have HX := hide hx
  have HV := hide (vB_of hd)
  have HD := hide hd
  have HR := hide hr
  have hn := hd.le
  clear hx hd hr
  go_enter Try.func16, Try.ntmps16
  go_wp2_with fail
  refine (rvalid_any N A m c _ _ HX.out true HV.out).mono ?_
  rintro e w1 ⟨rfl, B⟩
  go_wp2_with fail
  refine (table_any A m c N bs _ HD.out (HX.out.keep B)).mono ?_
  rintro e w2 ⟨rfl, hb⟩
  have B := B.trans (hb.mono B.size)
  clear hb
  obtain ⟨U, hU⟩ : ∃ U, war (adj bs) N = U := ⟨_, rfl⟩
  rw [hU]
  have HU := hide hU
  clear hU
  obtain ⟨hb5, o5⟩ := boxT1 (rfl : w2.alloc (.cells _ 49) = _) noR rfl
  have o5s := o5.setRow U
  have B5 := below_row (B.trans (hb5.mono B.size)) B.size (cT U)
  have hz := zeroT
  go_wp2_with (first | (refine wpList_store_row rfl 49 _ _ rfl (w2.heap.size) _ rfl rfl 49 _ o5.row (cT_info _) (by rw [cT_size, cT_size]) (cT_one _) ?_))
  clear hz
  generalize World.setRow _ _ _ = W5 at *
  generalize w2.heap.size = g5 at *
  go_loopw [6] (fun v6 wr => ∃ (i : Nat), i ≤ N ∧ v6 = .int .i64 ((i : Nat) : Int) ∧ Below w.heap.size w wr ∧ OT wr g5 U ∧ Hid (∀ a, a < i → U a a = false)) (fun v6 _ => N - (RowKit.intOf v6).toNat)
  case atStart => exact ⟨0, by omega, rfl, B5, o5s, hide fun a h => by omega⟩
  case round =>
    clear B5 o5s
    obtain ⟨i, hi, rfl, B, o5, HA⟩ := hrel
    by_cases hlt : i < N
    · have hi24 : i < 24 := by omega
      have hin : (i : Int) < (N : Int) := by omega
      have i1 : (0 : Int) ≤ (i : Int) := by omega
      have i2 : (i : Int) < 24 := by omega
      have y0 := o5.cell hi24 hi24
      obtain ⟨r1, h1⟩ : ∃ r, U i i = r := ⟨_, rfl⟩
      rw [h1] at y0
      have H1 := hide h1
      clear h1
      cases r1 with
      | true =>
        obtain rfl : r = false := by
          rcases r with _ | _
          · rfl
          · have := HR.out.2 rfl i hlt
            rw [HU.out, H1.out] at this; cases this
        go_wp2_with fail
        go_ret
        exact ⟨rfl, B⟩
      | false =>
        have HA2 := hide (show ∀ a, a < i + 1 → U a a = false from fun a h => by
          rcases Nat.lt_or_ge a i with h2 | h2
          · exact HA.out a h2
          · obtain rfl : a = i := by omega
            exact H1.out)
        clear HA
        go_wp2_with fail
        go_roundw
        case measure => simp [RowKit.intOf]; omega
        case rel => exact ⟨i + 1, by omega, by go_num, B, o5, HA2⟩
    · obtain rfl : i = N := by omega
      obtain rfl : r = true := HR.out.1 fun a h => by rw [HU.out]; exact HA.out a h
      have d2 : decide ((i : Int) < (i : Int)) = false := decide_eq_false (by omega)
      clear hlt
      go_wp2_with fail
      go_ret
      exact ⟨rfl, B⟩
theorem racyclic_any (n : Int) (A : Option Addr) (m c : Nat) (l : List (Int × Int)) (w : World) (hx : YL w A m l) (r : Bool) (hr : acB n l = r) :
    Calls Try.prog 16 #[.int .i64 n, .slice A m c] w fun e w' => e = .returned (.bool r) ∧ Below w.heap.size w w' := by
  unfold acB at hr
  rcases hv : vB n l with _ | _
  · rw [hv, Bool.false_and] at hr
    subst hr
    exact racy_v n A m c l w hx hv
  · rw [hv, Bool.true_and] at hr
    obtain ⟨N, bs, rfl, rfl, hd⟩ := vB_true hv
    rw [nA_zA, Int.toNat_natCast] at hr
    refine racy_y N A m c bs w hx hd r ?_
    rw [← hr, decide_eq_true_iff]
    exact (ord_acy hd.adj).symm
set_option maxHeartbeats 2000000 in
theorem rre_v (n : Int) (A : Option Addr) (m c : Nat) (l : List (Int × Int)) (i j : Int) (w : World) (hx : YL w A m l) (hv : vB n l = false) :
    Calls Try.prog 18 #[.int .i64 n, .slice A m c, .int .i64 i, .int .i64 j] w fun e w' => e = .returned (.bool false) ∧ Below w.heap.size w w' := by
  have HX := hide hx
  have HV := hide hv
  clear hx hv
  go_enter Try.func18, Try.ntmps18
  go_wp2_with fail
  refine (rvalid_any n A m c l _ HX.out false HV.out).mono ?_
  rintro e w1 ⟨rfl, B⟩
  go_wp2_with fail
  go_ret
  exact ⟨rfl, B⟩
set_option maxHeartbeats 2000000 in
theorem rre_a (n : Int) (A : Option Addr) (m c : Nat) (l : List (Int × Int)) (i j : Int) (w : World) (hx : YL w A m l) (hv : vB n l = true) (h1 : i < 0) :
    Calls Try.prog 18 #[.int .i64 n, .slice A m c, .int .i64 i, .int .i64 j] w fun e w' => e = .returned (.bool false) ∧ Below w.heap.size w w' := by
  have HX := hide hx
  have HV := hide hv
  have d1 : decide (i < 0) = true := decide_eq_true (by omega)
  clear hx hv
  go_enter Try.func18, Try.ntmps18
  go_wp2_with fail
  refine (rvalid_any n A m c l _ HX.out true HV.out).mono ?_
  rintro e w1 ⟨rfl, B⟩
  go_wp2_with fail
  go_ret
  exact ⟨rfl, B⟩
set_option maxHeartbeats 2000000 in
theorem rre_b (n : Int) (A : Option Addr) (m c : Nat) (l : List (Int × Int)) (i j : Int) (w : World) (hx : YL w A m l) (hv : vB n l = true) (h1 : ¬ i < 0) (h2 : n ≤ i) :
    Calls Try.prog 18 #[.int .i64 n, .slice A m c, .int .i64 i, .int .i64 j] w fun e w' => e = .returned (.bool false) ∧ Below w.heap.size w w' := by
  have HX := hide hx
  have HV := hide hv
  have d1 : decide (i < 0) = false := decide_eq_false (by omega)
  have d2 : decide (n ≤ i) = true := decide_eq_true (by omega)
  clear hx hv
  go_enter Try.func18, Try.ntmps18
  go_wp2_with fail
  refine (rvalid_any n A m c l _ HX.out true HV.out).mono ?_
  rintro e w1 ⟨rfl, B⟩
  go_wp2_with fail
  go_ret
  exact ⟨rfl, B⟩
set_option maxHeartbeats 2000000 in
theorem rre_c (n : Int) (A : Option Addr) (m c : Nat) (l : List (Int × Int)) (i j : Int) (w : World) (hx : YL w A m l) (hv : vB n l = true) (h1 : ¬ i < 0) (h2 : ¬ n ≤ i) (h3 : j < 0) :
    Calls Try.prog 18 #[.int .i64 n, .slice A m c, .int .i64 i, .int .i64 j] w fun e w' => e = .returned (.bool false) ∧ Below w.heap.size w w' := by
  have HX := hide hx
  have HV := hide hv
  have d1 : decide (i < 0) = false := decide_eq_false (by omega)
  have d2 : decide (n ≤ i) = false := decide_eq_false (by omega)
  have d3 : decide (j < 0) = true := decide_eq_true (by omega)
  clear hx hv
  go_enter Try.func18, Try.ntmps18
  go_wp2_with fail
  refine (rvalid_any n A m c l _ HX.out true HV.out).mono ?_
  rintro e w1 ⟨rfl, B⟩
  go_wp2_with fail
  go_ret
  exact ⟨rfl, B⟩
set_option maxHeartbeats 2000000 in
theorem rre_d (n : Int) (A : Option Addr) (m c : Nat) (l : List (Int × Int)) (i j : Int) (w : World) (hx : YL w A m l) (hv : vB n l = true) (h1 : ¬ i < 0) (h2 : ¬ n ≤ i) (h3 : ¬ j < 0) (h4 : n ≤ j) :
    Calls Try.prog 18 #[.int .i64 n, .slice A m c, .int .i64 i, .int .i64 j] w fun e w' => e = .returned (.bool false) ∧ Below w.heap.size w w' := by
  have HX := hide hx
  have HV := hide hv
  have d1 : decide (i < 0) = false := decide_eq_false (by omega)
  have d2 : decide (n ≤ i) = false := decide_eq_false (by omega)
  have d3 : decide (j < 0) = false := decide_eq_false (by omega)
  have d4 : decide (n ≤ j) = true := decide_eq_true (by omega)
  clear hx hv
  go_enter Try.func18, Try.ntmps18
  go_wp2_with fail
  refine (rvalid_any n A m c l _ HX.out true HV.out).mono ?_
  rintro e w1 ⟨rfl, B⟩
  go_wp2_with fail
  go_ret
  exact ⟨rfl, B⟩
set_option maxHeartbeats 4000000 in
theorem rre_y (N : Nat) (A : Option Addr) (m c : Nat) (bs : List (Nat × Nat)) (i j : Nat) (w : World) (hx : YL w A m (bs.map zA)) (hd : Dig N bs) (hi : i < N) (hj : j < N) (r : Bool) (hr : war (adj bs) N i j = r) :
    Calls Try.prog 18 #[.int .i64 (N : Int), .slice A m c, .int .i64 (i : Int), .int .i64 (j : Int)] w fun e w' => e = .returned (.bool r) ∧ Below w.heap.size w w' := by
  have HX := hide hx
  have HV := hide (vB_of hd)
  have HD := hide hd
  have HR := hide hr
  have hn := hd.le
  have hi24 : i < 24 := by omega
  have hj24 : j < 24 := by omega
  have d1 : decide ((i : Int) < 0) = false := decide_eq_false (by omega)
  have d2 : decide ((N : Int) ≤ (i : Int)) = false := decide_eq_false (by omega)
  have d3 : decide ((j : Int) < 0) = false := decide_eq_false (by omega)
  have d4 : decide ((N : Int) ≤ (j : Int)) = false := decide_eq_false (by omega)
  clear hx hd hr
  go_enter Try.func18, Try.ntmps18
  go_wp2_with fail
  refine (rvalid_any N A m c _ _ HX.out true HV.out).mono ?_
  rintro e w1 ⟨rfl, B⟩
  go_wp2_with fail
  refine (table_any A m c N bs _ HD.out (HX.out.keep B)).mono ?_
  rintro e w2 ⟨rfl, hb⟩
  have B := B.trans (hb.mono B.size)
  clear hb
  obtain ⟨U, hU⟩ : ∃ U, war (adj bs) N = U := ⟨_, rfl⟩
  rw [hU] at HR ⊢
  clear hU
  obtain ⟨hb5, o5⟩ := boxT1 (rfl : w2.alloc (.cells _ 49) = _) noR rfl
  have o5s := o5.setRow U
  have B5 := below_row (B.trans (hb5.mono B.size)) B.size (cT U)
  have hz := zeroT
  have y0 := o5s.cell hi24 hj24
  rw [HR.out] at y0
  have i1 : (0 : Int) ≤ (i : Int) := by omega
  have i2 : (i : Int) < 24 := by omega
  have j1 : (0 : Int) ≤ (j : Int) := by omega
  have j2 : (j : Int) < 24 := by omega
  go_wp2_with (first | (refine wpList_store_row rfl 49 _ _ rfl (w2.heap.size) _ rfl rfl 49 _ o5.row (cT_info _) (by rw [cT_size, cT_size]) (cT_one _) ?_))
  go_ret
  exact ⟨rfl, B5⟩
theorem rreaches_any (n : Int) (A : Option Addr) (m c : Nat) (l : List (Int × Int)) (i j : Int) (w : World) (hx : YL w A m l) (r : Bool) (hr : reB n l i j = r) :
    Calls Try.prog 18 #[.int .i64 n, .slice A m c, .int .i64 i, .int .i64 j] w fun e w' => e = .returned (.bool r) ∧ Below w.heap.size w w' := by
  unfold reB at hr
  rcases hv : vB n l with _ | _
  · rw [hv, Bool.false_and] at hr
    subst hr
    exact rre_v n A m c l i j w hx hv
  · rw [hv, Bool.true_and] at hr
    by_cases h1 : i < 0
    · rw [decide_eq_false (by omega), Bool.false_and] at hr
      subst hr
      exact rre_a n A m c l i j w hx hv h1
    · by_cases h2 : n ≤ i
      · rw [decide_eq_false (by omega), Bool.false_and] at hr
        subst hr
        exact rre_b n A m c l i j w hx hv h1 h2
      · rw [decide_eq_true (by omega), Bool.true_and] at hr
        by_cases h3 : j < 0
        · rw [decide_eq_false (by omega), Bool.false_and] at hr
          subst hr
          exact rre_c n A m c l i j w hx hv h1 h2 h3
        · by_cases h4 : n ≤ j
          · rw [decide_eq_false (by omega), Bool.false_and] at hr
            subst hr
            exact rre_d n A m c l i j w hx hv h1 h2 h3 h4
          · rw [decide_eq_true (by omega), Bool.true_and] at hr
            obtain ⟨N, bs, rfl, rfl, hd⟩ := vB_true hv
            rw [nA_zA, Int.toNat_natCast] at hr
            obtain ⟨i, rfl⟩ : ∃ a : Nat, i = (a : Int) := ⟨i.toNat, by omega⟩
            obtain ⟨j, rfl⟩ : ∃ a : Nat, j = (a : Int) := ⟨j.toNat, by omega⟩
            rw [Int.toNat_natCast, Int.toNat_natCast] at hr
            exact rre_y N A m c bs i j w hx hd (by omega) (by omega) r hr
/-- whether a list has a number -/
def hasF (xs : List Nat) (v : Nat) : Bool := dn xs v
theorem dn_cons (x : Nat) (xs : List Nat) (v : Nat) : dn (x :: xs) v = ((x == v) || dn xs v) := by
  unfold dn
  rw [List.contains_cons, Bool.eq_iff_iff, Bool.or_eq_true, Bool.or_eq_true, beq_iff_eq, beq_iff_eq]
  exact ⟨fun h => h.imp Eq.symm id, fun h => h.imp Eq.symm id⟩
theorem drop_atN {xs : List Nat} {j x : Nat} (h : xs[j]? = some x) : xs.drop j = x :: xs.drop (j + 1) := by
  obtain ⟨hj, e⟩ := List.getElem?_eq_some_iff.1 h
  rw [List.drop_eq_getElem_cons hj, e]
set_option maxHeartbeats 2000000 in
theorem hasL_any (A : Option Addr) (m c : Nat) (xs : List Nat) (v : Nat) (w : World) (hx : RL w .i64 A m xs) (hm : m ≤ 100000) (r : Bool) (hr : dn xs v = r) :
    Calls Try.prog 44 #[.slice A m c, .int .i64 (v : Int)] w fun e w' => e = .returned (.bool r) ∧ w = w' := by
  have HX := hide hx
  have HR := hide hr
  clear hx hr
  go_enter Try.func44, Try.ntmps44
  go_wp2_with fail
  go_loopw [5] (fun v5 wr => ∃ (k : Nat), k ≤ m ∧ v5 = .int .i64 ((k : Nat) : Int) ∧ w = wr ∧ Hid (dn (xs.drop k) v = r)) (fun v5 _ => m - (RowKit.intOf v5).toNat)
  case atStart => exact ⟨0, by omega, rfl, rfl, hide (by rw [List.drop_zero]; exact HR.out)⟩
  case round =>
    obtain ⟨k, hk, rfl, rfl, HS⟩ := hrel
    by_cases hlt : k < m
    · obtain ⟨b, o, x, rfl, hx1, k0⟩ := HX.out.at_ hlt
      have HD := hide (show ((x == v) || dn (xs.drop (k + 1)) v) = r from by rw [← dn_cons, ← drop_atN hx1]; exact HS.out)
      have i1 : (0 : Int) ≤ (k : Int) := by omega
      have i2 : (k : Int) < (m : Int) := by omega
      clear hx1 HS
      by_cases hv : x = v
      · have e0 : ((x : Int) == (v : Int)) = true := beq_iff_eq.2 (by omega)
        have e1 : (x == v) = true := beq_iff_eq.2 hv
        obtain rfl : r = true := by rw [← HD.out, e1]; rfl
        clear hv
        go_wp2_with fail
        go_ret
        exact ⟨rfl, rfl⟩
      · have e0 : ((x : Int) == (v : Int)) = false := beq_eq_false_iff_ne.2 (by omega)
        have e1 : (x == v) = false := beq_eq_false_iff_ne.2 hv
        have HN := hide (show dn (xs.drop (k + 1)) v = r from by rw [← HD.out, e1]; rfl)
        clear hv HD
        go_wp2_with fail
        go_roundw
        case measure => simp [RowKit.intOf]; omega
        case rel => exact ⟨k + 1, by omega, by go_num, (by first | rfl | trivial), HN⟩
    · obtain rfl : r = false := by
        rw [← HS.out, List.drop_of_length_le (by rw [HX.out.len]; omega)]; rfl
      have d4 : decide ((k : Int) < (m : Int)) = false := decide_eq_false (by omega)
      have d5 : decide (k < m) = false := decide_eq_false hlt
      clear HS
      go_wp2_with fail
      go_ret
      exact ⟨rfl, rfl⟩
end Go.Proofs.Ytgmdfaamheblmaa
