/- Reaches. -/
import Derived.Test.YtgmdfaamheblmaaPRea
namespace Go.Proofs.Ytgmdfaamheblmaa
open Go Go.RowKit PM

theorem run_indexR (R : Nat → Nat → Bool) (i : Nat) (hi : i < 24) (w : World) : (Instr.index 54 (.agg (cR R)) (.int .i64 (i : Int))).run Try.prog w = .ok (.int .u32 (msk (R i) : Int)) w := by
  have h : (cR R)[i]? = some (.int .u32 (msk (R i) : Int)) := by
    unfold cR
    rw [List.getElem?_toArray, cells_getElem?, rowsR_at R hi]; rfl
  simp [Instr.index, go_sem, part, h]
  omega
/-- what Reaches says -/
def reB (n : Int) (l : List (Int × Int)) (i j : Int) : Bool := vB n l && (decide (0 ≤ i ∧ i < n) && (decide (0 ≤ j ∧ j < n) && war (adj (l.map nA)) n.toNat i.toNat j.toNat))
set_option maxHeartbeats 2000000 in
theorem re_v (n : Int) (A : Option Addr) (m c : Nat) (l : List (Int × Int)) (i j : Int) (w : World) (hx : YL w A m l) (hm : m ≤ maxLen) (hv : vB n l = false) :
    Calls Try.prog 17 #[.int .i64 n, .slice A m c, .int .i64 i, .int .i64 j] w fun e w' => e = .returned (.bool false) ∧ Below w.heap.size w w' := by
  have HX := hide hx
  have HM := hide hm
  have HV := hide hv
  clear hv
  clear hx hm
  go_enter Try.func17, Try.ntmps17
  go_wp2_with fail
  refine (valid_any n A m c l _ HX.out HM.out false HV.out).mono ?_
  rintro e w1 ⟨rfl, B⟩
  go_wp2_with fail
  go_ret
  exact ⟨rfl, B⟩
set_option maxHeartbeats 2000000 in
theorem re_i (n : Int) (A : Option Addr) (m c : Nat) (l : List (Int × Int)) (i j : Int) (w : World) (hx : YL w A m l) (hm : m ≤ maxLen) (hv : vB n l = true) (hi : ¬(0 ≤ i ∧ i < n)) :
    Calls Try.prog 17 #[.int .i64 n, .slice A m c, .int .i64 i, .int .i64 j] w fun e w' => e = .returned (.bool false) ∧ Below w.heap.size w w' := by
  have HX := hide hx
  have HM := hide hm
  have HV := hide hv
  clear hv
  have HI := hide (show decide (0 ≤ i ∧ i < n) = false from decide_eq_false hi)
  clear hi
  clear hx hm
  go_enter Try.func17, Try.ntmps17
  go_wp2_with fail
  refine (valid_any n A m c l _ HX.out HM.out true HV.out).mono ?_
  rintro e w1 ⟨rfl, B⟩
  go_wp2_with fail
  refine (isv_any n i _ false HI.out).mono ?_
  rintro e w1 ⟨rfl, rfl⟩
  go_wp2_with fail
  go_ret
  exact ⟨rfl, B⟩
set_option maxHeartbeats 2000000 in
theorem re_j (n : Int) (A : Option Addr) (m c : Nat) (l : List (Int × Int)) (i j : Int) (w : World) (hx : YL w A m l) (hm : m ≤ maxLen) (hv : vB n l = true) (hi : 0 ≤ i ∧ i < n) (hj : ¬(0 ≤ j ∧ j < n)) :
    Calls Try.prog 17 #[.int .i64 n, .slice A m c, .int .i64 i, .int .i64 j] w fun e w' => e = .returned (.bool false) ∧ Below w.heap.size w w' := by
  have HX := hide hx
  have HM := hide hm
  have HV := hide hv
  clear hv
  have HI := hide (show decide (0 ≤ i ∧ i < n) = true from decide_eq_true hi)
  clear hi
  have HJ := hide (show decide (0 ≤ j ∧ j < n) = false from decide_eq_false hj)
  clear hj
  clear hx hm
  go_enter Try.func17, Try.ntmps17
  go_wp2_with fail
  refine (valid_any n A m c l _ HX.out HM.out true HV.out).mono ?_
  rintro e w1 ⟨rfl, B⟩
  go_wp2_with fail
  refine (isv_any n i _ true HI.out).mono ?_
  rintro e w1 ⟨rfl, rfl⟩
  go_wp2_with fail
  refine (isv_any n j _ false HJ.out).mono ?_
  rintro e w1 ⟨rfl, rfl⟩
  go_wp2_with fail
  go_ret
  exact ⟨rfl, B⟩
set_option maxHeartbeats 2000000 in
theorem re_y (N : Nat) (A : Option Addr) (m c : Nat) (bs : List (Nat × Nat)) (i j : Nat) (w : World) (hx : YL w A m (bs.map zA)) (hd : Dig N bs) (hi : i < N) (hj : j < N) (r : Bool) (hr : war (adj bs) N i j = r) :
    Calls Try.prog 17 #[.int .i64 (N : Int), .slice A m c, .int .i64 (i : Int), .int .i64 (j : Int)] w fun e w' => e = .returned (.bool r) ∧ Below w.heap.size w w' := by
  have HM := hide (show m ≤ maxLen from by have := hd.len576; have := hx.1; simp at this; unfold maxLen; omega)
  have HX := hide hx
  have HD := hide hd
  have HV := hide (vB_of hd)
  have HI := hide (show decide (0 ≤ (i : Int) ∧ (i : Int) < (N : Int)) = true from decide_eq_true (by omega))
  have HJ := hide (show decide (0 ≤ (j : Int) ∧ (j : Int) < (N : Int)) = true from decide_eq_true (by omega))
  have HR := hide hr
  have hn := hd.le
  have hi24 : i < 24 := by omega
  have hj24 : j < 24 := by omega
  have HX1 := fun W => run_indexR (war (adj bs) N) i hi24 W
  clear hx hd hr
  go_enter Try.func17, Try.ntmps17
  go_wp2_with fail
  refine (valid_any N A m c _ _ HX.out HM.out true HV.out).mono ?_
  rintro e w1 ⟨rfl, B⟩
  go_wp2_with fail
  refine (isv_any N i _ true HI.out).mono ?_
  rintro e w2 ⟨rfl, rfl⟩
  go_wp2_with fail
  refine (isv_any N j _ true HJ.out).mono ?_
  rintro e w2 ⟨rfl, rfl⟩
  go_wp2_with fail
  refine (reached_any A m c N bs _ HD.out (HX.out.keep B)).mono ?_
  rintro e w2 ⟨rfl, hb⟩
  have B := B.trans (hb.mono B.size)
  go_wp2_with fail
  refine (has_any _ j hj24 _ r HR.out).mono ?_
  rintro e w3 ⟨rfl, rfl⟩
  go_wp2_with fail
  go_ret
  exact ⟨rfl, B⟩
theorem nA_zA (bs : List (Nat × Nat)) : (bs.map zA).map nA = bs := by
  rw [List.map_map]
  have : (nA ∘ zA) = id := by funext ⟨a, b⟩; rfl
  rw [this, List.map_id]
theorem reaches_any (n : Int) (A : Option Addr) (m c : Nat) (l : List (Int × Int)) (i j : Int) (w : World) (hx : YL w A m l) (hm : m ≤ maxLen) (r : Bool) (hr : reB n l i j = r) :
    Calls Try.prog 17 #[.int .i64 n, .slice A m c, .int .i64 i, .int .i64 j] w fun e w' => e = .returned (.bool r) ∧ Below w.heap.size w w' := by
  unfold reB at hr
  rcases hv : vB n l with _ | _
  · rw [hv, Bool.false_and] at hr
    subst hr
    exact re_v n A m c l i j w hx hm hv
  · rw [hv, Bool.true_and] at hr
    by_cases hi : 0 ≤ i ∧ i < n
    · rw [decide_eq_true hi, Bool.true_and] at hr
      by_cases hj : 0 ≤ j ∧ j < n
      · rw [decide_eq_true hj, Bool.true_and] at hr
        obtain ⟨N, bs, rfl, rfl, hd⟩ := vB_true hv
        rw [nA_zA, Int.toNat_natCast] at hr
        obtain ⟨i, rfl⟩ : ∃ a : Nat, i = (a : Int) := ⟨i.toNat, by omega⟩
        obtain ⟨j, rfl⟩ : ∃ a : Nat, j = (a : Int) := ⟨j.toNat, by omega⟩
        rw [Int.toNat_natCast, Int.toNat_natCast] at hr
        exact re_y N A m c bs i j w hx hd (by omega) (by omega) r hr
      · rw [decide_eq_false hj, Bool.false_and] at hr
        subst hr
        exact re_j n A m c l i j w hx hm hv hi hj
    · rw [decide_eq_false hi, Bool.false_and] at hr
      subst hr
      exact re_i n A m c l i j w hx hm hv hi
theorem reB_trans {n : Int} {l : List (Int × Int)} {i j k : Int} (h1 : reB n l i j = true) (h2 : reB n l j k = true) : reB n l i k = true := by
  unfold reB at *
  simp only [Bool.and_eq_true, decide_eq_true_eq] at *
  obtain ⟨hv, hi, hj, w1⟩ := h1
  obtain ⟨_, _, hk, w2⟩ := h2
  obtain ⟨N, bs, rfl, rfl, hd⟩ := vB_true hv
  rw [nA_zA, Int.toNat_natCast] at *
  exact ⟨hv, hi, hk, war_tr hd.adj w1 w2⟩
end Go.Proofs.Ytgmdfaamheblmaa
