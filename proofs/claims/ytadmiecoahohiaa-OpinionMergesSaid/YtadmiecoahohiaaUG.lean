/- Finding a key, in the reference: at and find. -/
import Derived.Test.YtadmiecoahohiaaUF
namespace Go.Proofs.Ytadmiecoahohiaa
open Go Go.RowKit Go.Lib
theorem take_ne {α : Type} {κ : α → Int} {ys : List α} {j : Nat} {y : α} {k : Int} (h : ys[j]? = some y) (hn : ∀ e ∈ ys.take j, κ e ≠ k) (hk : κ y ≠ k) : ∀ e ∈ ys.take (j + 1), κ e ≠ k := by
  intro e he
  rw [take_next h] at he
  rcases List.mem_append.1 he with h1 | h1
  · exact hn e h1
  · rw [List.mem_singleton] at h1; rw [h1]; exact hk
set_option maxHeartbeats 4000000 in
theorem rat_any (A : Option Addr) (n c : Nat) (ys : List Ent) (k : Int) (w : World) (hr : SL eE w A n ys) (hn : n ≤ 1000) (s : Sd) (hs : at' ys k = s) :
    Calls Try.prog 49 #[.slice A n c, .int .i64 k] w fun e w' => e = .returned (.agg #[.int .i64 s.v, .bool s.i]) ∧ Gr w w' := by
  have HR := hide (hr.keep ((Below.refl _ _).alloc (Nat.le_refl _) (.cells #[.int .i64 0, .bool false] 53)))
  have HS := hide hs
  clear hr hs
  go_enter Try.func49, Try.ntmps49
  go_wp2_with fail
  generalize hW : w.alloc _ = W at *
  obtain ⟨B, hB⟩ : Gr w W ∧ Box W w.heap.size #[.int .i64 0, .bool false] 53 := by
    subst hW
    exact ⟨(by ((repeat (first | (with_reducible assumption) | (with_reducible exact Gr.refl _) | (with_reducible refine Gr.drew ?_) | (with_reducible refine Gr.alloc ?_ _) | (with_reducible refine Gr.trans ?_ (by assumption)))); (first | done | fail))), Box.new _ _ _⟩
  clear hW
  have HB := hide hB
  clear hB
  go_loopw [5] (fun i wr => ∃ j : Nat, i = .int .i64 (j : Int) ∧ j ≤ n ∧ Hid (∀ e ∈ ys.take j, e.k ≠ k) ∧ W = wr) (fun i _ => n - (RowKit.intOf i).toNat)
  case atStart => exact ⟨0, rfl, Nat.zero_le _, hide (fun e he => by cases he), rfl⟩
  case round =>
    obtain ⟨j, rfl, hj, HN, rfl⟩ := hrel
    by_cases hlt : j < n
    · obtain ⟨b, o, y, rfl, hl, hy, m0, m1⟩ := HR.out.atE hlt
      have HY := hide hy
      have d0 : decide ((j : Int) < (n : Int)) = true := decide_eq_true (by omega)
      have a1 : (0 : Int) ≤ (j : Int) := by omega
      have a2 : (j : Int) < (n : Int) := by omega
      clear hy
      by_cases hk : y.k = k
      · have e0 : (y.k == k) = true := beq_iff_eq.2 hk
        have e1 : at' ys k = ⟨y.v, true⟩ := by unfold at' hitE; rw [find_at HY.out hk HN.out]; rfl
        obtain rfl : s = ⟨y.v, true⟩ := by rw [← HS.out, e1]
        have hB := HB.out
        clear hk e1
        have k0 := hB.at_ 0
        have k1 := hB.at_ 1
        have f0 := hB.frozen 0
        have hB1 := hB.set_ 0 (.int .i64 y.v)
        have k2 := hB1.at_ 1
        have f1 := hB1.frozen 1
        have hB2 := hB1.set_ 1 (.bool true)
        have r0 := hB2.at_ 0
        have r1 := hB2.at_ 1
        simp only [List.getElem?_toArray, List.setIfInBounds_toArray, List.set_cons_zero, List.set_cons_succ, List.getElem?_cons_zero, List.getElem?_cons_succ] at k0 k1 k2 r0 r1
        clear hB hB1 hB2

        go_wp2_with fail
        exact bodyPost_ret (v := .agg #[.int .i64 (⟨y.v, true⟩ : Sd).v, .bool (⟨y.v, true⟩ : Sd).i]) (by simp [results, Try.results49, go_sem, r0, r1]) rfl ⟨rfl, (B.set _ _ (Nat.le_refl _)).set _ _ (Nat.le_refl _)⟩
      · have e0 : (y.k == k) = false := beq_eq_false_iff_ne.2 hk
        have HK := hide hk
        clear hk
        go_wp2_with fail
        go_roundw
        case rel => exact ⟨j + 1, by go_num, by omega, hide (take_ne HY.out HN.out HK.out), by first | rfl | trivial⟩
        case measure => simp [RowKit.intOf]; omega
    · obtain rfl : j = n := by omega
      have d0 : decide ((j : Int) < (j : Int)) = false := decide_eq_false (by omega)
      have h1 := HN.out
      rw [List.take_of_length_le (by rw [HR.out.1]; exact Nat.le_refl _)] at h1
      have e1 : at' ys k = ⟨0, false⟩ := at_out h1
      obtain rfl : s = ⟨0, false⟩ := by rw [← HS.out, e1]
      have hB := HB.out
      clear h1 e1
      have k0 := hB.at_ 0
      have k1 := hB.at_ 1
      have f0 := hB.frozen 0
      have hB1 := hB.set_ 0 (.int .i64 0)
      have k2 := hB1.at_ 1
      have f1 := hB1.frozen 1
      have hB2 := hB1.set_ 1 (.bool false)
      have r0 := hB2.at_ 0
      have r1 := hB2.at_ 1
      simp only [List.getElem?_toArray, List.setIfInBounds_toArray, List.set_cons_zero, List.set_cons_succ, List.getElem?_cons_zero, List.getElem?_cons_succ] at k0 k1 k2 r0 r1
      clear hB hB1 hB2

      go_wp2_with fail
      exact bodyPost_ret (v := .agg #[.int .i64 (⟨0, false⟩ : Sd).v, .bool (⟨0, false⟩ : Sd).i]) (by simp [results, Try.results49, go_sem, r0, r1]) rfl ⟨rfl, (B.set _ _ (Nat.le_refl _)).set _ _ (Nat.le_refl _)⟩
/-- where find says that a change is -/
def Fnd (ys : List Chg) (k : Int) (v : Int) : Prop := (v = -1 ∧ hitC ys k = none) ∨ ∃ (j : Nat) (y : Chg), v = (j : Int) ∧ ys[j]? = some y ∧ y.k = k ∧ hitC ys k = some y
set_option maxHeartbeats 4000000 in
theorem rfind_any (A : Option Addr) (n c : Nat) (ys : List Chg) (k : Int) (w : World) (hr : SL eC w A n ys) (hn : n ≤ 1000) :
    Calls Try.prog 53 #[.slice A n c, .int .i64 k] w fun e w' => ∃ v : Int, e = .returned (.int .i64 v) ∧ Fnd ys k v ∧ w = w' := by
  have HR := hide hr
  clear hr
  go_enter Try.func53, Try.ntmps53
  go_wp2_with fail
  go_loopw [5] (fun i wr => ∃ j : Nat, i = .int .i64 (j : Int) ∧ j ≤ n ∧ Hid (∀ e ∈ ys.take j, e.k ≠ k) ∧ w = wr) (fun i _ => n - (RowKit.intOf i).toNat)
  case atStart => exact ⟨0, rfl, Nat.zero_le _, hide (fun e he => by cases he), rfl⟩
  case round =>
    obtain ⟨j, rfl, hj, HN, rfl⟩ := hrel
    by_cases hlt : j < n
    · obtain ⟨b, o, y, rfl, hl, hy, m0, m1, m2, m3, m4⟩ := HR.out.atC hlt
      have HY := hide hy
      have d0 : decide ((j : Int) < (n : Int)) = true := decide_eq_true (by omega)
      have a1 : (0 : Int) ≤ (j : Int) := by omega
      have a2 : (j : Int) < (n : Int) := by omega
      clear hy
      by_cases hk : y.k = k
      · have e0 : (y.k == k) = true := beq_iff_eq.2 hk
        have HF := hide (show Fnd ys k (j : Int) from .inr ⟨j, y, rfl, HY.out, hk, find_at (κ := Chg.k) HY.out hk HN.out⟩)
        clear hk
        go_wp2_with fail
        go_ret
        exact ⟨(j : Int), rfl, HF.out, rfl⟩
      · have e0 : (y.k == k) = false := beq_eq_false_iff_ne.2 hk
        have HK := hide hk
        clear hk
        go_wp2_with fail
        go_roundw
        case rel => exact ⟨j + 1, by go_num, by omega, hide (take_ne HY.out HN.out HK.out), by first | rfl | trivial⟩
        case measure => simp [RowKit.intOf]; omega
    · obtain rfl : j = n := by omega
      have d0 : decide ((j : Int) < (j : Int)) = false := decide_eq_false (by omega)
      have h1 := HN.out
      rw [List.take_of_length_le (by rw [HR.out.1]; exact Nat.le_refl _)] at h1
      have HF := hide (show Fnd ys k (-1) from .inl ⟨rfl, hitC_none.2 h1⟩)
      clear h1
      go_wp2_with fail
      go_ret
      exact ⟨-1, rfl, HF.out, rfl⟩
end Go.Proofs.Ytadmiecoahohiaa
