/- The reference's at, to the world. -/
import Derived.Test.YtadmiecoahohiaaUZ
namespace Go.Proofs.Ytadmiecoahohiaa
open Go Go.RowKit Go.Lib
theorem set_new (w : World) (v : Int) (i : Bool) : ((w.alloc (.cells #[.int .i64 0, .bool false] 53)).setCell ⟨w.heap.size, 0, none⟩ (.int .i64 v)).setCell ⟨w.heap.size, 1, none⟩ (.bool i) = w.alloc (.cells #[.int .i64 v, .bool i] 53) := by
  rw [World.setCell_alloc_new, World.setCell_alloc_new]
  rfl
set_option maxHeartbeats 4000000 in
theorem rat_ex (A : Option Addr) (n c : Nat) (ys : List Ent) (k : Int) (w : World) (hr : SL eE w A n ys) (hn : n ≤ 1000) (s : Sd) (hs : at' ys k = s) :
    Calls Try.prog 49 #[.slice A n c, .int .i64 k] w fun e w' => e = .returned (.agg #[.int .i64 s.v, .bool s.i]) ∧ w' = w.alloc (.cells #[.int .i64 s.v, .bool s.i] 53) := by
  have HR := hide (hr.keep ((Below.refl _ _).alloc (Nat.le_refl _) (.cells #[.int .i64 0, .bool false] 53)))
  have HS := hide hs
  clear hr hs
  go_enter Try.func49, Try.ntmps49
  go_wp2_with fail
  generalize hW : w.alloc _ = W at *
  obtain ⟨B, hB⟩ : (∀ v i, (W.setCell ⟨w.heap.size, 0, none⟩ (.int .i64 v)).setCell ⟨w.heap.size, 1, none⟩ (.bool i) = w.alloc (.cells #[.int .i64 v, .bool i] 53)) ∧ Box W w.heap.size #[.int .i64 0, .bool false] 53 := by
    subst hW
    exact ⟨fun v i => set_new w v i, Box.new _ _ _⟩
  clear hW
  have HEX := hide B
  clear B
  have HB := hide hB
  clear hB
  go_loopw [5] (fun i wr => ∃ j : Nat, i = .int .i64 (j : Int) ∧ j ≤ n ∧ Hid (∀ e ∈ ys.take j, e.k ≠ k) ∧ W = wr) (fun i _ => n - (RowKit.intOf i).toNat)
  case atStart => exact ⟨0, rfl, Nat.zero_le _, hide (fun e he => by cases he), rfl⟩
  case round =>
    obtain ⟨j, rfl, hj, HN, rfl⟩ := hrel
    by_cases hlt : j < n
    · obtain ⟨b, o, y, rfl, hl, hy, m0, m1⟩ := HR.out.atE hlt
      have HY := hide hy
      have d0 : decide ((j : Int) < (n : Int)) = true := decide_eq_true (by omega)
      have a1 : (0 : Int) ≤ (j : Int) := by omega
      have a2 : (j : Int) < (n : Int) := by omega
      clear hy
      by_cases hk : y.k = k
      · have e0 : (y.k == k) = true := beq_iff_eq.2 hk
        have e1 : at' ys k = ⟨y.v, true⟩ := by unfold at' hitE; rw [find_at HY.out hk HN.out]; rfl
        obtain rfl : s = ⟨y.v, true⟩ := by rw [← HS.out, e1]
        have hB := HB.out
        clear hk e1
        have k0 := hB.at_ 0
        have k1 := hB.at_ 1
        have f0 := hB.frozen 0
        have hB1 := hB.set_ 0 (.int .i64 y.v)
        have k2 := hB1.at_ 1
        have f1 := hB1.frozen 1
        have hB2 := hB1.set_ 1 (.bool true)
        have r0 := hB2.at_ 0
        have r1 := hB2.at_ 1
        simp only [List.getElem?_toArray, List.setIfInBounds_toArray, List.set_cons_zero, List.set_cons_succ, List.getElem?_cons_zero, List.getElem?_cons_succ] at k0 k1 k2 r0 r1
        clear hB hB1 hB2

        go_wp2_with fail
        exact bodyPost_ret (v := .agg #[.int .i64 (⟨y.v, true⟩ : Sd).v, .bool (⟨y.v, true⟩ : Sd).i]) (by simp [results, Try.results49, go_sem, r0, r1]) rfl ⟨rfl, HEX.out _ _⟩
      · have e0 : (y.k == k) = false := beq_eq_false_iff_ne.2 hk
        have HK := hide hk
        clear hk
        go_wp2_with fail
        go_roundw
        case rel => exact ⟨j + 1, by go_num, by omega, hide (take_ne HY.out HN.out HK.out), by first | rfl | trivial⟩
        case measure => simp [RowKit.intOf]; omega
    · obtain rfl : j = n := by omega
      have d0 : decide ((j : Int) < (j : Int)) = false := decide_eq_false (by omega)
      have h1 := HN.out
      rw [List.take_of_length_le (by rw [HR.out.1]; exact Nat.le_refl _)] at h1
      have e1 : at' ys k = ⟨0, false⟩ := at_out h1
      obtain rfl : s = ⟨0, false⟩ := by rw [← HS.out, e1]
      have hB := HB.out
      clear h1 e1
      have k0 := hB.at_ 0
      have k1 := hB.at_ 1
      have f0 := hB.frozen 0
      have hB1 := hB.set_ 0 (.int .i64 0)
      have k2 := hB1.at_ 1
      have f1 := hB1.frozen 1
      have hB2 := hB1.set_ 1 (.bool false)
      have r0 := hB2.at_ 0
      have r1 := hB2.at_ 1
      simp only [List.getElem?_toArray, List.setIfInBounds_toArray, List.set_cons_zero, List.set_cons_succ, List.getElem?_cons_zero, List.getElem?_cons_succ] at k0 k1 k2 r0 r1
      clear hB hB1 hB2

      go_wp2_with fail
      exact bodyPost_ret (v := .agg #[.int .i64 (⟨0, false⟩ : Sd).v, .bool (⟨0, false⟩ : Sd).i]) (by simp [results, Try.results49, go_sem, r0, r1]) rfl ⟨rfl, HEX.out _ _⟩
end Go.Proofs.Ytadmiecoahohiaa
