/- The reference's Find. -/
import Derived.Test.YtaapcfflnklpjaaGreatDoorSJ
import Derived.Test.YtaapcfflnklpjaaGreatDoorSRa
namespace Go.Proofs.YtaapcfflnklpjaaGreatDoor
open Go Go.RowKit Go.Lib
theorem findS_first {ys : List Spc} {k : Int} {m : Nat} {y : Spc} (h : ys[m]? = some y) (hk : y.i = k) (hn : ∀ (j : Nat) (x : Spc), j < m → ys[j]? = some x → x.i ≠ k) : findS ys k = some y := by
  unfold findS
  rw [List.find?_eq_some_iff_getElem]
  obtain ⟨hm, rfl⟩ := List.getElem?_eq_some_iff.1 h
  exact ⟨by simpa using hk, m, hm, rfl, fun j hj => by simpa using hn j _ hj (List.getElem?_eq_getElem (by omega))⟩
theorem findS_no {ys : List Spc} {k : Int} (hn : ∀ (j : Nat) (x : Spc), ys[j]? = some x → x.i ≠ k) : findS ys k = none := by
  unfold findS
  rw [List.find?_eq_none]
  intro x hx
  obtain ⟨j, hj⟩ := List.getElem?_of_mem hx
  simpa using hn j x hj
set_option maxHeartbeats 4000000 in
set_option maxRecDepth 100000 in
theorem rfind_any (A : Option Addr) (n c : Nat) (ys : List Spc) (k : Int) (w : World) (hr : SL w A n ys) (hN : n ≤ 100000) (X : Spc) (ok : Bool) (hf : FR ys k X ok) :
    Calls Tryz.prog 24 #[.slice A n c, .int .i64 k] w fun e w' => e = .returned (.tuple #[.agg #[.int .i64 X.i, .int .i64 X.o, .int .i64 X.r, .int .i64 X.a, .int .i64 X.b, .int .i64 X.h, .int .i64 X.m], .bool ok]) ∧ Below w.heap.size w w' := by
  have HR := hide hr
  have HF := hide hf
  clear hr hf
  go_enter Tryz.func24, Tryz.ntmps24
  go_wp2_with fail
  generalize hW : w.alloc _ = W
  have HB := hide (show Below w.heap.size w W by rw [← hW]; exact (Below.refl _ _).alloc (Nat.le_refl _) _)
  have HX := hide (show Box W w.heap.size #[.int .i64 0, .int .i64 0, .int .i64 0, .int .i64 0, .int .i64 0, .int .i64 0, .int .i64 0] 23 by rw [← hW]; exact Box.new _ _ _)
  clear hW
  go_loopw [6] (fun a wr => ∃ m : Nat, a = .int .i64 (m : Int) ∧ m ≤ n ∧ Hid (∀ (j : Nat) (x : Spc), j < m → ys[j]? = some x → x.i ≠ k) ∧ Hid (W = wr)) (fun a _ => n - (RowKit.intOf a).toNat)
  case atStart => exact ⟨0, rfl, Nat.zero_le _, hide (fun j x h => absurd h (by omega)), hide rfl⟩
  case round =>
    obtain ⟨m, rfl, hm, HA, HW⟩ := hrel
    have hw := HW.out
    subst hw
    by_cases hlt : m < n
    · obtain ⟨b, o, y, rfl, hl, hy, k0, k1, k2, k3, k4, k5, k6⟩ := (HR.out.keep HB.out).at_ hlt
      have HY := hide hy
      have d1 : decide ((m : Int) < (n : Int)) = true := decide_eq_true (by omega)
      have i2 : (0 : Int) ≤ (m : Int) := by omega
      have i3 : (m : Int) < (n : Int) := by omega
      clear hy
      by_cases he : y.i = k
      · have e0 : (y.i == k) = true := beq_iff_eq.2 he
        have HFS := hide (findS_first HY.out he HA.out)
        obtain ⟨rfl, rfl⟩ : X = y ∧ ok = true := by
          rcases HF.out with ⟨h, _, _⟩ | ⟨h, h'⟩
          · rw [HFS.out] at h; cases h
          · rw [HFS.out] at h
            injection h with h
            exact ⟨h.symm, h'⟩
        have q2 := HX.out
        have y0 := q2.at_ 0
        have y1 := q2.at_ 1
        have y2 := q2.at_ 2
        have y3 := q2.at_ 3
        have y4 := q2.at_ 4
        have y5 := q2.at_ 5
        have y6 := q2.at_ 6
        have f0 := q2.frozen 0
        have f1 := q2.frozen 1
        have f2 := q2.frozen 2
        have f3 := q2.frozen 3
        have f4 := q2.frozen 4
        have f5 := q2.frozen 5
        have f6 := q2.frozen 6
        have l2 := q2.lt
        simp at y0 y1 y2 y3 y4 y5 y6
        clear he q2
        go_wp2_with fail
        refine bodyPost_ret (v := .tuple #[.agg #[.int .i64 X.i, .int .i64 X.o, .int .i64 X.r, .int .i64 X.a, .int .i64 X.b, .int .i64 X.h, .int .i64 X.m], .bool true]) (by simp [results, Tryz.results24, go_sem, *]) rfl ?_
        exact ⟨rfl, set7 HB.out (Nat.le_refl _) _ _ _ _ _ _ _⟩
      · have e0 : (y.i == k) = false := beq_eq_false_iff_ne.2 he
        have HE := hide he
        clear he
        go_wp2_with fail
        go_roundw
        case rel =>
          refine ⟨m + 1, by go_num, by omega, hide fun j x hj hx => ?_, by first | exact hide rfl | exact hide trivial⟩
          by_cases hjm : j < m
          · exact HA.out j x hjm hx
          · obtain rfl : j = m := by omega
            rw [HY.out] at hx
            injection hx with hx
            rw [← hx]
            exact HE.out
        case measure => simp [RowKit.intOf]; omega
    · obtain rfl : m = n := by omega
      have d1 : decide ((m : Int) < (m : Int)) = false := decide_eq_false (by omega)
      obtain ⟨rfl, rfl⟩ : X = Spc.zero ∧ ok = false := by
        have h2 := findS_no (ys := ys) (k := k) fun j x hx => HA.out j x (by have := (List.getElem?_eq_some_iff.1 hx).1; have := HR.out.1; omega) hx
        rcases HF.out with ⟨_, h, h'⟩ | ⟨h, _⟩
        · exact ⟨h, h'⟩
        · rw [h2] at h; cases h
      have q2 := HX.out
      have f0 := q2.frozen 0
      have f1 := q2.frozen 1
      have f2 := q2.frozen 2
      have f3 := q2.frozen 3
      have f4 := q2.frozen 4
      have f5 := q2.frozen 5
      have f6 := q2.frozen 6
      have l2 := q2.lt
      have y0 := q2.at_ 0
      have y1 := q2.at_ 1
      have y2 := q2.at_ 2
      have y3 := q2.at_ 3
      have y4 := q2.at_ 4
      have y5 := q2.at_ 5
      have y6 := q2.at_ 6
      simp at y0 y1 y2 y3 y4 y5 y6
      clear q2
      go_wp2_with fail
      refine bodyPost_ret (v := .tuple #[.agg #[.int .i64 0, .int .i64 0, .int .i64 0, .int .i64 0, .int .i64 0, .int .i64 0, .int .i64 0], .bool false]) (by simp [results, Tryz.results24, go_sem, *]) rfl ?_
      exact ⟨rfl, set7 HB.out (Nat.le_refl _) _ _ _ _ _ _ _⟩
end Go.Proofs.YtaapcfflnklpjaaGreatDoor
