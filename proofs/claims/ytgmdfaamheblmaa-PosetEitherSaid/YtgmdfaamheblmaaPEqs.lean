/- Lists compared. -/
import Derived.Test.YtgmdfaamheblmaaPLev
namespace Go.Proofs.Ytgmdfaamheblmaa
open Go Go.RowKit PM

set_option maxHeartbeats 2000000 in
theorem ints_eq (A : Option Addr) (n c : Nat) (xs : List Nat) (B : Option Addr) (d : Nat) (w : World) (hx : RL w .i64 A n xs) (hy : RL w .i64 B n xs) (hn : n ≤ 100000) :
    Calls Try.prog 28 #[.slice A n c, .slice B n d] w fun e w' => e = .returned (.bool true) ∧ Below w.heap.size w w' := by
  have HX := hide hx
  have HY := hide hy
  clear hx hy
  go_enter Try.func28, Try.ntmps28
  go_wp2_with fail
  go_loopw [5] (fun t wr => ∃ k q : Nat, k ≤ n ∧ t = .int .i64 ((k : Nat) : Int) ∧ wr = w.drewN q) (fun t _ => n - (intOf t).toNat)
  case atStart => exact ⟨0, 0, Nat.zero_le _, rfl, rfl⟩
  case round =>
    obtain ⟨k, q, hk, rfl, rfl⟩ := hrel
    by_cases hlt : k < n
    · obtain ⟨b, o, x, rfl, h1, c1⟩ := (HX.out.drewN q).at_ hlt
      obtain ⟨b', o', y, rfl, h2, c2⟩ := (HY.out.drewN q).at_ hlt
      obtain rfl : x = y := by rw [h1] at h2; exact Option.some.inj h2
      have HB : Hid (Below w.heap.size w (w.drewN q)) := below_drewN (Below.refl _ _) q
      have HQ : Hid (∀ z, (w.drewN q).drewN z = w.drewN (q + z)) := fun z => World.drewN_drewN _ _ _
      have i1 : (0 : Int) ≤ (k : Int) := by omega
      have i2 : (k : Int) < (n : Int) := by omega
      clear h1 h2
      generalize w.drewN q = W at *
      go_wp2_with fail
      go_quiet (fail)
      go_wp2_with fail
      go_roundw
      case rel => exact ⟨k + 1, _, hlt, by go_num, HQ.out _⟩
      case measure => simp [intOf]; omega
    · obtain rfl : k = n := by omega
      go_wp2_with fail
      go_ret
      exact ⟨rfl, below_drewN (Below.refl _ _) q⟩
theorem list_ne_at {xs ys : List (Int × Int)} {k : Nat} {x y : Int × Int} (hx : xs[k]? = some x) (hy : ys[k]? = some y) (h : x ≠ y) : xs ≠ ys := by
  rintro rfl
  rw [hx] at hy
  exact h (Option.some.inj hy)
set_option maxHeartbeats 4000000 in
theorem arcs_len (A : Option Addr) (n c : Nat) (B : Option Addr) (m d : Nat) (w : World) (h : n ≠ m) :
    Calls Try.prog 19 #[.slice A n c, .slice B m d] w fun e w' => e = .returned (.bool false) ∧ Below w.heap.size w w' := by
  have e0 : ((n : Int) == (m : Int)) = false := beq_eq_false_iff_ne.2 (by omega)
  have e1 : (n == m) = false := beq_eq_false_iff_ne.2 h
  go_enter Try.func19, Try.ntmps19
  go_wp2_with fail
  go_ret
  exact ⟨rfl, Below.refl _ _⟩
set_option maxHeartbeats 4000000 in
theorem arcs_same (A : Option Addr) (n c : Nat) (xs : List (Int × Int)) (B : Option Addr) (d : Nat) (ys : List (Int × Int)) (w : World) (hx : YL w A n xs) (hy : YL w B n ys) (hn : n ≤ 100000) (r : Bool) (hr : decide (xs = ys) = r) :
    Calls Try.prog 19 #[.slice A n c, .slice B n d] w fun e w' => e = .returned (.bool r) ∧ Below w.heap.size w w' := by
  have HX := hide hx
  have HY := hide hy
  have HR := hide hr
  clear hx hy hr
  go_enter Try.func19, Try.ntmps19
  go_wp2_with fail
  go_loopw [5] (fun t wr => ∃ k q : Nat, k ≤ n ∧ t = .int .i64 ((k : Nat) : Int) ∧ wr = w.drewN q ∧ Hid (∀ j, j < k → xs[j]? = ys[j]?)) (fun t _ => n - (intOf t).toNat)
  case atStart => exact ⟨0, 0, Nat.zero_le _, rfl, rfl, hide fun j hj => by omega⟩
  case round =>
    obtain ⟨k, q, hk, rfl, rfl, HS⟩ := hrel
    have HB : Hid (Below w.heap.size w (w.drewN q)) := below_drewN (Below.refl _ _) q
    have HQ : Hid (∀ z, (w.drewN q).drewN z = w.drewN (q + z)) := fun z => World.drewN_drewN _ _ _
    by_cases hlt : k < n
    · obtain ⟨b, o, ⟨x1, x2⟩, rfl, -, h1, c1, c2⟩ := (HX.out.keep HB.out).at_ hlt
      obtain ⟨b', o', ⟨y1, y2⟩, rfl, -, h2, c3, c4⟩ := (HY.out.keep HB.out).at_ hlt
      simp only at c1 c2 c3 c4
      have i1 : (0 : Int) ≤ (k : Int) := by omega
      have i2 : (k : Int) < (n : Int) := by omega
      by_cases he : x1 = y1 ∧ x2 = y2
      · obtain ⟨rfl, rfl⟩ := he
        have HS2 := hide (show ∀ j, j < k + 1 → xs[j]? = ys[j]? from fun j hj => by
          rcases Nat.lt_or_ge j k with h | h
          · exact HS.out j h
          · obtain rfl : j = k := by omega
            rw [h1, h2])
        clear h1 h2
        generalize w.drewN q = W at *
        go_wp2_with fail
        go_quiet (fail)
        go_wp2_with fail
        go_roundw
        case rel => exact ⟨k + 1, _, hlt, by go_num, HQ.out _, HS2⟩
        case measure => simp [intOf]; omega
      · obtain rfl : r = false := by
          rw [← HR.out]
          exact decide_eq_false (list_ne_at h1 h2 fun e => he (by injection e with e1 e2; exact ⟨e1, e2⟩))
        clear h1 h2
        generalize w.drewN q = W at *
        by_cases he1 : x1 = y1
        · have e1 : (x1 == y1) = true := beq_iff_eq.2 he1
          have e2 : (x2 == y2) = false := beq_eq_false_iff_ne.2 fun h => he ⟨he1, h⟩
          clear he he1
          go_wp2_with fail
          go_quiet (fail)
          go_wp2_with fail
          go_ret
          exact ⟨rfl, below_drewN HB.out _⟩
        · have e1 : (x1 == y1) = false := beq_eq_false_iff_ne.2 he1
          clear he he1
          go_wp2_with fail
          go_quiet (fail)
          go_wp2_with fail
          go_ret
          exact ⟨rfl, below_drewN HB.out _⟩
    · obtain rfl : k = n := by omega
      obtain rfl : r = true := by
        rw [← HR.out]
        refine decide_eq_true (List.ext_getElem? fun j => ?_)
        rcases Nat.lt_or_ge j k with h | h
        · exact HS.out j h
        · rw [List.getElem?_eq_none (by rw [HX.out.1]; exact h), List.getElem?_eq_none (by rw [HY.out.1]; exact h)]
      go_wp2_with fail
      go_ret
      exact ⟨rfl, HB.out⟩
theorem arcs_any (A : Option Addr) (n c : Nat) (xs : List (Int × Int)) (B : Option Addr) (m d : Nat) (ys : List (Int × Int)) (w : World) (hx : YL w A n xs) (hy : YL w B m ys) (hn : n ≤ 100000) (r : Bool) (hr : decide (xs = ys) = r) :
    Calls Try.prog 19 #[.slice A n c, .slice B m d] w fun e w' => e = .returned (.bool r) ∧ Below w.heap.size w w' := by
  by_cases h : n = m
  · subst h
    exact arcs_same A n c xs B d ys w hx hy hn r hr
  · obtain rfl : r = false := by
      rw [← hr]
      refine decide_eq_false ?_
      rintro rfl
      exact h (hx.1.symm.trans hy.1)
    exact arcs_len A n c B m d w h
end Go.Proofs.Ytgmdfaamheblmaa
