/- coinagebase.Ascending from 1 to 999. -/
import Derived.Test.YtdoknlodnpeeoaaDoorLExp
import Derived.IntWalk
namespace Go.Proofs.YtdoknlodnpeeoaaDoor
open Go Go.RowKit Go.Lib

theorem IL.drewN5 {w : World} {A : Option Addr} {n : Nat} {xs : List Int} (h : IL w A n xs) (m : Nat) : IL (w.drewN m) A n xs := h
theorem AscAt5.next {xs : List Int} {k : Nat} {x : Int} (h0 : ¬ x < 1) (hx : xs[k]? = some x) : AscAt5 xs (k + 1) (x + 1) := by
  refine ⟨by omega, fun e => by omega, fun f e => ?_⟩
  obtain rfl : f = k := by omega
  rw [Int.add_sub_cancel]
  exact hx
set_option maxHeartbeats 4000000 in
theorem asc5_any (A : Option Addr) (m c : Nat) (xs : List Int) (w : World) (hx : IL w A m xs) (hm : m ≤ maxLen) (r : Bool) (hr : setB 1000 1 xs = r) :
    Calls Tryd.prog 44 #[.slice A m c, .int .i64 1, .int .i64 999] w fun e w' => e = .returned (.bool r) ∧ Below w.heap.size w w' := by
  unfold maxLen at hm
  have HX := hide hx
  have HR := hide hr
  clear hx hr
  go_enter Tryd.func44, Tryd.ntmps44
  go_wp2_with fail
  go_loopw [7] (fun v7 wr => ∃ (k q : Nat) (y : Int), k ≤ m ∧ v7 = .int .i64 ((k : Nat) : Int) ∧ wr = w.drewN q ∧ AscAt5 xs k y ∧ Hid (setB 1000 y (xs.drop k) = r)) (fun v7 _ => m - (RowKit.intOf v7).toNat)
  case atStart => exact ⟨0, 0, 1, by omega, rfl, rfl, ⟨by omega, fun _ => rfl, fun f e => by omega⟩, hide (by rw [List.drop_zero]; exact HR.out)⟩
  case round =>
    obtain ⟨k, q, y, hk, rfl, rfl, ⟨y0, yz, yf⟩, HS⟩ := hrel
    have HB : Hid (Below w.heap.size w (w.drewN q)) := below_drewN (Below.refl _ _) q
    have HQ : Hid (∀ z, (w.drewN q).drewN z = w.drewN (q + z)) := fun z => World.drewN_drewN _ _ _
    by_cases hlt : k < m
    · obtain ⟨b, o, x, rfl, hx1, k0⟩ := (HX.out.drewN5 q).at_ hlt
      have HD := hide (show setB 1000 y (x :: xs.drop (k + 1)) = r from by rw [← drop_at5 hx1]; exact HS.out)
      have HX1 := hide hx1
      have i1 : (0 : Int) ≤ (k : Int) := by omega
      have i2 : (k : Int) < (m : Int) := by omega
      have HXX := hide (HX.out.drewN5 q)
      clear hx1 HS
      generalize w.drewN q = W at *
      by_cases h1 : x < 1
      · have d1 : decide (x < 1) = true := decide_eq_true h1
        obtain rfl : r = false := by rw [← HD.out]; unfold setB; rw [if_pos (by omega)]
        clear h1 yz yf
        go_wp2_with fail
        go_quiet (fail)
        go_wp2_with fail
        go_ret
        exact ⟨rfl, below_drewN HB.out _⟩
      · have d1 : decide (x < 1) = false := decide_eq_false h1
        by_cases h2 : (999 : Int) < x
        · have d2 : decide ((999 : Int) < x) = true := decide_eq_true h2
          obtain rfl : r = false := by
            rw [← HD.out]; unfold setB
            split
            · rfl
            · rw [if_pos (by omega)]
          clear h1 h2 yz yf
          go_wp2_with fail
          go_quiet (fail)
          go_wp2_with fail
          go_ret
          exact ⟨rfl, below_drewN HB.out _⟩
        · have d2 : decide ((999 : Int) < x) = false := decide_eq_false h2
          have hxn : ¬ (1000 : Int) ≤ x := by omega
          rcases Nat.eq_zero_or_pos k with hk0 | hk0
          · have hy0 := yz hk0
            subst hy0
            have dk : decide (0 < (k : Int)) = false := by simp; omega
            have nk : ¬ 0 < k := by omega
            have H3 := hide (show setB 1000 (x + 1) (xs.drop (k + 1)) = r from by
              rw [← HD.out]; conv => rhs; unfold setB
              rw [if_neg h1, if_neg hxn])
            have HA := hide (show AscAt5 xs (k + 1) (x + 1) from AscAt5.next h1 HX1.out)
            clear h1 h2 hxn yz yf HD hk0
            go_wp2_with fail
            go_quiet (fail)
            go_wp2_with fail
            go_roundw
            case rel => exact ⟨k + 1, _, x + 1, by omega, by go_num, HQ.out _, HA.out, H3⟩
            case measure => simp [RowKit.intOf]; omega
          · obtain ⟨f, hf⟩ : ∃ f, k = f + 1 := ⟨k - 1, by omega⟩
            have hp := yf f hf
            obtain ⟨b', o', p, e, hp1, k1⟩ := HXX.out.at_ (j := f) (by omega)
            injection e with e
            injection e with e1 e2
            subst e1
            subst e2
            rw [hp] at hp1
            injection hp1 with hp1
            have he : (k : Int) - 1 = (f : Int) := by omega
            have hw : IntKind.i64.wrap (f : Int) = (f : Int) := IntWalk.i64_in _ (by omega)
            have i3 : (0 : Int) ≤ (f : Int) := by omega
            have i4 : (f : Int) < (m : Int) := by omega
            have hkp : decide (0 < (k : Int)) = true := by simp; omega
            by_cases h3 : x ≤ p
            · have d3 : decide (x ≤ p) = true := decide_eq_true h3
              obtain rfl : r = false := by rw [← HD.out]; unfold setB; rw [if_pos (by omega)]
              clear h1 h2 h3 hxn hp1 hf hp yz yf
              go_wp2_with fail
              go_quiet (fail)
              go_wp2_with fail
              go_ret
              exact ⟨rfl, below_drewN HB.out _⟩
            · have d3 : decide (x ≤ p) = false := decide_eq_false h3
              have H3 := hide (show setB 1000 (x + 1) (xs.drop (k + 1)) = r from by
                rw [← HD.out]; conv => rhs; unfold setB
                rw [if_neg (by omega), if_neg hxn])
              have HA := hide (show AscAt5 xs (k + 1) (x + 1) from AscAt5.next h1 HX1.out)
              clear h1 h2 h3 hxn hp1 hf hp yz yf HD
              go_wp2_with fail
              go_quiet (fail)
              go_wp2_with fail
              go_roundw
              case rel => exact ⟨k + 1, _, x + 1, by omega, by go_num, HQ.out _, HA.out, H3⟩
              case measure => simp [RowKit.intOf]; omega
    · obtain rfl : k = m := by omega
      obtain rfl : r = true := by
        have := HS.out
        rw [List.drop_of_length_le (by rw [HX.out.len]; exact Nat.le_refl _)] at this
        exact this.symm
      clear yz yf
      go_wp2_with fail
      go_ret
      exact ⟨rfl, HB.out⟩
end Go.Proofs.YtdoknlodnpeeoaaDoor
