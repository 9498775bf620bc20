/- Comparing lists: the reference's Specimens, Ints, Has. -/
import Derived.Test.YtaapcfflnklpjaaGreatDoorSU
import Derived.Deep.RegionHeld3
namespace Go.Proofs.YtaapcfflnklpjaaGreatDoor
open Go Go.RowKit Go.Lib
attribute [local go_sem] run_equalIn_agg run_equalIn_int
theorem diff_at {α : Type} {xs ys : List α} (hl : xs.length = ys.length) (h : ∀ (j : Nat) (x y : α), xs[j]? = some x → ys[j]? = some y → x = y) : xs = ys := by
  apply List.ext_getElem? 
  intro j
  by_cases hj : j < xs.length
  · rw [List.getElem?_eq_getElem hj, List.getElem?_eq_getElem (by omega)]
    exact congrArg some (h j _ _ (List.getElem?_eq_getElem hj) (List.getElem?_eq_getElem (by omega)))
  · rw [List.getElem?_eq_none (by omega), List.getElem?_eq_none (by omega)]
set_option maxHeartbeats 4000000 in
set_option maxRecDepth 100000 in
theorem sames_any (A : Option Addr) (n c : Nat) (xs : List Spc) (A' : Option Addr) (m d : Nat) (ys : List Spc) (w : World) (hx : SL w A n xs) (hy : SL w A' m ys) (hN : n ≤ 100000) (v : Bool) (hv : decide (xs = ys) = v) :
    Calls Tryz.prog 21 #[.slice A n c, .slice A' m d] w fun e w' => e = .returned (.bool v) ∧ Below w.heap.size w w' := by
  have HX := hide hx
  have HY := hide hy
  have HL := hide (And.intro hx.1 hy.1)
  clear hx hy
  by_cases hnm : n = m
  · subst hnm
    have HV := hide hv
    clear hv
    go_enter Tryz.func21, Tryz.ntmps21
    go_wp2_with fail
    go_loopw [5] (fun a wr => ∃ k : Nat, a = .int .i64 (k : Int) ∧ k ≤ n ∧ Hid (∀ (j : Nat) (x y : Spc), j < k → xs[j]? = some x → ys[j]? = some y → x = y) ∧ Hid (Below w.heap.size w wr)) (fun a _ => n - (RowKit.intOf a).toNat)
    case atStart => exact ⟨0, rfl, Nat.zero_le _, hide (fun j x y h => absurd h (by omega)), hide (Below.refl _ _)⟩
    case round =>
      obtain ⟨k, rfl, hk, HA, HB⟩ := hrel
      by_cases hlt : k < n
      · obtain ⟨b, o, x, rfl, hl, hxk, k0, k1, k2, k3, k4, k5, k6⟩ := (HX.out.keep HB.out).at_ hlt
        obtain ⟨b', o', y, rfl, hl', hyk, m0, m1, m2, m3, m4, m5, m6⟩ := (HY.out.keep HB.out).at_ hlt
        have HXK := hide hxk
        have HYK := hide hyk
        have d1 : decide ((k : Int) < (n : Int)) = true := decide_eq_true (by omega)
        have i2 : (0 : Int) ≤ (k : Int) := by omega
        have i3 : (k : Int) < (n : Int) := by omega
        clear hxk hyk
        by_cases he : x = y
        · have e0 := fun (w : World) => eqS_run x y w true (decide_eq_true he)
          have HE := hide he
          clear he
          go_wp2_with fail
          go_region
          all_goals
            go_wp2_with fail
            go_roundw
            case rel =>
              refine ⟨k + 1, by go_num, by omega, hide fun j x' y' hj hx' hy' => ?_, hide (by first | exact HB.out.drew | exact HB.out)⟩
              by_cases hjk : j < k
              · exact HA.out j x' y' hjk hx' hy'
              · obtain rfl : j = k := by omega
                rw [HXK.out] at hx'
                rw [HYK.out] at hy'
                injection hx' with hx'
                injection hy' with hy'
                rw [← hx', ← hy']
                exact HE.out
            case measure => simp [RowKit.intOf]; omega
        · have e0 := fun (w : World) => eqS_run x y w false (decide_eq_false he)
          have HE := hide he
          clear he
          go_wp2_with fail
          go_region
          all_goals
            go_wp2_with fail
            go_ret
            refine ⟨?_, by first | exact HB.out.drew | exact HB.out⟩
            rw [← HV.out, decide_eq_false fun e => HE.out (by have h1 := HXK.out; rw [e, HYK.out] at h1; injection h1 with h1; exact h1.symm)]
            rfl
      · obtain rfl : k = n := by omega
        have d1 : decide ((k : Int) < (k : Int)) = false := decide_eq_false (by omega)
        go_wp2_with fail
        go_ret
        refine ⟨?_, HB.out⟩
        rw [← HV.out, decide_eq_true (diff_at (by rw [HL.out.1, HL.out.2]) fun j x y hx hy => HA.out j x y (by have := (List.getElem?_eq_some_iff.1 hx).1; have := HL.out.1; omega) hx hy)]
        rfl
  · have e0 : ((n : Int) != (m : Int)) = true := by simp; omega
    have e1 : ¬ (n : Int) = (m : Int) := by omega
    have HV := hide (show v = false by rw [← hv]; exact decide_eq_false fun e => hnm (by rw [← HL.out.1, e, HL.out.2]))
    clear hv
    go_enter Tryz.func21, Tryz.ntmps21
    go_wp2_with fail
    go_ret
    exact ⟨by rw [HV.out]; rfl, Below.refl _ _⟩
set_option maxHeartbeats 4000000 in
theorem ints_any (A : Option Addr) (n c : Nat) (xs : List Int) (A' : Option Addr) (m d : Nat) (ys : List Int) (w : World) (hx : IS w A n xs) (hy : IS w A' m ys) (hN : n ≤ 100000) (v : Bool) (hv : decide (xs = ys) = v) :
    Calls Tryz.prog 27 #[.slice A n c, .slice A' m d] w fun e w' => e = .returned (.bool v) ∧ Below w.heap.size w w' := by
  have HX := hide hx
  have HY := hide hy
  have HL := hide (And.intro hx.1 hy.1)
  clear hx hy
  by_cases hnm : n = m
  · subst hnm
    have HV := hide hv
    clear hv
    go_enter Tryz.func27, Tryz.ntmps27
    go_wp2_with fail
    go_loopw [5] (fun a wr => ∃ k : Nat, a = .int .i64 (k : Int) ∧ k ≤ n ∧ Hid (∀ (j : Nat) (x y : Int), j < k → xs[j]? = some x → ys[j]? = some y → x = y) ∧ Hid (Below w.heap.size w wr)) (fun a _ => n - (RowKit.intOf a).toNat)
    case atStart => exact ⟨0, rfl, Nat.zero_le _, hide (fun j x y h => absurd h (by omega)), hide (Below.refl _ _)⟩
    case round =>
      obtain ⟨k, rfl, hk, HA, HB⟩ := hrel
      by_cases hlt : k < n
      · obtain ⟨b, o, x, rfl, hl, hxk, k0⟩ := (HX.out.keep HB.out).at_ hlt
        obtain ⟨b', o', y, rfl, hl', hyk, m0⟩ := (HY.out.keep HB.out).at_ hlt
        have HXK := hide hxk
        have HYK := hide hyk
        have d1 : decide ((k : Int) < (n : Int)) = true := decide_eq_true (by omega)
        have i2 : (0 : Int) ≤ (k : Int) := by omega
        have i3 : (k : Int) < (n : Int) := by omega
        clear hxk hyk
        by_cases he : x = y
        · have HE := hide he
          have e0 : (x != y) = false := by simp [he]
          clear he
          go_wp2_with fail
          go_region
          all_goals
            go_wp2_with fail
            go_roundw
            case rel =>
              refine ⟨k + 1, by go_num, by omega, hide fun j x' y' hj hx' hy' => ?_, hide (by first | exact HB.out.drew | exact HB.out)⟩
              by_cases hjk : j < k
              · exact HA.out j x' y' hjk hx' hy'
              · obtain rfl : j = k := by omega
                rw [HXK.out] at hx'
                rw [HYK.out] at hy'
                injection hx' with hx'
                injection hy' with hy'
                rw [← hx', ← hy']
                exact HE.out
            case measure => simp [RowKit.intOf]; omega
        · have HE := hide he
          have e0 : (x != y) = true := by simp [he]
          clear he
          go_wp2_with fail
          go_region
          all_goals
            go_wp2_with fail
            go_ret
            refine ⟨?_, by first | exact HB.out.drew | exact HB.out⟩
            rw [← HV.out, decide_eq_false fun e => HE.out (by have h1 := HXK.out; rw [e, HYK.out] at h1; injection h1 with h1; exact h1.symm)]
            rfl
      · obtain rfl : k = n := by omega
        have d1 : decide ((k : Int) < (k : Int)) = false := decide_eq_false (by omega)
        go_wp2_with fail
        go_ret
        refine ⟨?_, HB.out⟩
        rw [← HV.out, decide_eq_true (diff_at (by rw [HL.out.1, HL.out.2]) fun j x y hx hy => HA.out j x y (by have := (List.getElem?_eq_some_iff.1 hx).1; have := HL.out.1; omega) hx hy)]
        rfl
  · have e0 : ((n : Int) != (m : Int)) = true := by simp; omega
    have e1 : ¬ (n : Int) = (m : Int) := by omega
    have HV := hide (show v = false by rw [← hv]; exact decide_eq_false fun e => hnm (by rw [← HL.out.1, e, HL.out.2]))
    clear hv
    go_enter Tryz.func27, Tryz.ntmps27
    go_wp2_with fail
    go_ret
    exact ⟨by rw [HV.out]; rfl, Below.refl _ _⟩
set_option maxHeartbeats 4000000 in
theorem has9_any (A : Option Addr) (n c : Nat) (xs : List Int) (q : Int) (w : World) (hx : IS w A n xs) (hN : n ≤ 100000) (v : Bool) (hv : decide (q ∈ xs) = v) :
    Calls Tryz.prog 29 #[.slice A n c, .int .i64 q] w fun e w' => e = .returned (.bool v) ∧ Below w.heap.size w w' := by
  have HX := hide hx
  have HL := hide hx.1
  have HV := hide hv
  clear hx hv
  go_enter Tryz.func29, Tryz.ntmps29
  go_wp2_with fail
  go_loopw [5] (fun a wr => ∃ k : Nat, a = .int .i64 (k : Int) ∧ k ≤ n ∧ Hid (∀ (j : Nat) (x : Int), j < k → xs[j]? = some x → x ≠ q) ∧ Hid (Below w.heap.size w wr)) (fun a _ => n - (RowKit.intOf a).toNat)
  case atStart => exact ⟨0, rfl, Nat.zero_le _, hide (fun j x h => absurd h (by omega)), hide (Below.refl _ _)⟩
  case round =>
    obtain ⟨k, rfl, hk, HA, HB⟩ := hrel
    by_cases hlt : k < n
    · obtain ⟨b, o, x, rfl, hl, hxk, k0⟩ := (HX.out.keep HB.out).at_ hlt
      have HXK := hide hxk
      have d1 : decide ((k : Int) < (n : Int)) = true := decide_eq_true (by omega)
      have i2 : (0 : Int) ≤ (k : Int) := by omega
      have i3 : (k : Int) < (n : Int) := by omega
      clear hxk
      by_cases he : x = q
      · have HE := hide he
        have e0 : (x == q) = true := beq_iff_eq.2 he
        clear he
        go_wp2_with fail
        go_ret
        refine ⟨?_, by first | exact HB.out.drew | exact HB.out⟩
        rw [← HV.out, decide_eq_true (HE.out ▸ List.mem_of_getElem? HXK.out)]
        rfl
      · have HE := hide he
        have e0 : (x == q) = false := beq_eq_false_iff_ne.2 he
        clear he
        go_wp2_with fail
        go_roundw
        case rel =>
          refine ⟨k + 1, by go_num, by omega, hide fun j x' hj hx' => ?_, hide (by first | exact HB.out.drew | exact HB.out)⟩
          by_cases hjk : j < k
          · exact HA.out j x' hjk hx'
          · obtain rfl : j = k := by omega
            rw [HXK.out] at hx'
            injection hx' with hx'
            rw [← hx']
            exact HE.out
        case measure => simp [RowKit.intOf]; omega
    · obtain rfl : k = n := by omega
      have d1 : decide ((k : Int) < (k : Int)) = false := decide_eq_false (by omega)
      go_wp2_with fail
      go_ret
      refine ⟨?_, HB.out⟩
      rw [← HV.out, decide_eq_false fun hm => by
        obtain ⟨j, hj⟩ := List.getElem?_of_mem hm
        exact HA.out j q (by have := (List.getElem?_eq_some_iff.1 hj).1; have := HL.out; omega) hj rfl]
      rfl
end Go.Proofs.YtaapcfflnklpjaaGreatDoor
