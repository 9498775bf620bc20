/- The comparisons of the base: entries, changes and numbers. -/
import Derived.Test.YtadmiecoahohiaaUL
namespace Go.Proofs.Ytadmiecoahohiaa
open Go Go.RowKit Go.Lib

set_option maxHeartbeats 4000000 in
set_option maxRecDepth 100000 in
theorem baseE_any (A : Option Addr) (n c : Nat) (ys : List Ent) (A' : Option Addr) (m d : Nat) (zs : List Ent) (w : World) (hy : SL eE w A n ys) (hz : SL eE w A' m zs) (hn : n ≤ 1000) (hm : m ≤ 1000) (v : Bool) (hv : decide (ys = zs) = v) :
    Calls Try.prog 23 #[.slice A n c, .slice A' m d] w fun e w' => e = .returned (.bool v) ∧ Gr w w' := by
  have HY := hide hy
  have HZ := hide hz
  have HL := hide (And.intro hy.1 hz.1)
  have HV := hide hv
  by_cases hnm : n = m
  · subst hnm
    clear hy hz hv
    have d9 : decide ((n : Int) = (n : Int)) = true := decide_eq_true rfl
    go_enter Try.func23, Try.ntmps23
    go_wp2_with fail
    go_loopw [5] (fun i wr => ∃ k : Nat, i = .int .i64 (k : Int) ∧ k ≤ n ∧ Hid (ys.take k = zs.take k) ∧ Hid (Gr w wr)) (fun i _ => n - (RowKit.intOf i).toNat)
    case atStart => exact ⟨0, rfl, Nat.zero_le _, hide rfl, hide (Gr.refl _)⟩
    case round =>
      obtain ⟨k, rfl, hk, HT, HB⟩ := hrel
      by_cases hlt : k < n
      · obtain ⟨b, o, y, rfl, hl, hy, hcy⟩ := (HY.out.keep HB.out.below).atE hlt
        obtain ⟨b', o', z, rfl, hl', hz, hcz⟩ := (HZ.out.keep HB.out.below).atE hlt
        obtain ⟨k0, k1⟩ := hcy
        obtain ⟨m0, m1⟩ := hcz
        have d0 : decide ((k : Int) < (n : Int)) = true := decide_eq_true (by omega)
        have a1 : (0 : Int) ≤ (k : Int) := by omega
        have a2 : (k : Int) < (n : Int) := by omega
        have HYZ := hide (And.intro hy hz)
        clear hy hz
        by_cases he : y = z
        · have e0 := fun (w : World) => eqE_run y z w true (decide_eq_true he)
          have HE := hide he
          clear he
          go_wp2_with fail
          go_region
          all_goals
            go_wp2_with fail
            go_roundw
            case rel => exact ⟨k + 1, by go_num, by omega, hide (by rw [List.take_add_one, List.take_add_one, HT.out, HYZ.out.1, HYZ.out.2, HE.out]), hide (HB.out.trans (by ((repeat (first | (with_reducible assumption) | (with_reducible exact Gr.refl _) | (with_reducible refine Gr.drew ?_) | (with_reducible refine Gr.alloc ?_ _) | (with_reducible refine Gr.trans ?_ (by assumption)))); (first | done | fail))))⟩
            case measure => simp [RowKit.intOf]; omega
        · have e0 := fun (w : World) => eqE_run y z w false (decide_eq_false he)
          have HE := hide he
          clear he
          go_wp2_with fail
          go_region
          all_goals
            go_wp2_with fail
            go_ret
            have hf : v = false := by
              rw [← HV.out]
              refine decide_eq_false fun h => HE.out ?_
              have h1 := HYZ.out.1
              rw [h, HYZ.out.2] at h1
              injection h1 with h1
              exact h1.symm
            exact ⟨by rw [hf]; rfl, HB.out.trans (by ((repeat (first | (with_reducible assumption) | (with_reducible exact Gr.refl _) | (with_reducible refine Gr.drew ?_) | (with_reducible refine Gr.alloc ?_ _) | (with_reducible refine Gr.trans ?_ (by assumption)))); (first | done | fail)))⟩
      · obtain rfl : k = n := by omega
        have d0 : decide ((k : Int) < (k : Int)) = false := decide_eq_false (by omega)
        go_wp2_with fail
        go_ret
        have hf : v = true := by
          rw [← HV.out]
          have h1 := HT.out
          rw [List.take_of_length_le (by have := HL.out.1; omega), List.take_of_length_le (by have := HL.out.2; omega)] at h1
          exact decide_eq_true h1
        exact ⟨by rw [hf]; rfl, HB.out⟩
  · have d1 : decide ((n : Int) = (m : Int)) = false := decide_eq_false (by omega)
    have hi : ¬ ((n : Int) = (m : Int)) := by omega
    clear hy hz hv
    go_enter Try.func23, Try.ntmps23
    go_wp2_with fail
    go_ret
    have hf : v = false := by
      rw [← HV.out]
      refine decide_eq_false fun h => ?_
      have h1 := HL.out
      rw [h] at h1
      omega
    exact ⟨by rw [hf]; rfl, Gr.refl _⟩

set_option maxHeartbeats 4000000 in
set_option maxRecDepth 100000 in
theorem baseC_any (A : Option Addr) (n c : Nat) (ys : List Chg) (A' : Option Addr) (m d : Nat) (zs : List Chg) (w : World) (hy : SL eC w A n ys) (hz : SL eC w A' m zs) (hn : n ≤ 1000) (hm : m ≤ 1000) (v : Bool) (hv : decide (ys = zs) = v) :
    Calls Try.prog 20 #[.slice A n c, .slice A' m d] w fun e w' => e = .returned (.bool v) ∧ Gr w w' := by
  have HY := hide hy
  have HZ := hide hz
  have HL := hide (And.intro hy.1 hz.1)
  have HV := hide hv
  by_cases hnm : n = m
  · subst hnm
    clear hy hz hv
    have d9 : decide ((n : Int) = (n : Int)) = true := decide_eq_true rfl
    go_enter Try.func20, Try.ntmps20
    go_wp2_with fail
    go_loopw [5] (fun i wr => ∃ k : Nat, i = .int .i64 (k : Int) ∧ k ≤ n ∧ Hid (ys.take k = zs.take k) ∧ Hid (Gr w wr)) (fun i _ => n - (RowKit.intOf i).toNat)
    case atStart => exact ⟨0, rfl, Nat.zero_le _, hide rfl, hide (Gr.refl _)⟩
    case round =>
      obtain ⟨k, rfl, hk, HT, HB⟩ := hrel
      by_cases hlt : k < n
      · obtain ⟨b, o, y, rfl, hl, hy, hcy⟩ := (HY.out.keep HB.out.below).atC hlt
        obtain ⟨b', o', z, rfl, hl', hz, hcz⟩ := (HZ.out.keep HB.out.below).atC hlt
        obtain ⟨k0, k1, k2, k3, k4⟩ := hcy
        obtain ⟨m0, m1, m2, m3, m4⟩ := hcz
        have d0 : decide ((k : Int) < (n : Int)) = true := decide_eq_true (by omega)
        have a1 : (0 : Int) ≤ (k : Int) := by omega
        have a2 : (k : Int) < (n : Int) := by omega
        have HYZ := hide (And.intro hy hz)
        clear hy hz
        by_cases he : y = z
        · have e0 := fun (w : World) => eqC_run y z w true (decide_eq_true he)
          have HE := hide he
          clear he
          go_wp2_with fail
          go_region
          all_goals
            go_wp2_with fail
            go_roundw
            case rel => exact ⟨k + 1, by go_num, by omega, hide (by rw [List.take_add_one, List.take_add_one, HT.out, HYZ.out.1, HYZ.out.2, HE.out]), hide (HB.out.trans (by ((repeat (first | (with_reducible assumption) | (with_reducible exact Gr.refl _) | (with_reducible refine Gr.drew ?_) | (with_reducible refine Gr.alloc ?_ _) | (with_reducible refine Gr.trans ?_ (by assumption)))); (first | done | fail))))⟩
            case measure => simp [RowKit.intOf]; omega
        · have e0 := fun (w : World) => eqC_run y z w false (decide_eq_false he)
          have HE := hide he
          clear he
          go_wp2_with fail
          go_region
          all_goals
            go_wp2_with fail
            go_ret
            have hf : v = false := by
              rw [← HV.out]
              refine decide_eq_false fun h => HE.out ?_
              have h1 := HYZ.out.1
              rw [h, HYZ.out.2] at h1
              injection h1 with h1
              exact h1.symm
            exact ⟨by rw [hf]; rfl, HB.out.trans (by ((repeat (first | (with_reducible assumption) | (with_reducible exact Gr.refl _) | (with_reducible refine Gr.drew ?_) | (with_reducible refine Gr.alloc ?_ _) | (with_reducible refine Gr.trans ?_ (by assumption)))); (first | done | fail)))⟩
      · obtain rfl : k = n := by omega
        have d0 : decide ((k : Int) < (k : Int)) = false := decide_eq_false (by omega)
        go_wp2_with fail
        go_ret
        have hf : v = true := by
          rw [← HV.out]
          have h1 := HT.out
          rw [List.take_of_length_le (by have := HL.out.1; omega), List.take_of_length_le (by have := HL.out.2; omega)] at h1
          exact decide_eq_true h1
        exact ⟨by rw [hf]; rfl, HB.out⟩
  · have d1 : decide ((n : Int) = (m : Int)) = false := decide_eq_false (by omega)
    have hi : ¬ ((n : Int) = (m : Int)) := by omega
    clear hy hz hv
    go_enter Try.func20, Try.ntmps20
    go_wp2_with fail
    go_ret
    have hf : v = false := by
      rw [← HV.out]
      refine decide_eq_false fun h => ?_
      have h1 := HL.out
      rw [h] at h1
      omega
    exact ⟨by rw [hf]; rfl, Gr.refl _⟩

set_option maxHeartbeats 4000000 in
set_option maxRecDepth 100000 in
theorem baseI_any (A : Option Addr) (n c : Nat) (ys : List Int) (A' : Option Addr) (m d : Nat) (zs : List Int) (w : World) (hy : SL eI w A n ys) (hz : SL eI w A' m zs) (hn : n ≤ 1000) (hm : m ≤ 1000) (v : Bool) (hv : decide (ys = zs) = v) :
    Calls Try.prog 30 #[.slice A n c, .slice A' m d] w fun e w' => e = .returned (.bool v) ∧ Gr w w' := by
  have HY := hide hy
  have HZ := hide hz
  have HL := hide (And.intro hy.1 hz.1)
  have HV := hide hv
  by_cases hnm : n = m
  · subst hnm
    clear hy hz hv
    have d9 : decide ((n : Int) = (n : Int)) = true := decide_eq_true rfl
    go_enter Try.func30, Try.ntmps30
    go_wp2_with fail
    go_loopw [5] (fun i wr => ∃ k : Nat, i = .int .i64 (k : Int) ∧ k ≤ n ∧ Hid (ys.take k = zs.take k) ∧ Hid (Gr w wr)) (fun i _ => n - (RowKit.intOf i).toNat)
    case atStart => exact ⟨0, rfl, Nat.zero_le _, hide rfl, hide (Gr.refl _)⟩
    case round =>
      obtain ⟨k, rfl, hk, HT, HB⟩ := hrel
      by_cases hlt : k < n
      · obtain ⟨b, o, y, rfl, hl, hy, hcy⟩ := (HY.out.keep HB.out.below).atI hlt
        obtain ⟨b', o', z, rfl, hl', hz, hcz⟩ := (HZ.out.keep HB.out.below).atI hlt
        have k0 : wr.cell? ⟨b, o + k, none⟩ = some (.int .i64 y) := by rw [show o + k = o + k * 1 by omega]; exact hcy
        have m0 : wr.cell? ⟨b', o' + k, none⟩ = some (.int .i64 z) := by rw [show o' + k = o' + k * 1 by omega]; exact hcz
        have d0 : decide ((k : Int) < (n : Int)) = true := decide_eq_true (by omega)
        have a1 : (0 : Int) ≤ (k : Int) := by omega
        have a2 : (k : Int) < (n : Int) := by omega
        have HYZ := hide (And.intro hy hz)
        clear hy hz
        by_cases he : y = z
        · have e0 : (y == z) = true := beq_iff_eq.2 he; have e2 : (y != z) = false := by rw [bne, e0]; rfl
          have HE := hide he
          clear he
          go_wp2_with fail
          go_region
          all_goals
            go_wp2_with fail
            go_roundw
            case rel => exact ⟨k + 1, by go_num, by omega, hide (by rw [List.take_add_one, List.take_add_one, HT.out, HYZ.out.1, HYZ.out.2, HE.out]), hide (HB.out.trans (by ((repeat (first | (with_reducible assumption) | (with_reducible exact Gr.refl _) | (with_reducible refine Gr.drew ?_) | (with_reducible refine Gr.alloc ?_ _) | (with_reducible refine Gr.trans ?_ (by assumption)))); (first | done | fail))))⟩
            case measure => simp [RowKit.intOf]; omega
        · have e0 : (y == z) = false := beq_eq_false_iff_ne.2 he; have e2 : (y != z) = true := by rw [bne, e0]; rfl
          have HE := hide he
          clear he
          go_wp2_with fail
          go_region
          all_goals
            go_wp2_with fail
            go_ret
            have hf : v = false := by
              rw [← HV.out]
              refine decide_eq_false fun h => HE.out ?_
              have h1 := HYZ.out.1
              rw [h, HYZ.out.2] at h1
              injection h1 with h1
              exact h1.symm
            exact ⟨by rw [hf]; rfl, HB.out.trans (by ((repeat (first | (with_reducible assumption) | (with_reducible exact Gr.refl _) | (with_reducible refine Gr.drew ?_) | (with_reducible refine Gr.alloc ?_ _) | (with_reducible refine Gr.trans ?_ (by assumption)))); (first | done | fail)))⟩
      · obtain rfl : k = n := by omega
        have d0 : decide ((k : Int) < (k : Int)) = false := decide_eq_false (by omega)
        go_wp2_with fail
        go_ret
        have hf : v = true := by
          rw [← HV.out]
          have h1 := HT.out
          rw [List.take_of_length_le (by have := HL.out.1; omega), List.take_of_length_le (by have := HL.out.2; omega)] at h1
          exact decide_eq_true h1
        exact ⟨by rw [hf]; rfl, HB.out⟩
  · have d1 : decide ((n : Int) = (m : Int)) = false := decide_eq_false (by omega)
    have hi : ¬ ((n : Int) = (m : Int)) := by omega
    clear hy hz hv
    go_enter Try.func30, Try.ntmps30
    go_wp2_with fail
    go_ret
    have hf : v = false := by
      rw [← HV.out]
      refine decide_eq_false fun h => ?_
      have h1 := HL.out
      rw [h] at h1
      omega
    exact ⟨by rw [hf]; rfl, Gr.refl _⟩

set_option maxHeartbeats 1000000 in
theorem few_any (A : Option Addr) (n c : Nat) (w : World) (v : Bool) (hv : decide (n ≤ 100) = v) :
    Calls Try.prog 12 #[.slice A n c] w fun e w' => e = .returned (.bool v) ∧ w = w' := by
  have d : decide ((n : Int) ≤ 100) = v := by rw [← hv]; exact decide_eq_decide.2 (by omega)
  have HV := hide hv
  clear hv
  go_enter Try.func12, Try.ntmps12
  go_wp2_with fail
  go_ret
  exact ⟨rfl, rfl⟩

set_option maxHeartbeats 1000000 in
theorem some_any (A : Option Addr) (n c : Nat) (w : World) (v : Bool) (hv : decide (n ≤ 100) = v) :
    Calls Try.prog 13 #[.slice A n c] w fun e w' => e = .returned (.bool v) ∧ w = w' := by
  have d : decide ((n : Int) ≤ 100) = v := by rw [← hv]; exact decide_eq_decide.2 (by omega)
  have HV := hide hv
  clear hv
  go_enter Try.func13, Try.ntmps13
  go_wp2_with fail
  go_ret
  exact ⟨rfl, rfl⟩
end Go.Proofs.Ytadmiecoahohiaa
