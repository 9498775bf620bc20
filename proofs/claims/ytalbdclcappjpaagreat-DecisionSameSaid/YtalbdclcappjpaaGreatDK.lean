/- slices.Clone, slices.Equal; the comparisons of the base. -/
import Derived.Test.YtalbdclcappjpaaGreatDI
import Derived.Laws.StructEq
import Derived.Lib.SliceRun
namespace Go.Proofs.YtalbdclcappjpaaGreat
open Go Go.RowKit Go.Lib

attribute [local go_sem] run_equalIn_agg run_equalIn_int
theorem eqM_run (x y : Mk) (w : World) (v : Bool) (hv : decide (x = y) = v) : (Op.equalIn 10000 46 (.agg #[.int .i64 x.u, .int .i64 x.n]) (.agg #[.int .i64 y.u, .int .i64 y.n])).run Tryz.prog w = .ok v w := by
  have u3 := Tryz.underlying3
  have a3 := Tryz.isAgg3
  have z3 := Tryz.sizeOf3
  have hS : Tryz.prog.underlying 46 = some (.struct (Tryz.prog.fieldsOf 46)) := by kernel_rfl
  have hp : Tryz.prog.stoodInHeld 46 = false := by kernel_rfl
  rw [show (10000 : Nat) = 9999 + 1 from rfl, run_equalIn_agg w 9999 46 _ _ hS hp]
  simp only [Program.fieldsOf, Tryz.underlying46]
  go_simp
  subst hv
  by_cases h : x = y
  · subst h
    simp
  · rw [decide_eq_false h]
    have hne : ¬(x.u = y.u ∧ x.n = y.n) := fun e => h (by
      cases x
      cases y
      simp only at e
      obtain ⟨rfl, rfl⟩ := e
      rfl)
    repeat' split
    all_goals first | rfl | exact absurd ⟨by assumption, by assumption⟩ hne
set_option maxHeartbeats 1000000 in
set_option maxRecDepth 100000 in
theorem cloneM_any (A : Option Addr) (n c : Nat) (ys : List Mk) (w : World) (hr : SL eM w A n ys) (hn : n ≤ 1000) :
    Calls Tryz.prog 40 #[.slice A n c] w fun e w' => ∃ A' c', e = .returned (.slice A' n c') ∧ Ow eM w' w.heap.size A' n c' ys ∧ Below w.heap.size w w' := by
  have q := fun (w : World) (a : Option Addr) (n c n' c' : Nat) => Lib.run_eql_slice_nil (P := Tryz.prog) w _ _ a n c n' c' Tryz.underlying40
  cases A with
  | none =>
    obtain rfl : n = 0 := by
      rcases Nat.eq_zero_or_pos n with h | h
      · exact h
      · obtain ⟨b, o, e, _⟩ := hr.base h; cases e
    obtain rfl := hr.zero_
    go_enter Tryz.func40, Tryz.ntmps40
    go_wp2_with fail
    go_ret
    exact ⟨_, _, rfl, Ow.nil_ _ _, Below.refl _ _⟩
  | some a =>
    have HR := hide hr
    have HW := hide (show (w.alloc (.cells #[] 46)).ownsRow w.heap.size 46 2 (.slice (some ⟨w.heap.size, 0, none⟩) 0 0) 0 [] from owns_new w (Nat.le_refl _))
    clear hr
    go_enter Tryz.func40, Tryz.ntmps40
    go_wp2_with (at_builtin; refine wpList_app_ow _ rfl _ _ 40 rfl w.heap.size 46 _ 2 16 Tryz.underlying40 infoM rfl (by decide) (some ⟨w.heap.size, 0, none⟩) 0 0 [] rfl HW.out (some a) n c (flatE eM ys) rfl (by rw [flatE_len, HR.out.1]; rfl) (fun hm => by
        obtain ⟨b, o, e, hl, hc⟩ := (HR.out.keep ((Below.refl _ _).alloc (Nat.le_refl _) (.cells #[] 46))).2 hm
        exact ⟨_, e, fun j u hj => by
          have ea : (⟨b, o, none⟩ : Addr).add j = ⟨b, o + j, none⟩ := by unfold Addr.add; split <;> simp_all
          rw [ea]; exact hc j u hj⟩) (flatE_one ys) (by decide) (by omega) (by simp) ?_; intro A' c' w' r1 r2 r3)
    all_goals
      go_ret
      simp only [Nat.zero_add] at *
      refine ⟨A', c', rfl, r1, ?_⟩
      refine Turn.onto ((Below.refl _ _).alloc (Nat.le_refl _) _) r2 ?_
      intro k hk
      rw [blk_some] at hk
      omega

set_option maxHeartbeats 4000000 in
set_option maxRecDepth 100000 in
theorem equalM_any (A : Option Addr) (n c : Nat) (ys : List Mk) (A' : Option Addr) (m d : Nat) (zs : List Mk) (w : World) (hy : SL eM w A n ys) (hz : SL eM w A' m zs) (hn : n ≤ 1000) (hm : m ≤ 1000) (v : Bool) (hv : decide (ys = zs) = v) :
    Calls Tryz.prog 38 #[.slice A n c, .slice A' m d] w fun e w' => e = .returned (.bool v) ∧ Gr w w' := by
  have HY := hide hy
  have HZ := hide hz
  have HL := hide (And.intro hy.1 hz.1)
  have HV := hide hv
  by_cases hnm : n = m
  · subst hnm
    clear hy hz hv
    have d9 : decide ((n : Int) = (n : Int)) = true := decide_eq_true rfl
    go_enter Tryz.func38, Tryz.ntmps38
    go_wp2_with fail
    go_loopw [13] (fun i wr => ∃ k : Nat, i = .int .i64 (k : Int) ∧ k ≤ n ∧ Hid (ys.take k = zs.take k) ∧ Hid (Gr w wr)) (fun i _ => n - (RowKit.intOf i).toNat)
    case atStart => exact ⟨0, rfl, Nat.zero_le _, hide rfl, hide (Gr.refl _)⟩
    case round =>
      obtain ⟨k, rfl, hk, HT, HB⟩ := hrel
      by_cases hlt : k < n
      · obtain ⟨b, o, y, rfl, hl, hy, hcy⟩ := (HY.out.keep HB.out.below).atM hlt
        obtain ⟨b', o', z, rfl, hl', hz, hcz⟩ := (HZ.out.keep HB.out.below).atM hlt
        obtain ⟨k0, k1⟩ := hcy
        obtain ⟨m0, m1⟩ := hcz
        have d0 : decide ((k : Int) < (n : Int)) = true := decide_eq_true (by omega)
        have a1 : (0 : Int) ≤ (k : Int) := by omega
        have a2 : (k : Int) < (n : Int) := by omega
        have HYZ := hide (And.intro hy hz)
        clear hy hz
        by_cases he : y = z
        · have e0 := fun (w : World) => eqM_run y z w true (decide_eq_true he)
          have HE := hide he
          clear he
          go_wp2_with fail
          go_region
          all_goals
            go_wp2_with fail
            go_roundw
            case rel => exact ⟨k + 1, by go_num, by omega, hide (by rw [List.take_add_one, List.take_add_one, HT.out, HYZ.out.1, HYZ.out.2, HE.out]), hide (HB.out.trans (by ((repeat (first | (with_reducible assumption) | (with_reducible exact Gr.refl _) | (with_reducible refine Gr.drew ?_) | (with_reducible refine Gr.alloc ?_ _) | (with_reducible refine Gr.trans ?_ (by assumption)))); (first | done | fail))))⟩
            case measure => simp [RowKit.intOf]; omega
        · have e0 := fun (w : World) => eqM_run y z w false (decide_eq_false he)
          have HE := hide he
          clear he
          go_wp2_with fail
          go_region
          all_goals
            go_wp2_with fail
            go_ret
            have hf : v = false := by
              rw [← HV.out]
              refine decide_eq_false fun h => HE.out ?_
              have h1 := HYZ.out.1
              rw [h, HYZ.out.2] at h1
              injection h1 with h1
              exact h1.symm
            exact ⟨by rw [hf]; rfl, HB.out.trans (by ((repeat (first | (with_reducible assumption) | (with_reducible exact Gr.refl _) | (with_reducible refine Gr.drew ?_) | (with_reducible refine Gr.alloc ?_ _) | (with_reducible refine Gr.trans ?_ (by assumption)))); (first | done | fail)))⟩
      · obtain rfl : k = n := by omega
        have d0 : decide ((k : Int) < (k : Int)) = false := decide_eq_false (by omega)
        go_wp2_with fail
        go_ret
        have hf : v = true := by
          rw [← HV.out]
          have h1 := HT.out
          rw [List.take_of_length_le (by have := HL.out.1; omega), List.take_of_length_le (by have := HL.out.2; omega)] at h1
          exact decide_eq_true h1
        exact ⟨by rw [hf]; rfl, HB.out⟩
  · have d1 : decide ((n : Int) = (m : Int)) = false := decide_eq_false (by omega)
    have hi : ¬ ((n : Int) = (m : Int)) := by omega
    clear hy hz hv
    go_enter Tryz.func38, Tryz.ntmps38
    go_wp2_with fail
    go_ret
    have hf : v = false := by
      rw [← HV.out]
      refine decide_eq_false fun h => ?_
      have h1 := HL.out
      rw [h] at h1
      omega
    exact ⟨by rw [hf]; rfl, Gr.refl _⟩

set_option maxHeartbeats 4000000 in
set_option maxRecDepth 100000 in
theorem baseM_any (A : Option Addr) (n c : Nat) (ys : List Mk) (A' : Option Addr) (m d : Nat) (zs : List Mk) (w : World) (hy : SL eM w A n ys) (hz : SL eM w A' m zs) (hn : n ≤ 1000) (hm : m ≤ 1000) (v : Bool) (hv : decide (ys = zs) = v) :
    Calls Tryz.prog 34 #[.slice A n c, .slice A' m d] w fun e w' => e = .returned (.bool v) ∧ Gr w w' := by
  have HY := hide hy
  have HZ := hide hz
  have HL := hide (And.intro hy.1 hz.1)
  have HV := hide hv
  by_cases hnm : n = m
  · subst hnm
    clear hy hz hv
    have d9 : decide ((n : Int) = (n : Int)) = true := decide_eq_true rfl
    go_enter Tryz.func34, Tryz.ntmps34
    go_wp2_with fail
    go_loopw [5] (fun i wr => ∃ k : Nat, i = .int .i64 (k : Int) ∧ k ≤ n ∧ Hid (ys.take k = zs.take k) ∧ Hid (Gr w wr)) (fun i _ => n - (RowKit.intOf i).toNat)
    case atStart => exact ⟨0, rfl, Nat.zero_le _, hide rfl, hide (Gr.refl _)⟩
    case round =>
      obtain ⟨k, rfl, hk, HT, HB⟩ := hrel
      by_cases hlt : k < n
      · obtain ⟨b, o, y, rfl, hl, hy, hcy⟩ := (HY.out.keep HB.out.below).atM hlt
        obtain ⟨b', o', z, rfl, hl', hz, hcz⟩ := (HZ.out.keep HB.out.below).atM hlt
        obtain ⟨k0, k1⟩ := hcy
        obtain ⟨m0, m1⟩ := hcz
        have d0 : decide ((k : Int) < (n : Int)) = true := decide_eq_true (by omega)
        have a1 : (0 : Int) ≤ (k : Int) := by omega
        have a2 : (k : Int) < (n : Int) := by omega
        have HYZ := hide (And.intro hy hz)
        clear hy hz
        by_cases he : y = z
        · have e0 := fun (w : World) => eqM_run y z w true (decide_eq_true he)
          have HE := hide he
          clear he
          go_wp2_with fail
          go_region
          all_goals
            go_wp2_with fail
            go_roundw
            case rel => exact ⟨k + 1, by go_num, by omega, hide (by rw [List.take_add_one, List.take_add_one, HT.out, HYZ.out.1, HYZ.out.2, HE.out]), hide (HB.out.trans (by ((repeat (first | (with_reducible assumption) | (with_reducible exact Gr.refl _) | (with_reducible refine Gr.drew ?_) | (with_reducible refine Gr.alloc ?_ _) | (with_reducible refine Gr.trans ?_ (by assumption)))); (first | done | fail))))⟩
            case measure => simp [RowKit.intOf]; omega
        · have e0 := fun (w : World) => eqM_run y z w false (decide_eq_false he)
          have HE := hide he
          clear he
          go_wp2_with fail
          go_region
          all_goals
            go_wp2_with fail
            go_ret
            have hf : v = false := by
              rw [← HV.out]
              refine decide_eq_false fun h => HE.out ?_
              have h1 := HYZ.out.1
              rw [h, HYZ.out.2] at h1
              injection h1 with h1
              exact h1.symm
            exact ⟨by rw [hf]; rfl, HB.out.trans (by ((repeat (first | (with_reducible assumption) | (with_reducible exact Gr.refl _) | (with_reducible refine Gr.drew ?_) | (with_reducible refine Gr.alloc ?_ _) | (with_reducible refine Gr.trans ?_ (by assumption)))); (first | done | fail)))⟩
      · obtain rfl : k = n := by omega
        have d0 : decide ((k : Int) < (k : Int)) = false := decide_eq_false (by omega)
        go_wp2_with fail
        go_ret
        have hf : v = true := by
          rw [← HV.out]
          have h1 := HT.out
          rw [List.take_of_length_le (by have := HL.out.1; omega), List.take_of_length_le (by have := HL.out.2; omega)] at h1
          exact decide_eq_true h1
        exact ⟨by rw [hf]; rfl, HB.out⟩
  · have d1 : decide ((n : Int) = (m : Int)) = false := decide_eq_false (by omega)
    have hi : ¬ ((n : Int) = (m : Int)) := by omega
    clear hy hz hv
    go_enter Tryz.func34, Tryz.ntmps34
    go_wp2_with fail
    go_ret
    have hf : v = false := by
      rw [← HV.out]
      refine decide_eq_false fun h => ?_
      have h1 := HL.out
      rw [h] at h1
      omega
    exact ⟨by rw [hf]; rfl, Gr.refl _⟩

attribute [local go_sem] run_equalIn_agg run_equalIn_int
theorem eqD_run (x y : Dec) (w : World) (v : Bool) (hv : decide (x = y) = v) : (Op.equalIn 10000 44 (.agg #[.int .i64 x.u, .int .i64 x.n, .int .i64 x.k, .int .i64 x.a, .int .i64 x.b]) (.agg #[.int .i64 y.u, .int .i64 y.n, .int .i64 y.k, .int .i64 y.a, .int .i64 y.b])).run Tryz.prog w = .ok v w := by
  have u3 := Tryz.underlying3
  have a3 := Tryz.isAgg3
  have z3 := Tryz.sizeOf3
  have hS : Tryz.prog.underlying 44 = some (.struct (Tryz.prog.fieldsOf 44)) := by kernel_rfl
  have hp : Tryz.prog.stoodInHeld 44 = false := by kernel_rfl
  rw [show (10000 : Nat) = 9999 + 1 from rfl, run_equalIn_agg w 9999 44 _ _ hS hp]
  simp only [Program.fieldsOf, Tryz.underlying44]
  go_simp
  subst hv
  by_cases h : x = y
  · subst h
    simp
  · rw [decide_eq_false h]
    have hne : ¬(x.u = y.u ∧ x.n = y.n ∧ x.k = y.k ∧ x.a = y.a ∧ x.b = y.b) := fun e => h (by
      cases x
      cases y
      simp only at e
      obtain ⟨rfl, rfl, rfl, rfl, rfl⟩ := e
      rfl)
    repeat' split
    all_goals first | rfl | exact absurd ⟨by assumption, by assumption, by assumption, by assumption, by assumption⟩ hne
set_option maxHeartbeats 1000000 in
set_option maxRecDepth 100000 in
theorem cloneD_any (A : Option Addr) (n c : Nat) (ys : List Dec) (w : World) (hr : SL eD w A n ys) (hn : n ≤ 1000) :
    Calls Tryz.prog 39 #[.slice A n c] w fun e w' => ∃ A' c', e = .returned (.slice A' n c') ∧ Ow eD w' w.heap.size A' n c' ys ∧ Below w.heap.size w w' := by
  have q := fun (w : World) (a : Option Addr) (n c n' c' : Nat) => Lib.run_eql_slice_nil (P := Tryz.prog) w _ _ a n c n' c' Tryz.underlying38
  cases A with
  | none =>
    obtain rfl : n = 0 := by
      rcases Nat.eq_zero_or_pos n with h | h
      · exact h
      · obtain ⟨b, o, e, _⟩ := hr.base h; cases e
    obtain rfl := hr.zero_
    go_enter Tryz.func39, Tryz.ntmps39
    go_wp2_with fail
    go_ret
    exact ⟨_, _, rfl, Ow.nil_ _ _, Below.refl _ _⟩
  | some a =>
    have HR := hide hr
    have HW := hide (show (w.alloc (.cells #[] 44)).ownsRow w.heap.size 44 5 (.slice (some ⟨w.heap.size, 0, none⟩) 0 0) 0 [] from owns_new w (Nat.le_refl _))
    clear hr
    go_enter Tryz.func39, Tryz.ntmps39
    go_wp2_with (at_builtin; refine wpList_app_ow _ rfl _ _ 38 rfl w.heap.size 44 _ 5 40 Tryz.underlying38 infoD rfl (by decide) (some ⟨w.heap.size, 0, none⟩) 0 0 [] rfl HW.out (some a) n c (flatE eD ys) rfl (by rw [flatE_len, HR.out.1]; rfl) (fun hm => by
        obtain ⟨b, o, e, hl, hc⟩ := (HR.out.keep ((Below.refl _ _).alloc (Nat.le_refl _) (.cells #[] 44))).2 hm
        exact ⟨_, e, fun j u hj => by
          have ea : (⟨b, o, none⟩ : Addr).add j = ⟨b, o + j, none⟩ := by unfold Addr.add; split <;> simp_all
          rw [ea]; exact hc j u hj⟩) (flatE_one ys) (by decide) (by omega) (by simp) ?_; intro A' c' w' r1 r2 r3)
    all_goals
      go_ret
      simp only [Nat.zero_add] at *
      refine ⟨A', c', rfl, r1, ?_⟩
      refine Turn.onto ((Below.refl _ _).alloc (Nat.le_refl _) _) r2 ?_
      intro k hk
      rw [blk_some] at hk
      omega

set_option maxHeartbeats 4000000 in
set_option maxRecDepth 100000 in
theorem equalD_any (A : Option Addr) (n c : Nat) (ys : List Dec) (A' : Option Addr) (m d : Nat) (zs : List Dec) (w : World) (hy : SL eD w A n ys) (hz : SL eD w A' m zs) (hn : n ≤ 1000) (hm : m ≤ 1000) (v : Bool) (hv : decide (ys = zs) = v) :
    Calls Tryz.prog 37 #[.slice A n c, .slice A' m d] w fun e w' => e = .returned (.bool v) ∧ Gr w w' := by
  have HY := hide hy
  have HZ := hide hz
  have HL := hide (And.intro hy.1 hz.1)
  have HV := hide hv
  by_cases hnm : n = m
  · subst hnm
    clear hy hz hv
    have d9 : decide ((n : Int) = (n : Int)) = true := decide_eq_true rfl
    go_enter Tryz.func37, Tryz.ntmps37
    go_wp2_with fail
    go_loopw [13] (fun i wr => ∃ k : Nat, i = .int .i64 (k : Int) ∧ k ≤ n ∧ Hid (ys.take k = zs.take k) ∧ Hid (Gr w wr)) (fun i _ => n - (RowKit.intOf i).toNat)
    case atStart => exact ⟨0, rfl, Nat.zero_le _, hide rfl, hide (Gr.refl _)⟩
    case round =>
      obtain ⟨k, rfl, hk, HT, HB⟩ := hrel
      by_cases hlt : k < n
      · obtain ⟨b, o, y, rfl, hl, hy, hcy⟩ := (HY.out.keep HB.out.below).atD hlt
        obtain ⟨b', o', z, rfl, hl', hz, hcz⟩ := (HZ.out.keep HB.out.below).atD hlt
        obtain ⟨k0, k1, k2, k3, k4⟩ := hcy
        obtain ⟨m0, m1, m2, m3, m4⟩ := hcz
        have d0 : decide ((k : Int) < (n : Int)) = true := decide_eq_true (by omega)
        have a1 : (0 : Int) ≤ (k : Int) := by omega
        have a2 : (k : Int) < (n : Int) := by omega
        have HYZ := hide (And.intro hy hz)
        clear hy hz
        by_cases he : y = z
        · have e0 := fun (w : World) => eqD_run y z w true (decide_eq_true he)
          have HE := hide he
          clear he
          go_wp2_with fail
          go_region
          all_goals
            go_wp2_with fail
            go_roundw
            case rel => exact ⟨k + 1, by go_num, by omega, hide (by rw [List.take_add_one, List.take_add_one, HT.out, HYZ.out.1, HYZ.out.2, HE.out]), hide (HB.out.trans (by ((repeat (first | (with_reducible assumption) | (with_reducible exact Gr.refl _) | (with_reducible refine Gr.drew ?_) | (with_reducible refine Gr.alloc ?_ _) | (with_reducible refine Gr.trans ?_ (by assumption)))); (first | done | fail))))⟩
            case measure => simp [RowKit.intOf]; omega
        · have e0 := fun (w : World) => eqD_run y z w false (decide_eq_false he)
          have HE := hide he
          clear he
          go_wp2_with fail
          go_region
          all_goals
            go_wp2_with fail
            go_ret
            have hf : v = false := by
              rw [← HV.out]
              refine decide_eq_false fun h => HE.out ?_
              have h1 := HYZ.out.1
              rw [h, HYZ.out.2] at h1
              injection h1 with h1
              exact h1.symm
            exact ⟨by rw [hf]; rfl, HB.out.trans (by ((repeat (first | (with_reducible assumption) | (with_reducible exact Gr.refl _) | (with_reducible refine Gr.drew ?_) | (with_reducible refine Gr.alloc ?_ _) | (with_reducible refine Gr.trans ?_ (by assumption)))); (first | done | fail)))⟩
      · obtain rfl : k = n := by omega
        have d0 : decide ((k : Int) < (k : Int)) = false := decide_eq_false (by omega)
        go_wp2_with fail
        go_ret
        have hf : v = true := by
          rw [← HV.out]
          have h1 := HT.out
          rw [List.take_of_length_le (by have := HL.out.1; omega), List.take_of_length_le (by have := HL.out.2; omega)] at h1
          exact decide_eq_true h1
        exact ⟨by rw [hf]; rfl, HB.out⟩
  · have d1 : decide ((n : Int) = (m : Int)) = false := decide_eq_false (by omega)
    have hi : ¬ ((n : Int) = (m : Int)) := by omega
    clear hy hz hv
    go_enter Tryz.func37, Tryz.ntmps37
    go_wp2_with fail
    go_ret
    have hf : v = false := by
      rw [← HV.out]
      refine decide_eq_false fun h => ?_
      have h1 := HL.out
      rw [h] at h1
      omega
    exact ⟨by rw [hf]; rfl, Gr.refl _⟩

set_option maxHeartbeats 4000000 in
set_option maxRecDepth 100000 in
theorem baseD_any (A : Option Addr) (n c : Nat) (ys : List Dec) (A' : Option Addr) (m d : Nat) (zs : List Dec) (w : World) (hy : SL eD w A n ys) (hz : SL eD w A' m zs) (hn : n ≤ 1000) (hm : m ≤ 1000) (v : Bool) (hv : decide (ys = zs) = v) :
    Calls Tryz.prog 22 #[.slice A n c, .slice A' m d] w fun e w' => e = .returned (.bool v) ∧ Gr w w' := by
  have HY := hide hy
  have HZ := hide hz
  have HL := hide (And.intro hy.1 hz.1)
  have HV := hide hv
  by_cases hnm : n = m
  · subst hnm
    clear hy hz hv
    have d9 : decide ((n : Int) = (n : Int)) = true := decide_eq_true rfl
    go_enter Tryz.func22, Tryz.ntmps22
    go_wp2_with fail
    go_loopw [5] (fun i wr => ∃ k : Nat, i = .int .i64 (k : Int) ∧ k ≤ n ∧ Hid (ys.take k = zs.take k) ∧ Hid (Gr w wr)) (fun i _ => n - (RowKit.intOf i).toNat)
    case atStart => exact ⟨0, rfl, Nat.zero_le _, hide rfl, hide (Gr.refl _)⟩
    case round =>
      obtain ⟨k, rfl, hk, HT, HB⟩ := hrel
      by_cases hlt : k < n
      · obtain ⟨b, o, y, rfl, hl, hy, hcy⟩ := (HY.out.keep HB.out.below).atD hlt
        obtain ⟨b', o', z, rfl, hl', hz, hcz⟩ := (HZ.out.keep HB.out.below).atD hlt
        obtain ⟨k0, k1, k2, k3, k4⟩ := hcy
        obtain ⟨m0, m1, m2, m3, m4⟩ := hcz
        have d0 : decide ((k : Int) < (n : Int)) = true := decide_eq_true (by omega)
        have a1 : (0 : Int) ≤ (k : Int) := by omega
        have a2 : (k : Int) < (n : Int) := by omega
        have HYZ := hide (And.intro hy hz)
        clear hy hz
        by_cases he : y = z
        · have e0 := fun (w : World) => eqD_run y z w true (decide_eq_true he)
          have HE := hide he
          clear he
          go_wp2_with fail
          go_region
          all_goals
            go_wp2_with fail
            go_roundw
            case rel => exact ⟨k + 1, by go_num, by omega, hide (by rw [List.take_add_one, List.take_add_one, HT.out, HYZ.out.1, HYZ.out.2, HE.out]), hide (HB.out.trans (by ((repeat (first | (with_reducible assumption) | (with_reducible exact Gr.refl _) | (with_reducible refine Gr.drew ?_) | (with_reducible refine Gr.alloc ?_ _) | (with_reducible refine Gr.trans ?_ (by assumption)))); (first | done | fail))))⟩
            case measure => simp [RowKit.intOf]; omega
        · have e0 := fun (w : World) => eqD_run y z w false (decide_eq_false he)
          have HE := hide he
          clear he
          go_wp2_with fail
          go_region
          all_goals
            go_wp2_with fail
            go_ret
            have hf : v = false := by
              rw [← HV.out]
              refine decide_eq_false fun h => HE.out ?_
              have h1 := HYZ.out.1
              rw [h, HYZ.out.2] at h1
              injection h1 with h1
              exact h1.symm
            exact ⟨by rw [hf]; rfl, HB.out.trans (by ((repeat (first | (with_reducible assumption) | (with_reducible exact Gr.refl _) | (with_reducible refine Gr.drew ?_) | (with_reducible refine Gr.alloc ?_ _) | (with_reducible refine Gr.trans ?_ (by assumption)))); (first | done | fail)))⟩
      · obtain rfl : k = n := by omega
        have d0 : decide ((k : Int) < (k : Int)) = false := decide_eq_false (by omega)
        go_wp2_with fail
        go_ret
        have hf : v = true := by
          rw [← HV.out]
          have h1 := HT.out
          rw [List.take_of_length_le (by have := HL.out.1; omega), List.take_of_length_le (by have := HL.out.2; omega)] at h1
          exact decide_eq_true h1
        exact ⟨by rw [hf]; rfl, HB.out⟩
  · have d1 : decide ((n : Int) = (m : Int)) = false := decide_eq_false (by omega)
    have hi : ¬ ((n : Int) = (m : Int)) := by omega
    clear hy hz hv
    go_enter Tryz.func22, Tryz.ntmps22
    go_wp2_with fail
    go_ret
    have hf : v = false := by
      rw [← HV.out]
      refine decide_eq_false fun h => ?_
      have h1 := HL.out
      rw [h] at h1
      omega
    exact ⟨by rw [hf]; rfl, Gr.refl _⟩
end Go.Proofs.YtalbdclcappjpaaGreat
