/- Comparing marks and decisions; which are valid. -/
import Derived.Test.YtalbdclcappjpaaGreatDT
import Derived.Sort.Grow
import Derived.Deep.RegionHeld3
import Derived.Deep.QuietTactic
import Derived.BigQuiet
import Derived.WalkSmall
namespace Go.Proofs.YtalbdclcappjpaaGreat
open Go Go.RowKit Go.Lib
/-- only draws, and new blocks -/
def Gr (w w' : World) : Prop := ∃ q os, w' = Go.Sort.grow (w.drewN q) os
theorem Gr.refl (w : World) : Gr w w := ⟨0, #[], by simp [Go.Sort.grow, World.drewN]⟩
theorem Gr.drew {w W : World} (h : Gr w W) : Gr w W.drew := by
  obtain ⟨q, os, rfl⟩ := h
  exact ⟨q + 1, os, rfl⟩
theorem Gr.alloc {w W : World} (h : Gr w W) (o : Obj) : Gr w (W.alloc o) := by
  obtain ⟨q, os, rfl⟩ := h
  exact ⟨q, os ++ #[o], by rw [Go.Sort.alloc_eq_grow, Go.Sort.grow_grow]⟩
theorem drewN_drewN (w : World) (p q : Nat) : (w.drewN p).drewN q = w.drewN (p + q) := by
  simp [World.drewN, Nat.add_assoc]
theorem Gr.trans {w W W' : World} (h : Gr w W) (k : Gr W W') : Gr w W' := by
  obtain ⟨q, os, rfl⟩ := h
  obtain ⟨q', os', rfl⟩ := k
  exact ⟨q + q', os ++ os', by rw [← Go.Sort.grow_grow, ← drewN_drewN]; rfl⟩
theorem Gr.below {w W : World} (h : Gr w W) : Below w.heap.size w W := by
  obtain ⟨q, os, rfl⟩ := h
  refine ⟨rfl, rfl, rfl, by simp [Go.Sort.grow, World.drewN], fun k hk => ?_⟩
  rw [Go.Sort.heap_grow_old _ _ (by simpa [World.drewN] using hk)]
  rfl
def cI (a b : Int) : Int := if a < b then -1 else if b < a then 1 else 0
theorem nan_any (a : Int) (w : World) : Calls Tryz.prog 78 #[.int .i64 a] w fun e w' => e = .returned (.bool false) ∧ w = w' := by
  have e0 : (a == a) = true := beq_iff_eq.2 rfl
  go_enter Tryz.func78, Tryz.ntmps78
  go_wp2_with fail
  go_ret
  exact ⟨rfl, rfl⟩
set_option maxHeartbeats 1000000 in
theorem cmp_any (a b : Int) (w : World) (r : Int) (hr : cI a b = r) : Calls Tryz.prog 60 #[.int .i64 a, .int .i64 b] w fun e w' => e = .returned (.int .i64 r) ∧ w = w' := by
  unfold cI at hr
  by_cases h1 : a < b
  · obtain rfl : r = -1 := by rw [← hr, if_pos h1]
    have d1 : decide (a < b) = true := decide_eq_true h1
    clear hr h1
    go_enter Tryz.func60, Tryz.ntmps60
    go_wp2_with fail
    refine (nan_any a _).mono ?_
    rintro e w' ⟨rfl, rfl⟩
    go_wp2_with fail
    refine (nan_any b _).mono ?_
    rintro e w' ⟨rfl, rfl⟩
    go_wp2_with fail
    go_ret
    exact ⟨rfl, rfl⟩
  · have d1 : decide (a < b) = false := decide_eq_false h1
    by_cases h2 : b < a
    · obtain rfl : r = 1 := by rw [← hr, if_neg h1, if_pos h2]
      have d2 : decide (b < a) = true := decide_eq_true h2
      clear hr h1 h2
      go_enter Tryz.func60, Tryz.ntmps60
      go_wp2_with fail
      refine (nan_any a _).mono ?_
      rintro e w' ⟨rfl, rfl⟩
      go_wp2_with fail
      refine (nan_any b _).mono ?_
      rintro e w' ⟨rfl, rfl⟩
      go_wp2_with fail
      go_ret
      exact ⟨rfl, rfl⟩
    · obtain rfl : r = 0 := by rw [← hr, if_neg h1, if_neg h2]
      have d2 : decide (b < a) = false := decide_eq_false h2
      clear hr h1 h2
      go_enter Tryz.func60, Tryz.ntmps60
      go_wp2_with fail
      refine (nan_any a _).mono ?_
      rintro e w' ⟨rfl, rfl⟩
      go_wp2_with fail
      refine (nan_any b _).mono ?_
      rintro e w' ⟨rfl, rfl⟩
      go_wp2_with fail
      go_ret
      exact ⟨rfl, rfl⟩
def or2 (x y : Int) : Int := if x = 0 then y else x
set_option maxHeartbeats 1000000 in
theorem or_two (g : Nat) (x y : Int) (w : World) (k0 : w.cell? ⟨g, 0, none⟩ = some (.int .i64 x)) (k1 : w.cell? ⟨g, 1, none⟩ = some (.int .i64 y)) (r : Int) (hr : or2 x y = r) :
    Calls Tryz.prog 59 #[.slice (some ⟨g, 0, none⟩) 2 2] w fun e w' => e = .returned (.int .i64 r) ∧ w = w' := by
  unfold or2 at hr
  by_cases hx : x = 0
  · rw [if_pos hx] at hr
    subst hr
    subst hx
    by_cases hy : y = 0
    · subst hy
      go_enter Tryz.func59, Tryz.ntmps59
      go_wp2_with fail
      refine wp_loop_rounds 3 ?_
      rw [rounds_succ]
      go_wp2_with fail
      rw [rounds_succ]
      go_wp2_with fail
      rw [rounds_succ]
      go_wp2_with fail
      go_ret
      exact ⟨rfl, rfl⟩
    · have e0 : (y == 0) = false := beq_eq_false_iff_ne.2 hy
      go_enter Tryz.func59, Tryz.ntmps59
      go_wp2_with fail
      refine wp_loop_rounds 3 ?_
      rw [rounds_succ]
      go_wp2_with fail
      rw [rounds_succ]
      go_wp2_with fail
      go_ret
      exact ⟨rfl, rfl⟩
  · rw [if_neg hx] at hr
    subst hr
    have e0 : (x == 0) = false := beq_eq_false_iff_ne.2 hx
    go_enter Tryz.func59, Tryz.ntmps59
    go_wp2_with fail
    refine wp_loop_rounds 3 ?_
    rw [rounds_succ]
    go_wp2_with fail
    go_ret
    exact ⟨rfl, rfl⟩
/-- how marks compare -/
def cmpM (x y : Mk) : Int := or2 (cI x.u y.u) (cI x.n y.n)
def cmpD (x y : Dec) : Int := cmpM x.mk_ y.mk_
theorem newE {g : Nat} (w : World) (vs : Array Value) (t : TypeId) (e : g = w.heap.size) : Box (w.alloc (.cells vs t)) g vs t := by
  subst e; exact Box.new _ _ _
set_option maxHeartbeats 1000000 in
theorem mark_any (x : Dec) (w : World) : Calls Tryz.prog 42 #[.agg #[.int .i64 x.u, .int .i64 x.n, .int .i64 x.k, .int .i64 x.a, .int .i64 x.b]] w fun e w' => e = .returned (.agg #[.int .i64 x.mk_.u, .int .i64 x.mk_.n]) ∧ Gr w w' := by
  go_enter Tryz.func42, Tryz.ntmps42
  go_wp2_with fail
  exact bodyPost_ret (v := .agg #[.int .i64 x.mk_.u, .int .i64 x.mk_.n]) (by simp [results, Tryz.results42, go_sem]; exact ⟨rfl, rfl⟩) rfl ⟨rfl, (by ((repeat (first | (with_reducible assumption) | (with_reducible exact Gr.refl _) | (with_reducible refine Gr.drew ?_) | (with_reducible refine Gr.alloc ?_ _) | (with_reducible refine Gr.trans ?_ (by assumption)))); (first | done | fail)))⟩
set_option maxHeartbeats 4000000 in
theorem cmpM_any (x y : Mk) (w : World) (r : Int) (hr : cmpM x y = r) :
    Calls Tryz.prog 30 #[.agg #[.int .i64 x.u, .int .i64 x.n], .agg #[.int .i64 y.u, .int .i64 y.n]] w fun e w' => e = .returned (.int .i64 r) ∧ Gr w w' := by
  obtain ⟨a, ha⟩ : ∃ a, cI x.u y.u = a := ⟨_, rfl⟩
  obtain ⟨b, hb⟩ : ∃ b, cI x.n y.n = b := ⟨_, rfl⟩
  have HR := hide (show or2 a b = r from by rw [← hr, ← ha, ← hb]; rfl)
  have HA := hide ha
  have HB := hide hb
  clear hr ha hb
  go_enter Tryz.func30, Tryz.ntmps30
  go_wp2_with fail
  generalize hW : (w.alloc _).alloc _ = W
  obtain ⟨B, bx, by'⟩ : Gr w W ∧ Box W w.heap.size #[.int .i64 x.u, .int .i64 x.n] 46 ∧ Box W (w.heap.size + 1) #[.int .i64 y.u, .int .i64 y.n] 46 := by
    subst hW
    exact ⟨(by ((repeat (first | (with_reducible assumption) | (with_reducible exact Gr.refl _) | (with_reducible refine Gr.drew ?_) | (with_reducible refine Gr.alloc ?_ _) | (with_reducible refine Gr.trans ?_ (by assumption)))); (first | done | fail))), (Box.new _ _ _).alloc _, newE _ _ _ (by simp)⟩
  clear hW
  have lx := bx.lt
  have ly := by'.lt
  have KS : Hid (∀ w', Gr W w' → w'.cell? ⟨w.heap.size, 0, none⟩ = some (.int .i64 x.u) ∧ w'.cell? ⟨w.heap.size, 1, none⟩ = some (.int .i64 x.n) ∧ w'.cell? ⟨w.heap.size + 1, 0, none⟩ = some (.int .i64 y.u) ∧ w'.cell? ⟨w.heap.size + 1, 1, none⟩ = some (.int .i64 y.n)) := fun w' h => ⟨(bx.below h.below lx).at_ 0, (bx.below h.below lx).at_ 1, (by'.below h.below ly).at_ 0, (by'.below h.below ly).at_ 1⟩
  go_region_held3 (fun w' => w'.cell? ⟨w.heap.size, 0, none⟩ = some (.int .i64 x.u) ∧ w'.cell? ⟨w.heap.size, 1, none⟩ = some (.int .i64 x.n) ∧ w'.cell? ⟨w.heap.size + 1, 0, none⟩ = some (.int .i64 y.u) ∧ w'.cell? ⟨w.heap.size + 1, 1, none⟩ = some (.int .i64 y.n))
    (exact KS.out _ (by ((repeat (first | (with_reducible assumption) | (with_reducible exact Gr.refl _) | (with_reducible refine Gr.drew ?_) | (with_reducible refine Gr.alloc ?_ _) | (with_reducible refine Gr.trans ?_ (by assumption)))); (first | done | fail))))
    (first
      | (go_at_call_of 60 (Value.int IntKind.i64 y.u); (with_reducible refine (cmp_any x.u y.u _ a HA.out).mono ?_); rintro e w1 ⟨rfl, rfl⟩)
      | (go_at_call_of 60 (Value.int IntKind.i64 y.n); (with_reducible refine (cmp_any x.n y.n _ b HB.out).mono ?_); rintro e w1 ⟨rfl, rfl⟩)
      | (go_at_call 59; (with_reducible refine (or_two _ a b _ (by first | exact (Box.new _ _ _).at_ 0 | exact (newE _ _ _ (by first | rfl | (simp; done))).at_ 0 | (simp [go_sem]; done)) (by first | exact (Box.new _ _ _).at_ 1 | exact (newE _ _ _ (by first | rfl | (simp; done))).at_ 1 | (simp [go_sem]; done)) r HR.out).mono ?_); rintro e w1 ⟨rfl, rfl⟩))
  all_goals
    go_wp2_with fail
    go_ret
    exact ⟨rfl, B.trans (by ((repeat (first | (with_reducible assumption) | (with_reducible exact Gr.refl _) | (with_reducible refine Gr.drew ?_) | (with_reducible refine Gr.alloc ?_ _) | (with_reducible refine Gr.trans ?_ (by assumption)))); (first | done | fail)))⟩

set_option maxHeartbeats 4000000 in
theorem cmpD_any (x y : Dec) (w : World) (r : Int) (hr : cmpD x y = r) :
    Calls Tryz.prog 28 #[.agg #[.int .i64 x.u, .int .i64 x.n, .int .i64 x.k, .int .i64 x.a, .int .i64 x.b], .agg #[.int .i64 y.u, .int .i64 y.n, .int .i64 y.k, .int .i64 y.a, .int .i64 y.b]] w fun e w' => e = .returned (.int .i64 r) ∧ Gr w w' := by
  have HR := hide (show cmpM x.mk_ y.mk_ = r from hr)
  clear hr
  go_enter Tryz.func28, Tryz.ntmps28
  go_wp2_with fail
  generalize hW : (w.alloc _).alloc _ = W
  obtain ⟨B, bx, by'⟩ : Gr w W ∧ Box W w.heap.size #[.int .i64 x.u, .int .i64 x.n, .int .i64 x.k, .int .i64 x.a, .int .i64 x.b] 44 ∧ Box W (w.heap.size + 1) #[.int .i64 y.u, .int .i64 y.n, .int .i64 y.k, .int .i64 y.a, .int .i64 y.b] 44 := by
    subst hW
    exact ⟨(by ((repeat (first | (with_reducible assumption) | (with_reducible exact Gr.refl _) | (with_reducible refine Gr.drew ?_) | (with_reducible refine Gr.alloc ?_ _) | (with_reducible refine Gr.trans ?_ (by assumption)))); (first | done | fail))), (Box.new _ _ _).alloc _, newE _ _ _ (by simp)⟩
  clear hW
  have lx := bx.lt
  have ly := by'.lt
  have KS : Hid (∀ w', Gr W w' → w'.cell? ⟨w.heap.size, 0, none⟩ = some (.int .i64 x.u) ∧ w'.cell? ⟨w.heap.size, 1, none⟩ = some (.int .i64 x.n) ∧ w'.cell? ⟨w.heap.size, 2, none⟩ = some (.int .i64 x.k) ∧ w'.cell? ⟨w.heap.size, 3, none⟩ = some (.int .i64 x.a) ∧ w'.cell? ⟨w.heap.size, 4, none⟩ = some (.int .i64 x.b) ∧ w'.cell? ⟨w.heap.size + 1, 0, none⟩ = some (.int .i64 y.u) ∧ w'.cell? ⟨w.heap.size + 1, 1, none⟩ = some (.int .i64 y.n) ∧ w'.cell? ⟨w.heap.size + 1, 2, none⟩ = some (.int .i64 y.k) ∧ w'.cell? ⟨w.heap.size + 1, 3, none⟩ = some (.int .i64 y.a) ∧ w'.cell? ⟨w.heap.size + 1, 4, none⟩ = some (.int .i64 y.b)) := fun w' h => ⟨(bx.below h.below lx).at_ 0, (bx.below h.below lx).at_ 1, (bx.below h.below lx).at_ 2, (bx.below h.below lx).at_ 3, (bx.below h.below lx).at_ 4, (by'.below h.below ly).at_ 0, (by'.below h.below ly).at_ 1, (by'.below h.below ly).at_ 2, (by'.below h.below ly).at_ 3, (by'.below h.below ly).at_ 4⟩
  go_region_held3 (fun w' => w'.cell? ⟨w.heap.size, 0, none⟩ = some (.int .i64 x.u) ∧ w'.cell? ⟨w.heap.size, 1, none⟩ = some (.int .i64 x.n) ∧ w'.cell? ⟨w.heap.size, 2, none⟩ = some (.int .i64 x.k) ∧ w'.cell? ⟨w.heap.size, 3, none⟩ = some (.int .i64 x.a) ∧ w'.cell? ⟨w.heap.size, 4, none⟩ = some (.int .i64 x.b) ∧ w'.cell? ⟨w.heap.size + 1, 0, none⟩ = some (.int .i64 y.u) ∧ w'.cell? ⟨w.heap.size + 1, 1, none⟩ = some (.int .i64 y.n) ∧ w'.cell? ⟨w.heap.size + 1, 2, none⟩ = some (.int .i64 y.k) ∧ w'.cell? ⟨w.heap.size + 1, 3, none⟩ = some (.int .i64 y.a) ∧ w'.cell? ⟨w.heap.size + 1, 4, none⟩ = some (.int .i64 y.b))
    (exact KS.out _ (by ((repeat (first | (with_reducible assumption) | (with_reducible exact Gr.refl _) | (with_reducible refine Gr.drew ?_) | (with_reducible refine Gr.alloc ?_ _) | (with_reducible refine Gr.trans ?_ (by assumption)))); (first | done | fail))))
    (first
      | (go_at_call_of 42 (Value.agg #[.int .i64 x.u, .int .i64 x.n, .int .i64 x.k, .int .i64 x.a, .int .i64 x.b]); (with_reducible refine (mark_any x _).mono ?_); rintro e w1 ⟨rfl, hg⟩)
      | (go_at_call_of 42 (Value.agg #[.int .i64 y.u, .int .i64 y.n, .int .i64 y.k, .int .i64 y.a, .int .i64 y.b]); (with_reducible refine (mark_any y _).mono ?_); rintro e w1 ⟨rfl, hg⟩)
      | (go_at_call 30; (with_reducible refine (cmpM_any x.mk_ y.mk_ _ r HR.out).mono ?_); rintro e w1 ⟨rfl, hg⟩))
  all_goals
    go_wp2_with fail
    go_ret
    exact ⟨rfl, B.trans (by ((repeat (first | (with_reducible assumption) | (with_reducible exact Gr.refl _) | (with_reducible refine Gr.drew ?_) | (with_reducible refine Gr.alloc ?_ _) | (with_reducible refine Gr.trans ?_ (by assumption)))); (first | done | fail)))⟩
end Go.Proofs.YtalbdclcappjpaaGreat
