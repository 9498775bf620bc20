/- Comparing marks and decisions; which are valid. -/
import Derived.Test.YtadmiecoahohiaaDT
import Derived.Sort.Grow
import Derived.Deep.RegionHeld3
import Derived.Deep.QuietTactic
import Derived.BigQuiet
import Derived.WalkSmall
namespace Go.Proofs.Ytadmiecoahohiaa
open Go Go.RowKit Go.Lib
/-- only draws, and new blocks -/
def Gr (w w' : World) : Prop := ∃ q os, w' = Go.Sort.grow (w.drewN q) os
theorem Gr.refl (w : World) : Gr w w := ⟨0, #[], by simp [Go.Sort.grow, World.drewN]⟩
theorem Gr.drew {w W : World} (h : Gr w W) : Gr w W.drew := by
  obtain ⟨q, os, rfl⟩ := h
  exact ⟨q + 1, os, rfl⟩
theorem Gr.alloc {w W : World} (h : Gr w W) (o : Obj) : Gr w (W.alloc o) := by
  obtain ⟨q, os, rfl⟩ := h
  exact ⟨q, os ++ #[o], by rw [Go.Sort.alloc_eq_grow, Go.Sort.grow_grow]⟩
theorem drewN_drewN (w : World) (p q : Nat) : (w.drewN p).drewN q = w.drewN (p + q) := by
  simp [World.drewN, Nat.add_assoc]
theorem Gr.trans {w W W' : World} (h : Gr w W) (k : Gr W W') : Gr w W' := by
  obtain ⟨q, os, rfl⟩ := h
  obtain ⟨q', os', rfl⟩ := k
  exact ⟨q + q', os ++ os', by rw [← Go.Sort.grow_grow, ← drewN_drewN]; rfl⟩
theorem Gr.below {w W : World} (h : Gr w W) : Below w.heap.size w W := by
  obtain ⟨q, os, rfl⟩ := h
  refine ⟨rfl, rfl, rfl, by simp [Go.Sort.grow, World.drewN], fun k hk => ?_⟩
  rw [Go.Sort.heap_grow_old _ _ (by simpa [World.drewN] using hk)]
  rfl
def cI (a b : Int) : Int := if a < b then -1 else if b < a then 1 else 0
theorem nan_any (a : Int) (w : World) : Calls Try.prog 72 #[.int .i64 a] w fun e w' => e = .returned (.bool false) ∧ w = w' := by
  have e0 : (a == a) = true := beq_iff_eq.2 rfl
  go_enter Try.func72, Try.ntmps72
  go_wp2_with fail
  go_ret
  exact ⟨rfl, rfl⟩
set_option maxHeartbeats 1000000 in
theorem cmp_any (a b : Int) (w : World) (r : Int) (hr : cI a b = r) : Calls Try.prog 63 #[.int .i64 a, .int .i64 b] w fun e w' => e = .returned (.int .i64 r) ∧ w = w' := by
  unfold cI at hr
  by_cases h1 : a < b
  · obtain rfl : r = -1 := by rw [← hr, if_pos h1]
    have d1 : decide (a < b) = true := decide_eq_true h1
    clear hr h1
    go_enter Try.func63, Try.ntmps63
    go_wp2_with fail
    refine (nan_any a _).mono ?_
    rintro e w' ⟨rfl, rfl⟩
    go_wp2_with fail
    refine (nan_any b _).mono ?_
    rintro e w' ⟨rfl, rfl⟩
    go_wp2_with fail
    go_ret
    exact ⟨rfl, rfl⟩
  · have d1 : decide (a < b) = false := decide_eq_false h1
    by_cases h2 : b < a
    · obtain rfl : r = 1 := by rw [← hr, if_neg h1, if_pos h2]
      have d2 : decide (b < a) = true := decide_eq_true h2
      clear hr h1 h2
      go_enter Try.func63, Try.ntmps63
      go_wp2_with fail
      refine (nan_any a _).mono ?_
      rintro e w' ⟨rfl, rfl⟩
      go_wp2_with fail
      refine (nan_any b _).mono ?_
      rintro e w' ⟨rfl, rfl⟩
      go_wp2_with fail
      go_ret
      exact ⟨rfl, rfl⟩
    · obtain rfl : r = 0 := by rw [← hr, if_neg h1, if_neg h2]
      have d2 : decide (b < a) = false := decide_eq_false h2
      clear hr h1 h2
      go_enter Try.func63, Try.ntmps63
      go_wp2_with fail
      refine (nan_any a _).mono ?_
      rintro e w' ⟨rfl, rfl⟩
      go_wp2_with fail
      refine (nan_any b _).mono ?_
      rintro e w' ⟨rfl, rfl⟩
      go_wp2_with fail
      go_ret
      exact ⟨rfl, rfl⟩
def or2 (x y : Int) : Int := if x = 0 then y else x
/-- how marks compare -/
def cmpM (x y : Mk) : Int := or2 (cI x.u y.u) (cI x.n y.n)
def cmpD (x y : Dec) : Int := cmpM x.mk_ y.mk_
theorem newE {g : Nat} (w : World) (vs : Array Value) (t : TypeId) (e : g = w.heap.size) : Box (w.alloc (.cells vs t)) g vs t := by
  subst e; exact Box.new _ _ _
end Go.Proofs.Ytadmiecoahohiaa
