/- Comparing arcs. -/
import Derived.Test.YtgmdfaamheblmaaPArc
import Derived.Test.YtgmdfaamheblmaaShelf
import Derived.Deep.RegionHeld3
import Derived.Deep.LoopGhost
import Derived.IntWalk
namespace Go.Proofs.Ytgmdfaamheblmaa
open Go Go.RowKit PM

theorem Below.drewS {w W : World} (h : Below w.heap.size w W) : Below w.heap.size w W.drew := h.drew
theorem Below.allocS {w W : World} (h : Below w.heap.size w W) (o : Obj) : Below w.heap.size w (W.alloc o) := h.alloc h.size o
theorem Below.setS {w W : World} (h : Below w.heap.size w W) {g i : Nat} (hg : w.heap.size ≤ g) (v : Value) : Below w.heap.size w (W.setCell ⟨g, i, none⟩ v) := h.setCell hg v
theorem Below.next {w W W' : World} (h : Below w.heap.size w W) (hx : Below W.heap.size W W') : Below w.heap.size w W' := h.trans (hx.mono h.size)

def cI (a b : Int) : Int := if a < b then -1 else if b < a then 1 else 0
theorem cI_lib (a b : Int) : Lib.compareInt a b = cI a b := by
  unfold Lib.compareInt cI
  rfl
theorem cmp_any (a b : Int) (w : World) (r : Int) (hr : cI a b = r) : Calls Try.prog 52 #[.int .i64 a, .int .i64 b] w fun e w' => e = .returned (.int .i64 r) ∧ w = w' := by
  subst hr
  refine (Try.cmp_Compare_int a b w).mono ?_
  rintro e w' ⟨rfl, rfl⟩
  exact ⟨by rw [cI_lib], rfl⟩
section
variable {w W : World} {c0 : Array Value} {t0 : TypeId}
theorem boxC (hW : w.alloc (.cells c0 t0) = W) : Below w.heap.size w W ∧ Box W w.heap.size c0 t0 ∧ W.heap.size = w.heap.size + 1 := by
  subst hW
  exact ⟨(Below.refl _ _).alloc (Nat.le_refl _) _, Box.new _ _ _, by simp⟩
end
theorem newE {g : Nat} (w : World) (vs : Array Value) (t : TypeId) (e : g = w.heap.size) : Box (w.alloc (.cells vs t)) g vs t := by
  subst e; exact Box.new _ _ _
theorem boxD {w W : World} {c0 c1 : Array Value} {t0 t1 : TypeId} (hW : (w.alloc (.cells c0 t0)).alloc (.cells c1 t1) = W) :
    Below w.heap.size w W ∧ Box W w.heap.size c0 t0 ∧ Box W (w.heap.size + 1) c1 t1 := by
  obtain ⟨a, b, c⟩ := boxC (rfl : w.alloc (.cells c0 t0) = _)
  generalize w.alloc (.cells c0 t0) = V at *
  subst hW
  refine ⟨a.alloc (by omega) _, b.alloc _, ?_⟩
  rw [← c]; exact Box.new _ _ _
def or2 (a b : Int) : Int := if a ≠ 0 then a else b
set_option maxHeartbeats 1000000 in
theorem or_any (a b : Int) (w : World) (g : Nat) (k0 : w.cell? ⟨g, 0, none⟩ = some (.int .i64 a)) (k1 : w.cell? ⟨g, 1, none⟩ = some (.int .i64 b)) (r : Int) (hr : or2 a b = r) :
    Calls Try.prog 51 #[.slice (some ⟨g, 0, none⟩) 2 2] w fun e w' => e = .returned (.int .i64 r) ∧ w = w' := by
  have HR := hide hr
  clear hr
  go_enter Try.func51, Try.ntmps51
  go_wp2_with fail
  go_loopg [8] 2 (fun gk i wr => ∃ j : Nat, j + gk = 2 ∧ i = .int .i64 (j : Int) ∧ w = wr ∧ (0 < j → a = 0) ∧ (1 < j → b = 0))
  case atStart => exact ⟨0, by omega, rfl, rfl, fun h => by omega, fun h => by omega⟩
  case round =>
    obtain ⟨j, hj, rfl, rfl, h0, h1⟩ := hrel
    have hc : j = 0 ∨ j = 1 ∨ j = 2 := by omega
    have H0 := hide h0
    have H1 := hide h1
    clear h0 h1
    rcases hc with rfl | rfl | rfl
    · obtain rfl : gk = 2 := by omega
      by_cases hz : a = 0
      · have e0 : (a == 0) = true := beq_iff_eq.2 hz
        have HZ := hide hz
        clear hz hj
        go_wp2_with fail
        go_roundg 1
        case measure => omega
        case rel => exact ⟨1, by omega, by go_num, rfl, fun _ => HZ.out, fun h => by omega⟩
      · have e0 : (a == 0) = false := beq_eq_false_iff_ne.2 hz
        have HQ := hide (show a = r from by rw [← HR.out]; unfold or2; rw [if_pos hz])
        clear hj
        go_wp2_with fail
        go_ret
        exact ⟨by rw [HQ.out]; rfl, rfl⟩
    · obtain rfl : gk = 1 := by omega
      have HA := hide (H0.out (by omega))
      by_cases hz : b = 0
      · have e0 : (b == 0) = true := beq_iff_eq.2 hz
        have HZ := hide hz
        clear hz hj
        go_wp2_with fail
        go_roundg 0
        case measure => omega
        case rel => exact ⟨2, by omega, by go_num, rfl, fun _ => HA.out, fun _ => HZ.out⟩
      · have e0 : (b == 0) = false := beq_eq_false_iff_ne.2 hz
        have HQ := hide (show b = r from by rw [← HR.out]; unfold or2; rw [if_neg (by simp [HA.out])])
        clear hj
        go_wp2_with fail
        go_ret
        exact ⟨by rw [HQ.out]; rfl, rfl⟩
    · obtain rfl : gk = 0 := by omega
      have HQ := hide (show (0 : Int) = r from by rw [← HR.out]; unfold or2; rw [if_neg (by simp [H0.out (by omega)]), H1.out (by omega)])
      clear hj
      go_wp2_with fail
      go_ret
      exact ⟨by rw [HQ.out]; rfl, rfl⟩
set_option maxHeartbeats 4000000 in
theorem compare_any (a b a' b' : Int) (w : World) (r : Int) (hr : or2 (cI a a') (cI b b') = r) :
    Calls Try.prog 35 #[.agg #[.int .i64 a, .int .i64 b], .agg #[.int .i64 a', .int .i64 b']] w fun e w' => e = .returned (.int .i64 r) ∧ Below w.heap.size w w' := by
  obtain ⟨x, hx⟩ : ∃ x, cI a a' = x := ⟨_, rfl⟩
  obtain ⟨y, hy⟩ : ∃ y, cI b b' = y := ⟨_, rfl⟩
  have HR := hide (show or2 x y = r from by rw [← hr, hx, hy])
  have HX := hide hx
  have HY := hide hy
  clear hr hx hy
  go_enter Try.func35, Try.ntmps35
  go_wp2_with fail
  generalize hW : (w.alloc _).alloc _ = W
  obtain ⟨B, bx, by'⟩ := boxD hW
  clear hW
  have lx := bx.lt
  have ly := by'.lt
  have KS : Hid (∀ w', Below W.heap.size W w' → w'.cell? ⟨w.heap.size, 0, none⟩ = some (.int .i64 a) ∧ w'.cell? ⟨w.heap.size, 1, none⟩ = some (.int .i64 b) ∧ w'.cell? ⟨w.heap.size + 1, 0, none⟩ = some (.int .i64 a') ∧ w'.cell? ⟨w.heap.size + 1, 1, none⟩ = some (.int .i64 b')) := fun w' h => ⟨(bx.below h lx).at_ 0, (bx.below h lx).at_ 1, (by'.below h ly).at_ 0, (by'.below h ly).at_ 1⟩
  go_region_held3 (fun w' => w'.cell? ⟨w.heap.size, 0, none⟩ = some (.int .i64 a) ∧ w'.cell? ⟨w.heap.size, 1, none⟩ = some (.int .i64 b) ∧ w'.cell? ⟨w.heap.size + 1, 0, none⟩ = some (.int .i64 a') ∧ w'.cell? ⟨w.heap.size + 1, 1, none⟩ = some (.int .i64 b'))
    (exact KS.out _ (by ((repeat (first | (with_reducible assumption) | (with_reducible exact Below.refl _ _) | (with_reducible refine Below.drewS ?_) | (with_reducible refine Below.allocS ?_ _) | (with_reducible refine Below.setS ?_ (by first | omega | (simp; omega)) _))); (first | done | fail))))
    (first
      | (go_at_call_of 52 (Value.int IntKind.i64 a'); (with_reducible refine (cmp_any a a' _ x HX.out).mono ?_); rintro e w1 ⟨rfl, rfl⟩)
      | (go_at_call_of 52 (Value.int IntKind.i64 b'); (with_reducible refine (cmp_any b b' _ y HY.out).mono ?_); rintro e w1 ⟨rfl, rfl⟩)
      | (go_at_call 51; (with_reducible refine (or_any x y _ _ (by first | exact (Box.new _ _ _).at_ 0 | exact (newE _ _ _ (by first | rfl | (simp; done))).at_ 0 | (simp [go_sem]; done)) (by first | exact (Box.new _ _ _).at_ 1 | exact (newE _ _ _ (by first | rfl | (simp; done))).at_ 1 | (simp [go_sem]; done)) r HR.out).mono ?_); rintro e w1 ⟨rfl, rfl⟩))
  all_goals
    go_wp2_with fail
    go_ret
    exact ⟨rfl, B.trans (Below.mono (by ((repeat (first | (with_reducible assumption) | (with_reducible exact Below.refl _ _) | (with_reducible refine Below.drewS ?_) | (with_reducible refine Below.allocS ?_ _) | (with_reducible refine Below.setS ?_ (by first | omega | (simp; omega)) _))); (first | done | fail))) B.size)⟩
theorem cmp_lt (a b a' b' : Int) : ltA (a, b) (a', b') = decide (or2 (cI a a') (cI b b') < 0) := by
  unfold ltA
  rw [Bool.eq_iff_iff, decide_eq_true_iff, decide_eq_true_iff]
  unfold or2 cI
  simp only
  repeat' split
  all_goals omega
end Go.Proofs.Ytgmdfaamheblmaa
