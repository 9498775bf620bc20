/- Comparing labels: the program's and the reference's. -/
import Derived.Test.YtdoknlodnpeeoaaDoorLText
namespace Go.Proofs.YtdoknlodnpeeoaaDoor
open Go Go.RowKit Go.Lib

def cI (a b : Int) : Int := if a < b then -1 else if b < a then 1 else 0
theorem cI_lib (a b : Int) : Lib.compareInt a b = cI a b := by
  unfold Lib.compareInt cI
  rfl
/-- by side, then number, then state -/
def cL (a b c a' b' c' : Int) : Int := if cI a a' ≠ 0 then cI a a' else if cI b b' ≠ 0 then cI b b' else cI c c'
theorem cmp_any (a b : Int) (w : World) (r : Int) (hr : cI a b = r) : Calls Tryd.prog 38 #[.int .i64 a, .int .i64 b] w fun e w' => e = .returned (.int .i64 r) ∧ w = w' := by
  subst hr
  refine (Tryd.cmp_Compare_int a b w).mono ?_
  rintro e w' ⟨rfl, rfl⟩
  exact ⟨by rw [cI_lib], rfl⟩
set_option maxHeartbeats 1000000 in
theorem order_any (a b : Int) (w : World) (r : Int) (hr : cI a b = r) : Calls Tryd.prog 39 #[.int .i64 a, .int .i64 b] w fun e w' => e = .returned (.int .i64 r) ∧ w = w' := by
  have HR := hide hr
  unfold cI at hr
  by_cases h1 : a < b
  · obtain rfl : r = -1 := by rw [← hr, if_pos h1]
    have d1 : decide (a < b) = true := decide_eq_true h1
    clear hr HR
    go_enter Tryd.func39, Tryd.ntmps39
    go_wp2
    go_ret
    exact ⟨rfl, rfl⟩
  · have d1 : decide (a < b) = false := decide_eq_false h1
    by_cases h2 : b < a
    · obtain rfl : r = 1 := by rw [← hr, if_neg h1, if_pos h2]
      have d2 : decide (b < a) = true := decide_eq_true h2
      clear hr HR
      go_enter Tryd.func39, Tryd.ntmps39
      go_wp2
      go_ret
      exact ⟨rfl, rfl⟩
    · obtain rfl : r = 0 := by rw [← hr, if_neg h1, if_neg h2]
      have d2 : decide (b < a) = false := decide_eq_false h2
      clear hr HR
      go_enter Tryd.func39, Tryd.ntmps39
      go_wp2
      go_ret
      exact ⟨rfl, rfl⟩
/-- the first that is not 0 of three -/
def or3 (a b c : Int) : Int := if a ≠ 0 then a else if b ≠ 0 then b else c
theorem cL_or (a b c a' b' c' : Int) : cL a b c a' b' c' = or3 (cI a a') (cI b b') (cI c c') := rfl
set_option maxHeartbeats 1000000 in
theorem or_any (a b c : Int) (w : World) (g : Nat) (k0 : w.cell? ⟨g, 0, none⟩ = some (.int .i64 a)) (k1 : w.cell? ⟨g, 1, none⟩ = some (.int .i64 b)) (k2 : w.cell? ⟨g, 2, none⟩ = some (.int .i64 c)) (r : Int) (hr : or3 a b c = r) :
    Calls Tryd.prog 37 #[.slice (some ⟨g, 0, none⟩) 3 3] w fun e w' => e = .returned (.int .i64 r) ∧ w = w' := by
  have HR := hide hr
  clear hr
  go_enter Tryd.func37, Tryd.ntmps37
  go_wp2_with fail
  go_loopg [8] 3 (fun gk i wr => ∃ j : Nat, j + gk = 3 ∧ i = .int .i64 (j : Int) ∧ w = wr ∧ (0 < j → a = 0) ∧ (1 < j → b = 0) ∧ (2 < j → c = 0))
  case atStart => exact ⟨0, by omega, rfl, rfl, fun h => by omega, fun h => by omega, fun h => by omega⟩
  case round =>
    obtain ⟨j, hj, rfl, rfl, h0, h1, h2⟩ := hrel
    have hc : j = 0 ∨ j = 1 ∨ j = 2 ∨ j = 3 := by omega
    have H0 := hide h0
    have H1 := hide h1
    have H2 := hide h2
    clear h0 h1 h2
    rcases hc with rfl | rfl | rfl | rfl
    · obtain rfl : gk = 3 := by omega
      by_cases hz : a = 0
      · have e0 : (a == 0) = true := beq_iff_eq.2 hz
        have HZ := hide hz
        clear hz hj
        go_wp2_with fail
        go_roundg 2
        case measure => omega
        case rel => exact ⟨1, by omega, by go_num, rfl, fun _ => HZ.out, fun h => by omega, fun h => by omega⟩
      · have e0 : (a == 0) = false := beq_eq_false_iff_ne.2 hz
        have HQ := hide (show a = r from by rw [← HR.out]; unfold or3; rw [if_pos hz])
        clear hj
        go_wp2_with fail
        go_ret
        exact ⟨by rw [HQ.out]; rfl, rfl⟩
    · obtain rfl : gk = 2 := by omega
      have HA := hide (H0.out (by omega))
      by_cases hz : b = 0
      · have e0 : (b == 0) = true := beq_iff_eq.2 hz
        have HZ := hide hz
        clear hz hj
        go_wp2_with fail
        go_roundg 1
        case measure => omega
        case rel => exact ⟨2, by omega, by go_num, rfl, fun _ => HA.out, fun _ => HZ.out, fun h => by omega⟩
      · have e0 : (b == 0) = false := beq_eq_false_iff_ne.2 hz
        have HQ := hide (show b = r from by rw [← HR.out]; unfold or3; rw [if_neg (by simp [HA.out]), if_pos hz])
        clear hj
        go_wp2_with fail
        go_ret
        exact ⟨by rw [HQ.out]; rfl, rfl⟩
    · obtain rfl : gk = 1 := by omega
      have HA := hide (H0.out (by omega))
      have HA2 := hide (H1.out (by omega))
      by_cases hz : c = 0
      · have e0 : (c == 0) = true := beq_iff_eq.2 hz
        have HZ := hide hz
        clear hz hj
        go_wp2_with fail
        go_roundg 0
        case measure => omega
        case rel => exact ⟨3, by omega, by go_num, rfl, fun _ => HA.out, fun _ => HA2.out, fun _ => HZ.out⟩
      · have e0 : (c == 0) = false := beq_eq_false_iff_ne.2 hz
        have HQ := hide (show c = r from by rw [← HR.out]; unfold or3; rw [if_neg (by simp [HA.out]), if_neg (by simp [HA2.out])])
        clear hj
        go_wp2_with fail
        go_ret
        exact ⟨by rw [HQ.out]; rfl, rfl⟩
    · obtain rfl : gk = 0 := by omega
      have HQ := hide (show (0 : Int) = r from by rw [← HR.out]; unfold or3; rw [if_neg (by simp [H0.out (by omega)]), if_neg (by simp [H1.out (by omega)]), H2.out (by omega)])
      clear hj
      go_wp2_with fail
      go_ret
      exact ⟨by rw [HQ.out]; rfl, rfl⟩
theorem newE {g : Nat} (w : World) (vs : Array Value) (t : TypeId) (e : g = w.heap.size) : Box (w.alloc (.cells vs t)) g vs t := by
  subst e; exact Box.new _ _ _
theorem boxD {w W : World} {c0 c1 : Array Value} {t0 t1 : TypeId} (hW : (w.alloc (.cells c0 t0)).alloc (.cells c1 t1) = W) :
    Below w.heap.size w W ∧ Box W w.heap.size c0 t0 ∧ Box W (w.heap.size + 1) c1 t1 := by
  obtain ⟨a, b, c⟩ := boxC (rfl : w.alloc (.cells c0 t0) = _)
  generalize w.alloc (.cells c0 t0) = V at *
  subst hW
  refine ⟨a.alloc (by omega) _, b.alloc _, ?_⟩
  rw [← c]; exact Box.new _ _ _
set_option maxHeartbeats 4000000 in
theorem compare_any (a b c a' b' c' : Int) (w : World) (r : Int) (hr : cL a b c a' b' c' = r) :
    Calls Tryd.prog 18 #[.agg #[.int .i64 a, .int .i64 b, .int .i64 c], .agg #[.int .i64 a', .int .i64 b', .int .i64 c']] w fun e w' => e = .returned (.int .i64 r) ∧ Below w.heap.size w w' := by
  obtain ⟨x, hx⟩ : ∃ x, cI a a' = x := ⟨_, rfl⟩
  obtain ⟨y, hy⟩ : ∃ y, cI b b' = y := ⟨_, rfl⟩
  obtain ⟨z, hz⟩ : ∃ z, cI c c' = z := ⟨_, rfl⟩
  have HR := hide (show or3 x y z = r from by rw [← hr, cL_or, hx, hy, hz])
  have HX := hide hx
  have HY := hide hy
  have HZ := hide hz
  clear hr hx hy hz
  go_enter Tryd.func18, Tryd.ntmps18
  go_wp2_with fail
  generalize hW : (w.alloc _).alloc _ = W
  obtain ⟨B, bx, by'⟩ := boxD hW
  clear hW
  have lx := bx.lt
  have ly := by'.lt
  have KS : Hid (∀ w', Below W.heap.size W w' → w'.cell? ⟨w.heap.size, 0, none⟩ = some (.int .i64 a) ∧ w'.cell? ⟨w.heap.size, 1, none⟩ = some (.int .i64 b) ∧ w'.cell? ⟨w.heap.size, 2, none⟩ = some (.int .i64 c) ∧ w'.cell? ⟨w.heap.size + 1, 0, none⟩ = some (.int .i64 a') ∧ w'.cell? ⟨w.heap.size + 1, 1, none⟩ = some (.int .i64 b') ∧ w'.cell? ⟨w.heap.size + 1, 2, none⟩ = some (.int .i64 c')) := fun w' h => ⟨(bx.below h lx).at_ 0, (bx.below h lx).at_ 1, (bx.below h lx).at_ 2, (by'.below h ly).at_ 0, (by'.below h ly).at_ 1, (by'.below h ly).at_ 2⟩
  go_region_held3 (fun w' => w'.cell? ⟨w.heap.size, 0, none⟩ = some (.int .i64 a) ∧ w'.cell? ⟨w.heap.size, 1, none⟩ = some (.int .i64 b) ∧ w'.cell? ⟨w.heap.size, 2, none⟩ = some (.int .i64 c) ∧ w'.cell? ⟨w.heap.size + 1, 0, none⟩ = some (.int .i64 a') ∧ w'.cell? ⟨w.heap.size + 1, 1, none⟩ = some (.int .i64 b') ∧ w'.cell? ⟨w.heap.size + 1, 2, none⟩ = some (.int .i64 c'))
    (exact KS.out _ (by ((repeat (first | (with_reducible assumption) | (with_reducible exact Below.refl _ _) | (with_reducible refine Below.drewS ?_) | (with_reducible refine Below.allocS ?_ _) | (with_reducible refine Below.setS ?_ (by first | omega | (simp; omega)) _))); (first | done | fail))))
    (first
      | (go_at_call_of 38 (Value.int IntKind.i64 a'); (with_reducible refine (cmp_any a a' _ x HX.out).mono ?_); rintro e w1 ⟨rfl, rfl⟩)
      | (go_at_call_of 38 (Value.int IntKind.i64 b'); (with_reducible refine (cmp_any b b' _ y HY.out).mono ?_); rintro e w1 ⟨rfl, rfl⟩)
      | (go_at_call_of 38 (Value.int IntKind.i64 c'); (with_reducible refine (cmp_any c c' _ z HZ.out).mono ?_); rintro e w1 ⟨rfl, rfl⟩)
      | (go_at_call 37; (with_reducible refine (or_any x y z _ _ (by first | exact (Box.new _ _ _).at_ 0 | exact (newE _ _ _ (by first | rfl | (simp; done))).at_ 0 | (simp [go_sem]; done)) (by first | exact (Box.new _ _ _).at_ 1 | exact (newE _ _ _ (by first | rfl | (simp; done))).at_ 1 | (simp [go_sem]; done)) (by first | exact (Box.new _ _ _).at_ 2 | exact (newE _ _ _ (by first | rfl | (simp; done))).at_ 2 | (simp [go_sem]; done)) r HR.out).mono ?_); rintro e w1 ⟨rfl, rfl⟩))
  all_goals
    go_wp2_with fail
    go_ret
    exact ⟨rfl, B.trans (Below.mono (by ((repeat (first | (with_reducible assumption) | (with_reducible exact Below.refl _ _) | (with_reducible refine Below.drewS ?_) | (with_reducible refine Below.allocS ?_ _) | (with_reducible refine Below.setS ?_ (by first | omega | (simp; omega)) _))); (first | done | fail))) B.size)⟩
set_option maxHeartbeats 2000000 in
theorem rcomp_a (a b c a' b' c' : Int) (w : World) (h : a ≠ a') (r : Int) (hr : cI a a' = r) :
    Calls Tryd.prog 19 #[.agg #[.int .i64 a, .int .i64 b, .int .i64 c], .agg #[.int .i64 a', .int .i64 b', .int .i64 c']] w fun e w' => e = .returned (.int .i64 r) ∧ Below w.heap.size w w' := by
  have HR := hide hr
  clear hr
  have e0 : (a == a') = false := beq_eq_false_iff_ne.2 h
  go_enter Tryd.func19, Tryd.ntmps19
  go_wp2_with fail
  refine (order_any a a' _ r HR.out).mono ?_
  rintro e w1 ⟨rfl, rfl⟩
  go_wp2_with fail
  go_ret
  exact ⟨rfl, ((Below.refl _ _).alloc (Nat.le_refl _) _).alloc (by simp) _⟩
set_option maxHeartbeats 2000000 in
theorem rcomp_b (a b c a' b' c' : Int) (w : World) (h : a = a') (h2 : b ≠ b') (r : Int) (hr : cI b b' = r) :
    Calls Tryd.prog 19 #[.agg #[.int .i64 a, .int .i64 b, .int .i64 c], .agg #[.int .i64 a', .int .i64 b', .int .i64 c']] w fun e w' => e = .returned (.int .i64 r) ∧ Below w.heap.size w w' := by
  have HR := hide hr
  clear hr
  subst h
  have e0 : (b == b') = false := beq_eq_false_iff_ne.2 h2
  go_enter Tryd.func19, Tryd.ntmps19
  go_wp2_with fail
  refine (order_any b b' _ r HR.out).mono ?_
  rintro e w1 ⟨rfl, rfl⟩
  go_wp2_with fail
  go_ret
  exact ⟨rfl, ((Below.refl _ _).alloc (Nat.le_refl _) _).alloc (by simp) _⟩
set_option maxHeartbeats 2000000 in
theorem rcomp_c (a b c a' b' c' : Int) (w : World) (h : a = a') (h2 : b = b') (r : Int) (hr : cI c c' = r) :
    Calls Tryd.prog 19 #[.agg #[.int .i64 a, .int .i64 b, .int .i64 c], .agg #[.int .i64 a', .int .i64 b', .int .i64 c']] w fun e w' => e = .returned (.int .i64 r) ∧ Below w.heap.size w w' := by
  have HR := hide hr
  clear hr
  subst h
  subst h2
  go_enter Tryd.func19, Tryd.ntmps19
  go_wp2_with fail
  refine (order_any c c' _ r HR.out).mono ?_
  rintro e w1 ⟨rfl, rfl⟩
  go_wp2_with fail
  go_ret
  exact ⟨rfl, ((Below.refl _ _).alloc (Nat.le_refl _) _).alloc (by simp) _⟩
theorem cI_zero {a b : Int} : cI a b = 0 ↔ a = b := by
  unfold cI
  split
  · constructor
    · intro h; cases h
    · intro h; omega
  · split
    · constructor
      · intro h; cases h
      · intro h; omega
    · constructor
      · intro _; omega
      · intro _; rfl
theorem rcomp_any (a b c a' b' c' : Int) (w : World) (r : Int) (hr : cL a b c a' b' c' = r) :
    Calls Tryd.prog 19 #[.agg #[.int .i64 a, .int .i64 b, .int .i64 c], .agg #[.int .i64 a', .int .i64 b', .int .i64 c']] w fun e w' => e = .returned (.int .i64 r) ∧ Below w.heap.size w w' := by
  unfold cL at hr
  by_cases h : a = a'
  · rw [if_neg (by simp [cI_zero.2 h])] at hr
    by_cases h2 : b = b'
    · rw [if_neg (by simp [cI_zero.2 h2])] at hr
      exact rcomp_c a b c a' b' c' w h h2 r hr
    · rw [if_pos fun e => h2 (cI_zero.1 e)] at hr
      exact rcomp_b a b c a' b' c' w h h2 r hr
  · rw [if_pos fun e => h (cI_zero.1 e)] at hr
    exact rcomp_a a b c a' b' c' w h r hr
end Go.Proofs.YtdoknlodnpeeoaaDoor
