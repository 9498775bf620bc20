/- Validity of specimens, the program's and the reference's. -/
import Derived.Test.YtaapcfflnklpjaaGreatDoorSE
import Derived.Deep.RegionHeld3
import Derived.StillTailTactics
namespace Go.Proofs.YtaapcfflnklpjaaGreatDoor
open Go Go.RowKit Go.Lib
theorem nxt {w W W' : World} (h : Below w.heap.size w W) (k : Below W.heap.size W W') : Below w.heap.size w W' := Below.next h k
/-- the cells of a specimen's box -/
def C7 (w : World) (g : Nat) (x : Spc) : Prop := w.cell? ⟨g, 0, none⟩ = some (.int .i64 x.i) ∧ w.cell? ⟨g, 1, none⟩ = some (.int .i64 x.o) ∧ w.cell? ⟨g, 2, none⟩ = some (.int .i64 x.r) ∧ w.cell? ⟨g, 3, none⟩ = some (.int .i64 x.a) ∧ w.cell? ⟨g, 4, none⟩ = some (.int .i64 x.b) ∧ w.cell? ⟨g, 5, none⟩ = some (.int .i64 x.h) ∧ w.cell? ⟨g, 6, none⟩ = some (.int .i64 x.m)
theorem C7.of {w : World} {g : Nat} {x : Spc} {t : TypeId} (h : Box w g #[.int .i64 x.i, .int .i64 x.o, .int .i64 x.r, .int .i64 x.a, .int .i64 x.b, .int .i64 x.h, .int .i64 x.m] t) : C7 w g x := ⟨h.at_ 0, h.at_ 1, h.at_ 2, h.at_ 3, h.at_ 4, h.at_ 5, h.at_ 6⟩
theorem box7 {w W : World} {x : Spc} {t : TypeId} (hW : w.alloc (.cells #[.int .i64 x.i, .int .i64 x.o, .int .i64 x.r, .int .i64 x.a, .int .i64 x.b, .int .i64 x.h, .int .i64 x.m] t) = W) : Below w.heap.size w W ∧ W.heap.size = w.heap.size + 1 ∧ ∀ w', Below W.heap.size W w' → C7 w' w.heap.size x := by
  subst hW
  refine ⟨(Below.refl _ _).alloc (Nat.le_refl _) _, by simp, fun w' h => C7.of ((Box.new w _ _).below' h)⟩
set_option maxHeartbeats 1000000 in
theorem dies_any (x : Spc) (w : World) :
    Calls Tryz.prog 38 #[.agg #[.int .i64 x.i, .int .i64 x.o, .int .i64 x.r, .int .i64 x.a, .int .i64 x.b, .int .i64 x.h, .int .i64 x.m]] w fun e w' => e = .returned (.tuple #[.agg #[.int .i64 0, .int .i64 x.o, .int .i64 x.a], .agg #[.int .i64 1, .int .i64 x.r, .int .i64 x.b]]) ∧ Below w.heap.size w w' := by
  go_enter Tryz.func38, Tryz.ntmps38
  go_wp2_with fail
  go_region
  all_goals
    go_wp2_with fail
    refine bodyPost_ret (v := .tuple #[.agg #[.int .i64 0, .int .i64 x.o, .int .i64 x.a], .agg #[.int .i64 1, .int .i64 x.r, .int .i64 x.b]]) (by simp [results, Tryz.results38, go_sem]) rfl ?_
    refine ⟨rfl, ?_⟩
    exact ((((Below.refl _ _).alloc (Nat.le_refl _) _).alloc (by simp) _).alloc (by simp; omega) _).drew
theorem hs_false {s n t : Int} (h : lB s n t = false) : (lB s n t && decide (0 < t)) = false := by rw [h]; rfl
set_option maxHeartbeats 1000000 in
theorem has_no (s n t : Int) (w : World) (h : lB s n t = false) :
    Calls Tryz.prog 43 #[.agg #[.int .i64 s, .int .i64 n, .int .i64 t]] w fun e w' => e = .returned (.bool false) ∧ Below w.heap.size w w' := by
  have H := hide h
  clear h
  go_enter Tryz.func43, Tryz.ntmps43
  go_wp2_with fail
  refine (valid_any s n t _ false H.out).mono ?_
  rintro e w1 ⟨rfl, E1⟩
  go_wp2_with fail
  go_ret
  exact ⟨rfl, ((Below.refl _ _).alloc (Nat.le_refl _) _).trans (E1.mono (by simp))⟩
set_option maxHeartbeats 1000000 in
theorem has_yes (s n t : Int) (w : World) (h : lB s n t = true) (v : Bool) (hv : decide (0 < t) = v) :
    Calls Tryz.prog 43 #[.agg #[.int .i64 s, .int .i64 n, .int .i64 t]] w fun e w' => e = .returned (.bool v) ∧ Below w.heap.size w w' := by
  have H := hide h
  clear h
  go_enter Tryz.func43, Tryz.ntmps43
  go_wp2_with fail
  generalize hW : w.alloc _ = W
  have hB : Below w.heap.size w W := by rw [← hW]; exact (Below.refl _ _).alloc (Nat.le_refl _) _
  have hb : Box W w.heap.size #[.int .i64 s, .int .i64 n, .int .i64 t] 55 := by rw [← hW]; exact Box.new _ _ _
  clear hW
  have k0 := hb.at_ 0
  have k1 := hb.at_ 1
  have k2 := hb.at_ 2
  simp at k0 k1 k2
  go_wp2_with fail
  clear k0 k1 k2
  refine (valid_any s n t _ true H.out).mono ?_
  rintro e w1 ⟨rfl, E1⟩
  have k2 := (hb.below' E1).at_ 2
  simp at k2
  go_wp2_with fail
  go_ret
  exact ⟨by rw [← hv]; rfl, hB.trans (E1.mono hB.size)⟩
theorem has_any (s n t : Int) (w : World) (v : Bool) (hv : (lB s n t && decide (0 < t)) = v) :
    Calls Tryz.prog 43 #[.agg #[.int .i64 s, .int .i64 n, .int .i64 t]] w fun e w' => e = .returned (.bool v) ∧ Below w.heap.size w w' := by
  subst hv
  cases h : lB s n t
  · exact has_no s n t w h
  · exact (has_yes s n t w h _ rfl).mono fun _ _ h => h
theorem has_lab (s n t : Int) (hs : s = 0 ∨ s = 1) : (lB s n t && decide (0 < t)) = decide ((1 ≤ n ∧ n ≤ 999) ∧ 1 ≤ t ∧ t ≤ 9) := by
  unfold lB
  rw [← Bool.decide_and]
  exact decide_eq_decide.2 (by omega)
theorem vS_no {x : Spc} (h : ¬((1 ≤ x.i ∧ x.i ≤ 9999) ∧ (1 ≤ x.o ∧ x.o ≤ 999) ∧ (1 ≤ x.r ∧ x.r ≤ 999) ∧ (1 ≤ x.a ∧ x.a ≤ 9) ∧ (1 ≤ x.b ∧ x.b ≤ 9) ∧ (0 ≤ x.h ∧ x.h ≤ 11) ∧ (1 ≤ x.m ∧ x.m ≤ 200000))) : vS x = false := by
  cases hv : vS x
  · rfl
  · exact absurd (vS_true.1 hv) h
theorem box33 {w W : World} {a0 a1 a2 b0 b1 b2 : Value} {t : TypeId} (hW : (w.alloc (.cells #[a0, a1, a2] t)).alloc (.cells #[b0, b1, b2] t) = W) : Below w.heap.size w W ∧ ∀ w', Below W.heap.size W w' →
    w'.cell? ⟨w.heap.size, 0, none⟩ = some a0 ∧ w'.cell? ⟨w.heap.size, 1, none⟩ = some a1 ∧ w'.cell? ⟨w.heap.size, 2, none⟩ = some a2 ∧ w'.cell? ⟨w.heap.size + 1, 0, none⟩ = some b0 ∧ w'.cell? ⟨w.heap.size + 1, 1, none⟩ = some b1 ∧ w'.cell? ⟨w.heap.size + 1, 2, none⟩ = some b2 := by
  subst hW
  refine ⟨((Below.refl _ _).alloc (Nat.le_refl _) _).alloc (by simp) _, fun w' h => ?_⟩
  have e1 := ((Box.new w #[a0, a1, a2] t).alloc (.cells #[b0, b1, b2] t)).below' h
  have e2 := Box.new (w.alloc (.cells #[a0, a1, a2] t)) #[b0, b1, b2] t
  rw [World.size_alloc] at e2
  have e2 := e2.below' h
  exact ⟨e1.at_ 0, e1.at_ 1, e1.at_ 2, e2.at_ 0, e2.at_ 1, e2.at_ 2⟩
set_option maxHeartbeats 2000000 in
theorem valid9_0 (x : Spc) (w : World) (h0 : ¬ 1 ≤ x.i) :
    Calls Tryz.prog 14 #[.agg #[.int .i64 x.i, .int .i64 x.o, .int .i64 x.r, .int .i64 x.a, .int .i64 x.b, .int .i64 x.h, .int .i64 x.m]] w fun e w' => e = .returned (.bool false) ∧ Below w.heap.size w w' := by
  have d0 : decide (1 ≤ x.i) = false := decide_eq_false h0
  clear h0
  go_enter Tryz.func14, Tryz.ntmps14
  go_wp2_with fail
  generalize hW : w.alloc _ = W
  obtain ⟨B, hz, hk⟩ := box7 hW
  have KS := hide hk
  clear hW hk
  obtain ⟨k0, k1, k2, k3, k4, k5, k6⟩ := KS.out _ (Below.refl _ _)
  go_wp2_with fail
  clear k0 k1 k2 k3 k4 k5 k6
  refine (dies_any x _).mono ?_
  rintro e w1 ⟨rfl, E1⟩
  obtain ⟨k0, k1, k2, k3, k4, k5, k6⟩ := KS.out _ (E1.alloc E1.size (.cells #[.int .i64 0, .int .i64 x.o, .int .i64 x.a] 55) |>.alloc (by simp; have := E1.size; omega) (.cells #[.int .i64 1, .int .i64 x.r, .int .i64 x.b] 55))
  go_wp2_with fail
  go_ret
  exact ⟨rfl, nxt (nxt B E1) (((Below.refl _ _).alloc (Nat.le_refl _) _).alloc (by simp) _)⟩
set_option maxHeartbeats 2000000 in
theorem valid9_1 (x : Spc) (w : World) (h0 : 1 ≤ x.i) (h1 : ¬ x.i ≤ 9999) :
    Calls Tryz.prog 14 #[.agg #[.int .i64 x.i, .int .i64 x.o, .int .i64 x.r, .int .i64 x.a, .int .i64 x.b, .int .i64 x.h, .int .i64 x.m]] w fun e w' => e = .returned (.bool false) ∧ Below w.heap.size w w' := by
  have d0 : decide (1 ≤ x.i) = true := decide_eq_true h0
  clear h0
  have d1 : decide (x.i ≤ 9999) = false := decide_eq_false h1
  clear h1
  go_enter Tryz.func14, Tryz.ntmps14
  go_wp2_with fail
  generalize hW : w.alloc _ = W
  obtain ⟨B, hz, hk⟩ := box7 hW
  have KS := hide hk
  clear hW hk
  obtain ⟨k0, k1, k2, k3, k4, k5, k6⟩ := KS.out _ (Below.refl _ _)
  go_wp2_with fail
  clear k0 k1 k2 k3 k4 k5 k6
  refine (dies_any x _).mono ?_
  rintro e w1 ⟨rfl, E1⟩
  obtain ⟨k0, k1, k2, k3, k4, k5, k6⟩ := KS.out _ (E1.alloc E1.size (.cells #[.int .i64 0, .int .i64 x.o, .int .i64 x.a] 55) |>.alloc (by simp; have := E1.size; omega) (.cells #[.int .i64 1, .int .i64 x.r, .int .i64 x.b] 55))
  go_wp2_with fail
  go_ret
  exact ⟨rfl, nxt (nxt B E1) (((Below.refl _ _).alloc (Nat.le_refl _) _).alloc (by simp) _)⟩
set_option maxHeartbeats 2000000 in
theorem valid9_2 (x : Spc) (w : World) (h0 : 1 ≤ x.i) (h1 : x.i ≤ 9999) (h2 : (lB 0 x.o x.a && decide (0 < x.a)) = false) :
    Calls Tryz.prog 14 #[.agg #[.int .i64 x.i, .int .i64 x.o, .int .i64 x.r, .int .i64 x.a, .int .i64 x.b, .int .i64 x.h, .int .i64 x.m]] w fun e w' => e = .returned (.bool false) ∧ Below w.heap.size w w' := by
  have d0 : decide (1 ≤ x.i) = true := decide_eq_true h0
  clear h0
  have d1 : decide (x.i ≤ 9999) = true := decide_eq_true h1
  clear h1
  have H2 := hide h2
  clear h2
  go_enter Tryz.func14, Tryz.ntmps14
  go_wp2_with fail
  generalize hW : w.alloc _ = W
  obtain ⟨B, hz, hk⟩ := box7 hW
  have KS := hide hk
  clear hW hk
  obtain ⟨k0, k1, k2, k3, k4, k5, k6⟩ := KS.out _ (Below.refl _ _)
  go_wp2_with fail
  clear k0 k1 k2 k3 k4 k5 k6
  refine (dies_any x _).mono ?_
  rintro e w1 ⟨rfl, E1⟩
  obtain ⟨k0, k1, k2, k3, k4, k5, k6⟩ := KS.out _ (E1.alloc E1.size (.cells #[.int .i64 0, .int .i64 x.o, .int .i64 x.a] 55) |>.alloc (by simp; have := E1.size; omega) (.cells #[.int .i64 1, .int .i64 x.r, .int .i64 x.b] 55))
  go_wp2_with fail
  clear k0 k1 k2 k3 k4 k5 k6
  generalize hW2 : (w1.alloc _).alloc _ = W2
  obtain ⟨B1, hk⟩ := box33 hW2
  have E2 := nxt E1 B1
  have KS2 := hide (fun w' (h : Below W2.heap.size W2 w') => And.intro (KS.out w' (nxt E2 h)) (hk w' h))
  clear hW2 hk KS
  refine (has_any 0 x.o x.a _ false H2.out).mono ?_
  rintro e w3 ⟨rfl, E3⟩
  obtain ⟨⟨k0, k1, k2, k3, k4, k5, k6⟩, m0, m1, m2, n0, n1, n2⟩ := KS2.out _ E3
  go_wp2_with fail
  go_ret
  exact ⟨rfl, nxt (nxt B E2) E3⟩
set_option maxHeartbeats 2000000 in
theorem valid9_3 (x : Spc) (w : World) (h0 : 1 ≤ x.i) (h1 : x.i ≤ 9999) (h2 : (lB 0 x.o x.a && decide (0 < x.a)) = true) (h3 : (lB 1 x.r x.b && decide (0 < x.b)) = false) :
    Calls Tryz.prog 14 #[.agg #[.int .i64 x.i, .int .i64 x.o, .int .i64 x.r, .int .i64 x.a, .int .i64 x.b, .int .i64 x.h, .int .i64 x.m]] w fun e w' => e = .returned (.bool false) ∧ Below w.heap.size w w' := by
  have d0 : decide (1 ≤ x.i) = true := decide_eq_true h0
  clear h0
  have d1 : decide (x.i ≤ 9999) = true := decide_eq_true h1
  clear h1
  have H2 := hide h2
  clear h2
  have H3 := hide h3
  clear h3
  go_enter Tryz.func14, Tryz.ntmps14
  go_wp2_with fail
  generalize hW : w.alloc _ = W
  obtain ⟨B, hz, hk⟩ := box7 hW
  have KS := hide hk
  clear hW hk
  obtain ⟨k0, k1, k2, k3, k4, k5, k6⟩ := KS.out _ (Below.refl _ _)
  go_wp2_with fail
  clear k0 k1 k2 k3 k4 k5 k6
  refine (dies_any x _).mono ?_
  rintro e w1 ⟨rfl, E1⟩
  obtain ⟨k0, k1, k2, k3, k4, k5, k6⟩ := KS.out _ (E1.alloc E1.size (.cells #[.int .i64 0, .int .i64 x.o, .int .i64 x.a] 55) |>.alloc (by simp; have := E1.size; omega) (.cells #[.int .i64 1, .int .i64 x.r, .int .i64 x.b] 55))
  go_wp2_with fail
  clear k0 k1 k2 k3 k4 k5 k6
  generalize hW2 : (w1.alloc _).alloc _ = W2
  obtain ⟨B1, hk⟩ := box33 hW2
  have E2 := nxt E1 B1
  have KS2 := hide (fun w' (h : Below W2.heap.size W2 w') => And.intro (KS.out w' (nxt E2 h)) (hk w' h))
  clear hW2 hk KS
  refine (has_any 0 x.o x.a _ true H2.out).mono ?_
  rintro e w3 ⟨rfl, E3⟩
  obtain ⟨⟨k0, k1, k2, k3, k4, k5, k6⟩, m0, m1, m2, n0, n1, n2⟩ := KS2.out _ E3
  go_wp2_with fail
  clear k0 k1 k2 k3 k4 k5 k6 m0 m1 m2 n0 n1 n2
  have z3 := E3.size
  refine (has_any 1 x.r x.b _ false H3.out).mono ?_
  rintro e w4 ⟨rfl, hb4⟩
  have E4 : Below W2.heap.size W2 w4 := nxt E3 hb4
  obtain ⟨⟨k0, k1, k2, k3, k4, k5, k6⟩, m0, m1, m2, n0, n1, n2⟩ := KS2.out _ E4
  go_wp2_with fail
  go_ret
  exact ⟨rfl, nxt (nxt B E2) E4⟩
set_option maxHeartbeats 2000000 in
theorem valid9_4 (x : Spc) (w : World) (h0 : 1 ≤ x.i) (h1 : x.i ≤ 9999) (h2 : (lB 0 x.o x.a && decide (0 < x.a)) = true) (h3 : (lB 1 x.r x.b && decide (0 < x.b)) = true) (h4 : ¬ 0 ≤ x.h) :
    Calls Tryz.prog 14 #[.agg #[.int .i64 x.i, .int .i64 x.o, .int .i64 x.r, .int .i64 x.a, .int .i64 x.b, .int .i64 x.h, .int .i64 x.m]] w fun e w' => e = .returned (.bool false) ∧ Below w.heap.size w w' := by
  have d0 : decide (1 ≤ x.i) = true := decide_eq_true h0
  clear h0
  have d1 : decide (x.i ≤ 9999) = true := decide_eq_true h1
  clear h1
  have H2 := hide h2
  clear h2
  have H3 := hide h3
  clear h3
  have d4 : decide (0 ≤ x.h) = false := decide_eq_false h4
  clear h4
  go_enter Tryz.func14, Tryz.ntmps14
  go_wp2_with fail
  generalize hW : w.alloc _ = W
  obtain ⟨B, hz, hk⟩ := box7 hW
  have KS := hide hk
  clear hW hk
  obtain ⟨k0, k1, k2, k3, k4, k5, k6⟩ := KS.out _ (Below.refl _ _)
  go_wp2_with fail
  clear k0 k1 k2 k3 k4 k5 k6
  refine (dies_any x _).mono ?_
  rintro e w1 ⟨rfl, E1⟩
  obtain ⟨k0, k1, k2, k3, k4, k5, k6⟩ := KS.out _ (E1.alloc E1.size (.cells #[.int .i64 0, .int .i64 x.o, .int .i64 x.a] 55) |>.alloc (by simp; have := E1.size; omega) (.cells #[.int .i64 1, .int .i64 x.r, .int .i64 x.b] 55))
  go_wp2_with fail
  clear k0 k1 k2 k3 k4 k5 k6
  generalize hW2 : (w1.alloc _).alloc _ = W2
  obtain ⟨B1, hk⟩ := box33 hW2
  have E2 := nxt E1 B1
  have KS2 := hide (fun w' (h : Below W2.heap.size W2 w') => And.intro (KS.out w' (nxt E2 h)) (hk w' h))
  clear hW2 hk KS
  refine (has_any 0 x.o x.a _ true H2.out).mono ?_
  rintro e w3 ⟨rfl, E3⟩
  obtain ⟨⟨k0, k1, k2, k3, k4, k5, k6⟩, m0, m1, m2, n0, n1, n2⟩ := KS2.out _ E3
  go_wp2_with fail
  clear k0 k1 k2 k3 k4 k5 k6 m0 m1 m2 n0 n1 n2
  have z3 := E3.size
  refine (has_any 1 x.r x.b _ true H3.out).mono ?_
  rintro e w4 ⟨rfl, hb4⟩
  have E4 : Below W2.heap.size W2 w4 := nxt E3 hb4
  obtain ⟨⟨k0, k1, k2, k3, k4, k5, k6⟩, m0, m1, m2, n0, n1, n2⟩ := KS2.out _ E4
  go_wp2_with fail
  go_ret
  exact ⟨rfl, nxt (nxt B E2) E4⟩
set_option maxHeartbeats 2000000 in
theorem valid9_5 (x : Spc) (w : World) (h0 : 1 ≤ x.i) (h1 : x.i ≤ 9999) (h2 : (lB 0 x.o x.a && decide (0 < x.a)) = true) (h3 : (lB 1 x.r x.b && decide (0 < x.b)) = true) (h4 : 0 ≤ x.h) (h5 : ¬ x.h < 12) :
    Calls Tryz.prog 14 #[.agg #[.int .i64 x.i, .int .i64 x.o, .int .i64 x.r, .int .i64 x.a, .int .i64 x.b, .int .i64 x.h, .int .i64 x.m]] w fun e w' => e = .returned (.bool false) ∧ Below w.heap.size w w' := by
  have d0 : decide (1 ≤ x.i) = true := decide_eq_true h0
  clear h0
  have d1 : decide (x.i ≤ 9999) = true := decide_eq_true h1
  clear h1
  have H2 := hide h2
  clear h2
  have H3 := hide h3
  clear h3
  have d4 : decide (0 ≤ x.h) = true := decide_eq_true h4
  clear h4
  have d5 : decide (x.h < 12) = false := decide_eq_false h5
  clear h5
  go_enter Tryz.func14, Tryz.ntmps14
  go_wp2_with fail
  generalize hW : w.alloc _ = W
  obtain ⟨B, hz, hk⟩ := box7 hW
  have KS := hide hk
  clear hW hk
  obtain ⟨k0, k1, k2, k3, k4, k5, k6⟩ := KS.out _ (Below.refl _ _)
  go_wp2_with fail
  clear k0 k1 k2 k3 k4 k5 k6
  refine (dies_any x _).mono ?_
  rintro e w1 ⟨rfl, E1⟩
  obtain ⟨k0, k1, k2, k3, k4, k5, k6⟩ := KS.out _ (E1.alloc E1.size (.cells #[.int .i64 0, .int .i64 x.o, .int .i64 x.a] 55) |>.alloc (by simp; have := E1.size; omega) (.cells #[.int .i64 1, .int .i64 x.r, .int .i64 x.b] 55))
  go_wp2_with fail
  clear k0 k1 k2 k3 k4 k5 k6
  generalize hW2 : (w1.alloc _).alloc _ = W2
  obtain ⟨B1, hk⟩ := box33 hW2
  have E2 := nxt E1 B1
  have KS2 := hide (fun w' (h : Below W2.heap.size W2 w') => And.intro (KS.out w' (nxt E2 h)) (hk w' h))
  clear hW2 hk KS
  refine (has_any 0 x.o x.a _ true H2.out).mono ?_
  rintro e w3 ⟨rfl, E3⟩
  obtain ⟨⟨k0, k1, k2, k3, k4, k5, k6⟩, m0, m1, m2, n0, n1, n2⟩ := KS2.out _ E3
  go_wp2_with fail
  clear k0 k1 k2 k3 k4 k5 k6 m0 m1 m2 n0 n1 n2
  have z3 := E3.size
  refine (has_any 1 x.r x.b _ true H3.out).mono ?_
  rintro e w4 ⟨rfl, hb4⟩
  have E4 : Below W2.heap.size W2 w4 := nxt E3 hb4
  obtain ⟨⟨k0, k1, k2, k3, k4, k5, k6⟩, m0, m1, m2, n0, n1, n2⟩ := KS2.out _ E4
  go_wp2_with fail
  go_ret
  exact ⟨rfl, nxt (nxt B E2) E4⟩
set_option maxHeartbeats 2000000 in
theorem valid9_6 (x : Spc) (w : World) (h0 : 1 ≤ x.i) (h1 : x.i ≤ 9999) (h2 : (lB 0 x.o x.a && decide (0 < x.a)) = true) (h3 : (lB 1 x.r x.b && decide (0 < x.b)) = true) (h4 : 0 ≤ x.h) (h5 : x.h < 12) (h6 : ¬ 1 ≤ x.m) :
    Calls Tryz.prog 14 #[.agg #[.int .i64 x.i, .int .i64 x.o, .int .i64 x.r, .int .i64 x.a, .int .i64 x.b, .int .i64 x.h, .int .i64 x.m]] w fun e w' => e = .returned (.bool false) ∧ Below w.heap.size w w' := by
  have d0 : decide (1 ≤ x.i) = true := decide_eq_true h0
  clear h0
  have d1 : decide (x.i ≤ 9999) = true := decide_eq_true h1
  clear h1
  have H2 := hide h2
  clear h2
  have H3 := hide h3
  clear h3
  have d4 : decide (0 ≤ x.h) = true := decide_eq_true h4
  clear h4
  have d5 : decide (x.h < 12) = true := decide_eq_true h5
  clear h5
  have d6 : decide (1 ≤ x.m) = false := decide_eq_false h6
  clear h6
  go_enter Tryz.func14, Tryz.ntmps14
  go_wp2_with fail
  generalize hW : w.alloc _ = W
  obtain ⟨B, hz, hk⟩ := box7 hW
  have KS := hide hk
  clear hW hk
  obtain ⟨k0, k1, k2, k3, k4, k5, k6⟩ := KS.out _ (Below.refl _ _)
  go_wp2_with fail
  clear k0 k1 k2 k3 k4 k5 k6
  refine (dies_any x _).mono ?_
  rintro e w1 ⟨rfl, E1⟩
  obtain ⟨k0, k1, k2, k3, k4, k5, k6⟩ := KS.out _ (E1.alloc E1.size (.cells #[.int .i64 0, .int .i64 x.o, .int .i64 x.a] 55) |>.alloc (by simp; have := E1.size; omega) (.cells #[.int .i64 1, .int .i64 x.r, .int .i64 x.b] 55))
  go_wp2_with fail
  clear k0 k1 k2 k3 k4 k5 k6
  generalize hW2 : (w1.alloc _).alloc _ = W2
  obtain ⟨B1, hk⟩ := box33 hW2
  have E2 := nxt E1 B1
  have KS2 := hide (fun w' (h : Below W2.heap.size W2 w') => And.intro (KS.out w' (nxt E2 h)) (hk w' h))
  clear hW2 hk KS
  refine (has_any 0 x.o x.a _ true H2.out).mono ?_
  rintro e w3 ⟨rfl, E3⟩
  obtain ⟨⟨k0, k1, k2, k3, k4, k5, k6⟩, m0, m1, m2, n0, n1, n2⟩ := KS2.out _ E3
  go_wp2_with fail
  clear k0 k1 k2 k3 k4 k5 k6 m0 m1 m2 n0 n1 n2
  have z3 := E3.size
  refine (has_any 1 x.r x.b _ true H3.out).mono ?_
  rintro e w4 ⟨rfl, hb4⟩
  have E4 : Below W2.heap.size W2 w4 := nxt E3 hb4
  obtain ⟨⟨k0, k1, k2, k3, k4, k5, k6⟩, m0, m1, m2, n0, n1, n2⟩ := KS2.out _ E4
  go_wp2_with fail
  go_ret
  exact ⟨rfl, nxt (nxt B E2) E4⟩
set_option maxHeartbeats 2000000 in
theorem valid9_7 (x : Spc) (w : World) (h0 : 1 ≤ x.i) (h1 : x.i ≤ 9999) (h2 : (lB 0 x.o x.a && decide (0 < x.a)) = true) (h3 : (lB 1 x.r x.b && decide (0 < x.b)) = true) (h4 : 0 ≤ x.h) (h5 : x.h < 12) (h6 : 1 ≤ x.m) (h7 : ¬ x.m ≤ 200000) :
    Calls Tryz.prog 14 #[.agg #[.int .i64 x.i, .int .i64 x.o, .int .i64 x.r, .int .i64 x.a, .int .i64 x.b, .int .i64 x.h, .int .i64 x.m]] w fun e w' => e = .returned (.bool false) ∧ Below w.heap.size w w' := by
  have d0 : decide (1 ≤ x.i) = true := decide_eq_true h0
  clear h0
  have d1 : decide (x.i ≤ 9999) = true := decide_eq_true h1
  clear h1
  have H2 := hide h2
  clear h2
  have H3 := hide h3
  clear h3
  have d4 : decide (0 ≤ x.h) = true := decide_eq_true h4
  clear h4
  have d5 : decide (x.h < 12) = true := decide_eq_true h5
  clear h5
  have d6 : decide (1 ≤ x.m) = true := decide_eq_true h6
  clear h6
  have d7 : decide (x.m ≤ 200000) = false := decide_eq_false h7
  clear h7
  go_enter Tryz.func14, Tryz.ntmps14
  go_wp2_with fail
  generalize hW : w.alloc _ = W
  obtain ⟨B, hz, hk⟩ := box7 hW
  have KS := hide hk
  clear hW hk
  obtain ⟨k0, k1, k2, k3, k4, k5, k6⟩ := KS.out _ (Below.refl _ _)
  go_wp2_with fail
  clear k0 k1 k2 k3 k4 k5 k6
  refine (dies_any x _).mono ?_
  rintro e w1 ⟨rfl, E1⟩
  obtain ⟨k0, k1, k2, k3, k4, k5, k6⟩ := KS.out _ (E1.alloc E1.size (.cells #[.int .i64 0, .int .i64 x.o, .int .i64 x.a] 55) |>.alloc (by simp; have := E1.size; omega) (.cells #[.int .i64 1, .int .i64 x.r, .int .i64 x.b] 55))
  go_wp2_with fail
  clear k0 k1 k2 k3 k4 k5 k6
  generalize hW2 : (w1.alloc _).alloc _ = W2
  obtain ⟨B1, hk⟩ := box33 hW2
  have E2 := nxt E1 B1
  have KS2 := hide (fun w' (h : Below W2.heap.size W2 w') => And.intro (KS.out w' (nxt E2 h)) (hk w' h))
  clear hW2 hk KS
  refine (has_any 0 x.o x.a _ true H2.out).mono ?_
  rintro e w3 ⟨rfl, E3⟩
  obtain ⟨⟨k0, k1, k2, k3, k4, k5, k6⟩, m0, m1, m2, n0, n1, n2⟩ := KS2.out _ E3
  go_wp2_with fail
  clear k0 k1 k2 k3 k4 k5 k6 m0 m1 m2 n0 n1 n2
  have z3 := E3.size
  refine (has_any 1 x.r x.b _ true H3.out).mono ?_
  rintro e w4 ⟨rfl, hb4⟩
  have E4 : Below W2.heap.size W2 w4 := nxt E3 hb4
  obtain ⟨⟨k0, k1, k2, k3, k4, k5, k6⟩, m0, m1, m2, n0, n1, n2⟩ := KS2.out _ E4
  go_wp2_with fail
  go_ret
  exact ⟨rfl, nxt (nxt B E2) E4⟩
set_option maxHeartbeats 2000000 in
theorem valid9_8 (x : Spc) (w : World) (h0 : 1 ≤ x.i) (h1 : x.i ≤ 9999) (h2 : (lB 0 x.o x.a && decide (0 < x.a)) = true) (h3 : (lB 1 x.r x.b && decide (0 < x.b)) = true) (h4 : 0 ≤ x.h) (h5 : x.h < 12) (h6 : 1 ≤ x.m) (h7 : x.m ≤ 200000) :
    Calls Tryz.prog 14 #[.agg #[.int .i64 x.i, .int .i64 x.o, .int .i64 x.r, .int .i64 x.a, .int .i64 x.b, .int .i64 x.h, .int .i64 x.m]] w fun e w' => e = .returned (.bool true) ∧ Below w.heap.size w w' := by
  have d0 : decide (1 ≤ x.i) = true := decide_eq_true h0
  clear h0
  have d1 : decide (x.i ≤ 9999) = true := decide_eq_true h1
  clear h1
  have H2 := hide h2
  clear h2
  have H3 := hide h3
  clear h3
  have d4 : decide (0 ≤ x.h) = true := decide_eq_true h4
  clear h4
  have d5 : decide (x.h < 12) = true := decide_eq_true h5
  clear h5
  have d6 : decide (1 ≤ x.m) = true := decide_eq_true h6
  clear h6
  have d7 : decide (x.m ≤ 200000) = true := decide_eq_true h7
  clear h7
  go_enter Tryz.func14, Tryz.ntmps14
  go_wp2_with fail
  generalize hW : w.alloc _ = W
  obtain ⟨B, hz, hk⟩ := box7 hW
  have KS := hide hk
  clear hW hk
  obtain ⟨k0, k1, k2, k3, k4, k5, k6⟩ := KS.out _ (Below.refl _ _)
  go_wp2_with fail
  clear k0 k1 k2 k3 k4 k5 k6
  refine (dies_any x _).mono ?_
  rintro e w1 ⟨rfl, E1⟩
  obtain ⟨k0, k1, k2, k3, k4, k5, k6⟩ := KS.out _ (E1.alloc E1.size (.cells #[.int .i64 0, .int .i64 x.o, .int .i64 x.a] 55) |>.alloc (by simp; have := E1.size; omega) (.cells #[.int .i64 1, .int .i64 x.r, .int .i64 x.b] 55))
  go_wp2_with fail
  clear k0 k1 k2 k3 k4 k5 k6
  generalize hW2 : (w1.alloc _).alloc _ = W2
  obtain ⟨B1, hk⟩ := box33 hW2
  have E2 := nxt E1 B1
  have KS2 := hide (fun w' (h : Below W2.heap.size W2 w') => And.intro (KS.out w' (nxt E2 h)) (hk w' h))
  clear hW2 hk KS
  refine (has_any 0 x.o x.a _ true H2.out).mono ?_
  rintro e w3 ⟨rfl, E3⟩
  obtain ⟨⟨k0, k1, k2, k3, k4, k5, k6⟩, m0, m1, m2, n0, n1, n2⟩ := KS2.out _ E3
  go_wp2_with fail
  clear k0 k1 k2 k3 k4 k5 k6 m0 m1 m2 n0 n1 n2
  have z3 := E3.size
  refine (has_any 1 x.r x.b _ true H3.out).mono ?_
  rintro e w4 ⟨rfl, hb4⟩
  have E4 : Below W2.heap.size W2 w4 := nxt E3 hb4
  obtain ⟨⟨k0, k1, k2, k3, k4, k5, k6⟩, m0, m1, m2, n0, n1, n2⟩ := KS2.out _ E4
  go_wp2_with fail
  go_ret
  exact ⟨rfl, nxt (nxt B E2) E4⟩
theorem valid9_any (x : Spc) (w : World) (v : Bool) (hv : vS x = v) :
    Calls Tryz.prog 14 #[.agg #[.int .i64 x.i, .int .i64 x.o, .int .i64 x.r, .int .i64 x.a, .int .i64 x.b, .int .i64 x.h, .int .i64 x.m]] w fun e w' => e = .returned (.bool v) ∧ Below w.heap.size w w' := by
  subst hv
  by_cases h0 : 1 ≤ x.i
  · by_cases h1 : x.i ≤ 9999
    · rcases h2 : lB 0 x.o x.a && decide (0 < x.a) with _ | _
      · have := h2
        rw [has_lab _ _ _ (.inl rfl)] at this
        rw [vS_no (by have := of_decide_eq_false this; omega)]
        exact valid9_2 x w h0 h1 h2
      · have g2 := h2
        rw [has_lab _ _ _ (.inl rfl)] at g2
        have g2 := of_decide_eq_true g2
        rcases h3 : lB 1 x.r x.b && decide (0 < x.b) with _ | _
        · have := h3
          rw [has_lab _ _ _ (.inr rfl)] at this
          rw [vS_no (by have := of_decide_eq_false this; omega)]
          exact valid9_3 x w h0 h1 h2 h3
        · have g3 := h3
          rw [has_lab _ _ _ (.inr rfl)] at g3
          have g3 := of_decide_eq_true g3
          by_cases h4 : 0 ≤ x.h
          · by_cases h5 : x.h < 12
            · by_cases h6 : 1 ≤ x.m
              · by_cases h7 : x.m ≤ 200000
                · rw [vS_true.2 ⟨⟨h0, h1⟩, g2.1, g3.1, g2.2, g3.2, by omega, by omega⟩]
                  exact valid9_8 x w h0 h1 h2 h3 h4 h5 h6 h7
                · rw [vS_no (by omega)]
                  exact valid9_7 x w h0 h1 h2 h3 h4 h5 h6 h7
              · rw [vS_no (by omega)]
                exact valid9_6 x w h0 h1 h2 h3 h4 h5 h6
            · rw [vS_no (by omega)]
              exact valid9_5 x w h0 h1 h2 h3 h4 h5
          · rw [vS_no (by omega)]
            exact valid9_4 x w h0 h1 h2 h3 h4
    · rw [vS_no (by omega)]
      exact valid9_1 x w h0 h1
  · rw [vS_no (by omega)]
    exact valid9_0 x w h0
end Go.Proofs.YtaapcfflnklpjaaGreatDoor
