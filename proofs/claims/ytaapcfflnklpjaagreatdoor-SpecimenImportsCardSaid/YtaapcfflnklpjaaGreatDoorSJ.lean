/- specimen.Find, number. -/
import Derived.Test.YtaapcfflnklpjaaGreatDoorSI
import Derived.Test.YtaapcfflnklpjaaGreatDoorSF
import Derived.Deep.RegionHeld3
namespace Go.Proofs.YtaapcfflnklpjaaGreatDoor
open Go Go.RowKit Go.Lib
theorem idxFrom_find (k : Int) : ∀ (l : List Spc) (i : Nat), (Lib.idxByFrom (fun _ y => decide (y.i = k)) default l i = -1 ∧ findS l k = none) ∨ ∃ j y, Lib.idxByFrom (fun _ y => decide (y.i = k)) default l i = ((i + j : Nat) : Int) ∧ l[j]? = some y ∧ findS l k = some y
  | [], i => .inl ⟨rfl, rfl⟩
  | z :: l, i => by
    unfold Lib.idxByFrom findS
    by_cases h : z.i = k
    · rw [if_pos (by simpa using h)]
      refine .inr ⟨0, z, by simp, rfl, ?_⟩
      rw [List.find?_cons_of_pos (by simpa using h)]
    · rw [if_neg (by simpa using h), List.find?_cons_of_neg (by simpa using h)]
      rcases idxFrom_find k l (i + 1) with h1 | ⟨j, y, h1, h2, h3⟩
      · exact .inl h1
      · exact .inr ⟨j + 1, y, by rw [h1, show i + 1 + j = i + (j + 1) by omega], by simpa using h2, h3⟩
theorem idx_find (k : Int) (l : List Spc) : (idxS l k = -1 ∧ findS l k = none) ∨ ∃ j y, idxS l k = ((j : Nat) : Int) ∧ l[j]? = some y ∧ findS l k = some y := by
  rcases idxFrom_find k l 0 with h | ⟨j, y, h1, h2, h3⟩
  · exact .inl h
  · exact .inr ⟨j, y, by rw [Nat.zero_add] at h1; exact h1, h2, h3⟩
/-- what Find gives -/
def FR (ys : List Spc) (k : Int) (x : Spc) (ok : Bool) : Prop := (findS ys k = none ∧ x = Spc.zero ∧ ok = false) ∨ (findS ys k = some x ∧ ok = true)
theorem FR.ex (ys : List Spc) (k : Int) : ∃ x ok, FR ys k x ok := by
  cases h : findS ys k with
  | none => exact ⟨_, _, .inl ⟨h, rfl, rfl⟩⟩
  | some x => exact ⟨x, true, .inr ⟨h, rfl⟩⟩
theorem box17 {w W : World} {k : Int} {t0 t1 : TypeId} {c1 : Array Value} (hW : (w.alloc (.cells #[.int .i64 k] t0)).alloc (.cells c1 t1) = W) : Below w.heap.size w W ∧ Box W w.heap.size #[.int .i64 k] t0 ∧ Box W (w.heap.size + 1) c1 t1 ∧ W.heap.size = w.heap.size + 2 := by
  subst hW
  have e2 := Box.new (w.alloc (.cells #[.int .i64 k] t0)) c1 t1
  rw [World.size_alloc] at e2
  exact ⟨((Below.refl _ _).alloc (Nat.le_refl _) _).alloc (by simp) _, (Box.new _ _ _).alloc _, e2, by simp⟩
set_option maxHeartbeats 4000000 in
set_option maxRecDepth 100000 in
theorem find_any (A : Option Addr) (n c : Nat) (ys : List Spc) (k : Int) (w : World) (hr : SL w A n ys) (hm : n ≤ maxLen) (X : Spc) (ok : Bool) (hf : FR ys k X ok) :
    Calls Tryz.prog 23 #[.slice A n c, .int .i64 k] w fun e w' => e = .returned (.tuple #[.agg #[.int .i64 X.i, .int .i64 X.o, .int .i64 X.r, .int .i64 X.a, .int .i64 X.b, .int .i64 X.h, .int .i64 X.m], .bool ok]) ∧ Below w.heap.size w w' := by
  have HR := hide hr
  have HF := hide hf
  unfold maxLen at hm
  clear hr hf
  go_enter Tryz.func23, Tryz.ntmps23
  go_wp2_with fail
  generalize hW : (w.alloc _).alloc _ = W
  obtain ⟨B, b0, b1, hz⟩ := box17 hW
  clear hW
  obtain ⟨r, hrr⟩ : ∃ r, idxS ys k = r := ⟨_, rfl⟩
  refine (idx_any A n c ys _ (HR.out.keep B) (by unfold maxLen; omega) w.heap.size k b0.cell b0.lt r hrr).mono ?_
  rintro e w1 ⟨rfl, hb⟩
  have q := nxt B hb
  have q2 := b1.below' hb
  have hs := HR.out.keep q
  have hl := hs.1
  have y0 := q2.at_ 0
  have y1 := q2.at_ 1
  have y2 := q2.at_ 2
  have y3 := q2.at_ 3
  have y4 := q2.at_ 4
  have y5 := q2.at_ 5
  have y6 := q2.at_ 6
  have f0 := q2.frozen 0
  have f1 := q2.frozen 1
  have f2 := q2.frozen 2
  have f3 := q2.frozen 3
  have f4 := q2.frozen 4
  have f5 := q2.frozen 5
  have f6 := q2.frozen 6
  have l2 := q2.lt
  simp at y0 y1 y2 y3 y4 y5 y6
  rcases idx_find k ys with ⟨h1, h2⟩ | ⟨j, y, h1, h2, h3⟩
  · rw [h1] at hrr
    subst hrr
    obtain ⟨rfl, rfl⟩ : X = Spc.zero ∧ ok = false := by
      rcases HF.out with ⟨_, h, h'⟩ | ⟨h, _⟩
      · exact ⟨h, h'⟩
      · rw [h2] at h; cases h
    clear hs B b0 b1 hb h1 h2
    go_wp2_with fail
    refine bodyPost_ret (v := .tuple #[.agg #[.int .i64 0, .int .i64 0, .int .i64 0, .int .i64 0, .int .i64 0, .int .i64 0, .int .i64 0], .bool false]) (by simp [results, Tryz.results23, go_sem, *]) rfl ?_
    exact ⟨rfl, set7 q (Nat.le_succ _) _ _ _ _ _ _ _⟩
  · rw [h1] at hrr
    subst hrr
    obtain ⟨rfl, rfl⟩ : X = y ∧ ok = true := by
      rcases HF.out with ⟨h, _, _⟩ | ⟨h, h'⟩
      · rw [h3] at h; cases h
      · rw [h3] at h
        injection h with h
        exact ⟨h.symm, h'⟩
    have hj : j < n := by rw [← hl]; exact (List.getElem?_eq_some_iff.1 h2).1
    obtain ⟨b, o, y', rfl, hbl, hy', k0, k1, k2, k3, k4, k5, k6⟩ := hs.at_ hj
    rw [h2] at hy'
    injection hy' with hy'
    subst hy'
    have d0 : decide ((j : Int) < 0) = false := decide_eq_false (by omega)
    have d1 : decide ((j : Int) < (n : Int)) = true := decide_eq_true (by omega)
    have i0 : (0 : Int) ≤ (j : Int) := by omega
    have i1 : (j : Int) < (n : Int) := by omega
    clear hs B b0 b1 hb h1 h2 h3
    go_wp2_with fail
    refine bodyPost_ret (v := .tuple #[.agg #[.int .i64 X.i, .int .i64 X.o, .int .i64 X.r, .int .i64 X.a, .int .i64 X.b, .int .i64 X.h, .int .i64 X.m], .bool true]) (by simp [results, Tryz.results23, go_sem, *]) rfl ?_
    exact ⟨rfl, set7 q (Nat.le_succ _) _ _ _ _ _ _ _⟩
set_option maxHeartbeats 1000000 in
theorem num9_any (x : Spc) (s : Int) (w : World) (r : Int) (h : (if s = 0 then x.o else x.r) = r) :
    Calls Tryz.prog 62 #[.agg #[.int .i64 x.i, .int .i64 x.o, .int .i64 x.r, .int .i64 x.a, .int .i64 x.b, .int .i64 x.h, .int .i64 x.m], .int .i64 s] w fun e w' => e = .returned (.int .i64 r) ∧ Below w.heap.size w w' := by
  by_cases hs : s = 0
  · have e0 : (s == 0) = true := beq_iff_eq.2 hs
    rw [if_pos hs] at h
    subst h
    clear hs
    go_enter Tryz.func62, Tryz.ntmps62
    go_wp2_with fail
    go_ret
    exact ⟨rfl, (Below.refl _ _).alloc (Nat.le_refl _) _⟩
  · have e0 : (s == 0) = false := beq_eq_false_iff_ne.2 hs
    rw [if_neg hs] at h
    subst h
    clear hs
    go_enter Tryz.func62, Tryz.ntmps62
    go_wp2_with fail
    go_ret
    exact ⟨rfl, (Below.refl _ _).alloc (Nat.le_refl _) _⟩
end Go.Proofs.YtaapcfflnklpjaaGreatDoor
