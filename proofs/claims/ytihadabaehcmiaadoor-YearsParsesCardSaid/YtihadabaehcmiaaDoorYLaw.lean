/- Opening years, boxes for the laws' arguments. -/
import Derived.Test.YtihadabaehcmiaaDoorYLaid
import Derived.Test.YtihadabaehcmiaaDoorYAwake2
import Derived.Test.YtihadabaehcmiaaDoorYRRel
import Derived.ChangeSlices
import Derived.ChangeArms
import Derived.Carry
import Derived.IntWalk
namespace Go.Proofs.YtihadabaehcmiaaDoor
open Go Go.ChangeShapes Go.WideShapes Go.ChangeAt Go.RowKit

theorem cellsY : Tryd.prog.cellsOf 23 = 2 := by kernel_rfl
theorem cellsInt : Tryd.prog.cellsOf 3 = 1 := by kernel_rfl
set_option maxRecDepth 100000 in
theorem open_years {H : Type} {enc : TypeId × Value → H} {W : World} {base : Nat} {v : Value} {d : DataW H} {p : List MemPlace} (hv : Value.okWide Tryd.prog W .any base 23 v)
    (h : DataW.Trod enc Tryd.prog W 0 (fun _ => true) true 23 v d p) : ∃ a b : Int, v = .agg #[.int .i64 a, .int .i64 b] := by
  obtain ⟨cs, rfl, hsz⟩ := okWide_struct Tryd.underlying23 hv
  obtain ⟨fuel, hf⟩ := h
  obtain ⟨xs, n, _, hx, hl, hlen, hall⟩ := DataW.trod_struct Tryd.underlying23 hf
  rw [cellsY] at hsz
  obtain ⟨c0, c1, rfl⟩ : ∃ c0 c1, cs = #[c0, c1] := by
    match cs, hsz with
    | ⟨[c0, c1]⟩, _ => exact ⟨c0, c1, rfl⟩
  match xs, hlen with
  | [y0, y1], _ =>
    have h0 := hall 0 _ rfl
    have h1 := hall 1 _ rfl
    simp only [Value.cells, List.getElem?_cons_zero, List.getElem?_cons_succ] at h0 h1
    obtain ⟨a, ha, -, -⟩ := DataW.trod_int Tryd.underlying3 h0
    obtain ⟨b, hb, -, -⟩ := DataW.trod_int Tryd.underlying3 h1
    have ha2 : c0 = .int .i64 a := by
      have h5 := congrArg List.head? ha
      simpa [show Tryd.prog.cellsOf 3 = 1 from cellsInt] using h5
    have hb2 : c1 = .int .i64 b := by
      have h5 := congrArg List.head? hb
      simpa [show Tryd.prog.cellsOf 3 = 1 from cellsInt] using h5
    subst ha2
    subst hb2
    exact ⟨a, b, rfl⟩
theorem boxesA2 {w W : World} {v0 v1 : Array Value} {t0 t1 : TypeId} (hW : (w.alloc (.cells v0 t0)).alloc (.cells v1 t1) = W) :
    Below w.heap.size w W ∧ Box W w.heap.size v0 t0 ∧ Box W (w.heap.size + 1) v1 t1 := by
  subst hW
  refine ⟨((Below.refl _ _).alloc (Nat.le_refl _) _).alloc (by simp) _, (Box.new _ _ _).alloc _, ?_⟩
  have h := Box.new (w.alloc (.cells v0 t0)) v1 t1
  simpa using h
theorem boxesA3 {w W : World} {v0 v1 v2 : Array Value} {t0 t1 t2 : TypeId} (hW : ((w.alloc (.cells v0 t0)).alloc (.cells v1 t1)).alloc (.cells v2 t2) = W) :
    Below w.heap.size w W ∧ Box W w.heap.size v0 t0 ∧ Box W (w.heap.size + 1) v1 t1 ∧ Box W (w.heap.size + 1 + 1) v2 t2 := by
  subst hW
  refine ⟨(((Below.refl _ _).alloc (Nat.le_refl _) _).alloc (by simp) _).alloc (by simp; omega) _, ((Box.new _ _ _).alloc _).alloc _, ?_, ?_⟩
  · have h := (Box.new (w.alloc (.cells v0 t0)) v1 t1).alloc (.cells v2 t2)
    simpa using h
  · have h := Box.new ((w.alloc (.cells v0 t0)).alloc (.cells v1 t1)) v2 t2
    simpa using h
theorem rel_v (a b c d : Int) (w : World) (h1 : yB a b = true) (h2 : yB c d = true) (r : Int) (hr : rel13 a b c d = r) :
    Calls Tryd.prog 25 #[.agg #[.int .i64 a, .int .i64 b], .agg #[.int .i64 c, .int .i64 d]] w fun e w' => e = .returned (.int .i64 r) ∧ Below w.heap.size w w' := by
  subst hr
  exact rel_any a b c d w h1 h2
theorem rrel_v (a b c d : Int) (w : World) (h1 : yB a b = true) (h2 : yB c d = true) (r : Int) (hr : rel13 a b c d = r) :
    Calls Tryd.prog 26 #[.agg #[.int .i64 a, .int .i64 b], .agg #[.int .i64 c, .int .i64 d]] w fun e w' => e = .returned (.int .i64 r) ∧ Below w.heap.size w w' := by
  subst hr
  exact rrel_yes a b c d w h1 h2
theorem meetY_v (a b c d : Int) (w : World) (h1 : yB a b = true) (h2 : yB c d = true) (p q : Int) (hp : max a c = p) (hq : min b d = q) (h3 : p ≤ q) :
    Calls Tryd.prog 13 #[.agg #[.int .i64 a, .int .i64 b], .agg #[.int .i64 c, .int .i64 d]] w fun e w' => e = .returned (.tuple #[.agg #[.int .i64 p, .int .i64 q], .bool true]) ∧ Below w.heap.size w w' := by
  subst hp
  subst hq
  exact meet_yes a b c d w h1 h2 h3
theorem rmeetY_v (a b c d : Int) (w : World) (h1 : yB a b = true) (h2 : yB c d = true) (p q : Int) (hp : max a c = p) (hq : min b d = q) (h3 : p ≤ q) :
    Calls Tryd.prog 14 #[.agg #[.int .i64 a, .int .i64 b], .agg #[.int .i64 c, .int .i64 d]] w fun e w' => e = .returned (.tuple #[.agg #[.int .i64 p, .int .i64 q], .bool true]) ∧ Below w.heap.size w w' := by
  subst hp
  subst hq
  exact rmeet_yes a b c d w h1 h2 h3
theorem hullY_v (a b c d : Int) (w : World) (h1 : yB a b = true) (h2 : yB c d = true) (p q : Int) (hp : min a c = p) (hq : max b d = q) :
    Calls Tryd.prog 15 #[.agg #[.int .i64 a, .int .i64 b], .agg #[.int .i64 c, .int .i64 d]] w fun e w' => e = .returned (.tuple #[.agg #[.int .i64 p, .int .i64 q], .int .i64 0]) ∧ Below w.heap.size w w' := by
  subst hp
  subst hq
  exact hull_yes a b c d w h1 h2
theorem rhullY_v (a b c d : Int) (w : World) (h1 : yB a b = true) (h2 : yB c d = true) (p q : Int) (hp : min a c = p) (hq : max b d = q) :
    Calls Tryd.prog 16 #[.agg #[.int .i64 a, .int .i64 b], .agg #[.int .i64 c, .int .i64 d]] w fun e w' => e = .returned (.tuple #[.agg #[.int .i64 p, .int .i64 q], .int .i64 0]) ∧ Below w.heap.size w w' := by
  subst hp
  subst hq
  exact rhull_yes a b c d w h1 h2
theorem length_v (a b : Int) (w : World) (h : yB a b = true) (n : Int) (hn : b - a + 1 = n) :
    Calls Tryd.prog 19 #[.agg #[.int .i64 a, .int .i64 b]] w fun e w' => e = .returned (.int .i64 n) ∧ Below w.heap.size w w' := by
  subst hn
  exact length_any a b w true h
theorem rlength_v (a b : Int) (w : World) (h : yB a b = true) (n : Int) (hn : b - a + 1 = n) :
    Calls Tryd.prog 20 #[.agg #[.int .i64 a, .int .i64 b]] w fun e w' => e = .returned (.int .i64 n) ∧ Below w.heap.size w w' := by
  subst hn
  exact rlength_any a b w true h
theorem rel_range {a b c d : Int} (h1 : yB a b = true) (h2 : yB c d = true) : 1 ≤ rel13 a b c d ∧ rel13 a b c d ≤ 13 := by
  have j1 := yB_true.1 h1
  have j2 := yB_true.1 h2
  have r := rel7_range j1.2.1 j2.2.1
  rcases rel13_cases j1.2.1 j2.2.1 with ⟨x, y⟩ | ⟨x, y, z, u⟩
  · rw [y]; omega
  · rw [u]; omega
theorem rel_exch {a b c d : Int} (h1 : yB a b = true) (h2 : yB c d = true) : rel13 c d a b = 14 - rel13 a b c d := by
  have j1 := yB_true.1 h1
  have j2 := yB_true.1 h2
  have p := rel7_cases j1.2.1 j2.2.1
  have q := rel7_cases j2.2.1 j1.2.1
  rcases rel13_cases j1.2.1 j2.2.1 with ⟨x, y⟩ | ⟨x, y, z, u⟩ <;> rcases rel13_cases j2.2.1 j1.2.1 with ⟨x', y'⟩ | ⟨x', y', z', u'⟩
  · rw [y, y']; try omega
  · rw [y, u']; try omega
  · rw [u, y']; try omega
  · omega
theorem rel_7 {a b c d : Int} (h1 : yB a b = true) (h2 : yB c d = true) : rel13 a b c d = 7 ↔ a = c ∧ b = d := by
  have j1 := yB_true.1 h1
  have j2 := yB_true.1 h2
  have p := rel7_cases j1.2.1 j2.2.1
  rcases rel13_cases j1.2.1 j2.2.1 with ⟨x, y⟩ | ⟨x, y, z, u⟩
  · rw [y]; omega
  · rw [u]; omega
theorem rel_common {a b c d : Int} (h1 : yB a b = true) (h2 : yB c d = true) : max a c ≤ min b d ↔ 3 ≤ rel13 a b c d ∧ rel13 a b c d ≤ 11 := by
  have j1 := yB_true.1 h1
  have j2 := yB_true.1 h2
  have p := rel7_cases j1.2.1 j2.2.1
  have q := rel7_cases j2.2.1 j1.2.1
  have e1 : max a c ≤ min b d ↔ c ≤ b ∧ a ≤ d := by omega
  rw [e1]
  rcases rel13_cases j1.2.1 j2.2.1 with ⟨x, y⟩ | ⟨x, y, z, u⟩
  · rw [y]; omega
  · rw [u]; omega
theorem rel_before {a b c d : Int} (h1 : yB a b = true) (h2 : yB c d = true) : rel13 a b c d = 1 ↔ b + 1 < c := by
  have j1 := yB_true.1 h1
  have j2 := yB_true.1 h2
  have p := rel7_cases j1.2.1 j2.2.1
  rcases rel13_cases j1.2.1 j2.2.1 with ⟨x, y⟩ | ⟨x, y, z, u⟩
  · rw [y]; omega
  · rw [u]; omega
end Go.Proofs.YtihadabaehcmiaaDoor
