/- Words for entries, changes and numbers in memory; comparing structs. -/
import Derived.Test.YtadmiecoahohiaaDB
import Derived.Test.YtadmiecoahohiaaDR
import Derived.Test.YtadmiecoahohiaaUN
import Derived.Laws.StructEq
import Derived.Lib.SliceRun
namespace Go.Proofs.Ytadmiecoahohiaa
open Go Go.RowKit Go.Lib

def eE : En Ent where
  enc x := [.int .i64 x.k, .int .i64 x.v]
  k := 2
  pos := by decide
  len _ := rfl
  one x u hu := by
    simp at hu
    rcases hu with rfl | rfl <;> rfl
  t := 43
def CellsE (w : World) (b o : Nat) (y : Ent) : Prop := w.cell? ⟨b, o, none⟩ = some (.int .i64 y.k) ∧ w.cell? ⟨b, o + 1, none⟩ = some (.int .i64 y.v)
theorem SL.atE {w : World} {A : Option Addr} {n : Nat} {ys : List Ent} (h : SL eE w A n ys) {j : Nat} (hj : j < n) : ∃ b o y, A = some ⟨b, o, none⟩ ∧ b < w.heap.size ∧ ys[j]? = some y ∧ CellsE w b (o + j * 2) y := by
  obtain ⟨b, o, y, e, hl, hy, g⟩ := h.at_ hj
  exact ⟨b, o, y, e, hl, hy, g 0 _ (by decide) rfl, g 1 _ (by decide) rfl⟩
theorem SL.cellsE {w : World} {b o n : Nat} {ys : List Ent} (h : SL eE w (some ⟨b, o, none⟩) n ys) {j : Nat} {y : Ent} (hy : ys[j]? = some y) : CellsE w b (o + j * 2) y := by
  have hj : j < n := by rw [← h.1]; exact (List.getElem?_eq_some_iff.1 hy).1
  obtain ⟨b', o', y', e, _, hy', hc⟩ := h.atE hj
  injection e with e
  injection e with e1 e2
  subst e1; subst e2
  rw [hy] at hy'
  injection hy' with hy'
  subst hy'
  exact hc
theorem infoE : (Try.prog.info? 43).map (fun i => (i.zero, i.size, i.bytes)) = some (some (.agg #[.int .i64 0, .int .i64 0]), 2, 16) := by kernel_rfl
theorem srcE {w : World} {A : Option Addr} {n : Nat} {ys : List Ent} (h : SL eE w A n ys) : 0 < n → ∃ a, A = some a ∧ ∀ j u, (flatE eE ys)[j]? = some u → w.cell? (a.add j) = some u := fun hm => by
  obtain ⟨b, o, e, hl, hc⟩ := h.2 hm
  exact ⟨_, e, fun j u hj => by
    have ea : (⟨b, o, none⟩ : Addr).add j = ⟨b, o + j, none⟩ := by unfold Addr.add; split <;> simp_all
    rw [ea]; exact hc j u hj⟩

theorem boxE {w : World} {g : Nat} {t : TypeId} {x : Ent} (h : Box w g #[.int .i64 x.k, .int .i64 x.v] t) : SL eE w (some ⟨g, 0, none⟩) 1 [x] :=
  ⟨rfl, fun _ => ⟨g, 0, rfl, h.lt, fun j u hu => by
    have hj : j < 2 := by
      have := (List.getElem?_eq_some_iff.1 hu).1
      rwa [flatE_len] at this
    match j, hj with
    | 0, _ => rw [show (flatE eE [x])[0]? = some (.int .i64 x.k) from rfl] at hu; injection hu with hu; subst hu; exact h.at_ 0
    | 1, _ => rw [show (flatE eE [x])[1]? = some (.int .i64 x.v) from rfl] at hu; injection hu with hu; subst hu; exact h.at_ 1⟩⟩

def eC : En Chg where
  enc x := [.int .i64 x.k, .int .i64 x.o, .int .i64 x.n, .bool x.h, .bool x.s]
  k := 5
  pos := by decide
  len _ := rfl
  one x u hu := by
    simp at hu
    rcases hu with rfl | rfl | rfl | rfl | rfl <;> rfl
  t := 46
def CellsC (w : World) (b o : Nat) (y : Chg) : Prop := w.cell? ⟨b, o, none⟩ = some (.int .i64 y.k) ∧ w.cell? ⟨b, o + 1, none⟩ = some (.int .i64 y.o) ∧ w.cell? ⟨b, o + 2, none⟩ = some (.int .i64 y.n) ∧ w.cell? ⟨b, o + 3, none⟩ = some (.bool y.h) ∧ w.cell? ⟨b, o + 4, none⟩ = some (.bool y.s)
theorem SL.atC {w : World} {A : Option Addr} {n : Nat} {ys : List Chg} (h : SL eC w A n ys) {j : Nat} (hj : j < n) : ∃ b o y, A = some ⟨b, o, none⟩ ∧ b < w.heap.size ∧ ys[j]? = some y ∧ CellsC w b (o + j * 5) y := by
  obtain ⟨b, o, y, e, hl, hy, g⟩ := h.at_ hj
  exact ⟨b, o, y, e, hl, hy, g 0 _ (by decide) rfl, g 1 _ (by decide) rfl, g 2 _ (by decide) rfl, g 3 _ (by decide) rfl, g 4 _ (by decide) rfl⟩
theorem SL.cellsC {w : World} {b o n : Nat} {ys : List Chg} (h : SL eC w (some ⟨b, o, none⟩) n ys) {j : Nat} {y : Chg} (hy : ys[j]? = some y) : CellsC w b (o + j * 5) y := by
  have hj : j < n := by rw [← h.1]; exact (List.getElem?_eq_some_iff.1 hy).1
  obtain ⟨b', o', y', e, _, hy', hc⟩ := h.atC hj
  injection e with e
  injection e with e1 e2
  subst e1; subst e2
  rw [hy] at hy'
  injection hy' with hy'
  subst hy'
  exact hc
theorem infoC : (Try.prog.info? 46).map (fun i => (i.zero, i.size, i.bytes)) = some (some (.agg #[.int .i64 0, .int .i64 0, .int .i64 0, .bool false, .bool false]), 5, 32) := by kernel_rfl
theorem srcC {w : World} {A : Option Addr} {n : Nat} {ys : List Chg} (h : SL eC w A n ys) : 0 < n → ∃ a, A = some a ∧ ∀ j u, (flatE eC ys)[j]? = some u → w.cell? (a.add j) = some u := fun hm => by
  obtain ⟨b, o, e, hl, hc⟩ := h.2 hm
  exact ⟨_, e, fun j u hj => by
    have ea : (⟨b, o, none⟩ : Addr).add j = ⟨b, o + j, none⟩ := by unfold Addr.add; split <;> simp_all
    rw [ea]; exact hc j u hj⟩

theorem boxC {w : World} {g : Nat} {t : TypeId} {x : Chg} (h : Box w g #[.int .i64 x.k, .int .i64 x.o, .int .i64 x.n, .bool x.h, .bool x.s] t) : SL eC w (some ⟨g, 0, none⟩) 1 [x] :=
  ⟨rfl, fun _ => ⟨g, 0, rfl, h.lt, fun j u hu => by
    have hj : j < 5 := by
      have := (List.getElem?_eq_some_iff.1 hu).1
      rwa [flatE_len] at this
    match j, hj with
    | 0, _ => rw [show (flatE eC [x])[0]? = some (.int .i64 x.k) from rfl] at hu; injection hu with hu; subst hu; exact h.at_ 0
    | 1, _ => rw [show (flatE eC [x])[1]? = some (.int .i64 x.o) from rfl] at hu; injection hu with hu; subst hu; exact h.at_ 1
    | 2, _ => rw [show (flatE eC [x])[2]? = some (.int .i64 x.n) from rfl] at hu; injection hu with hu; subst hu; exact h.at_ 2
    | 3, _ => rw [show (flatE eC [x])[3]? = some (.bool x.h) from rfl] at hu; injection hu with hu; subst hu; exact h.at_ 3
    | 4, _ => rw [show (flatE eC [x])[4]? = some (.bool x.s) from rfl] at hu; injection hu with hu; subst hu; exact h.at_ 4⟩⟩

def eI : En Int where
  enc x := [.int .i64 x]
  k := 1
  pos := by decide
  len _ := rfl
  one x u hu := by
    simp at hu
    subst hu; rfl
  t := 3
def CellsI (w : World) (b o : Nat) (y : Int) : Prop := w.cell? ⟨b, o, none⟩ = some (.int .i64 y)
theorem SL.atI {w : World} {A : Option Addr} {n : Nat} {ys : List Int} (h : SL eI w A n ys) {j : Nat} (hj : j < n) : ∃ b o y, A = some ⟨b, o, none⟩ ∧ b < w.heap.size ∧ ys[j]? = some y ∧ CellsI w b (o + j * 1) y := by
  obtain ⟨b, o, y, e, hl, hy, g⟩ := h.at_ hj
  exact ⟨b, o, y, e, hl, hy, g 0 _ (by decide) rfl⟩
theorem SL.cellsI {w : World} {b o n : Nat} {ys : List Int} (h : SL eI w (some ⟨b, o, none⟩) n ys) {j : Nat} {y : Int} (hy : ys[j]? = some y) : CellsI w b (o + j * 1) y := by
  have hj : j < n := by rw [← h.1]; exact (List.getElem?_eq_some_iff.1 hy).1
  obtain ⟨b', o', y', e, _, hy', hc⟩ := h.atI hj
  injection e with e
  injection e with e1 e2
  subst e1; subst e2
  rw [hy] at hy'
  injection hy' with hy'
  subst hy'
  exact hc
theorem infoI1 : (Try.prog.info? 3).map (fun i => (i.zero, i.size, i.bytes)) = some (some (.int .i64 0), 1, 8) := by kernel_rfl
theorem srcI {w : World} {A : Option Addr} {n : Nat} {ys : List Int} (h : SL eI w A n ys) : 0 < n → ∃ a, A = some a ∧ ∀ j u, (flatE eI ys)[j]? = some u → w.cell? (a.add j) = some u := fun hm => by
  obtain ⟨b, o, e, hl, hc⟩ := h.2 hm
  exact ⟨_, e, fun j u hj => by
    have ea : (⟨b, o, none⟩ : Addr).add j = ⟨b, o + j, none⟩ := by unfold Addr.add; split <;> simp_all
    rw [ea]; exact hc j u hj⟩

theorem boxI {w : World} {g : Nat} {t : TypeId} {x : Int} (h : Box w g #[.int .i64 x] t) : SL eI w (some ⟨g, 0, none⟩) 1 [x] :=
  ⟨rfl, fun _ => ⟨g, 0, rfl, h.lt, fun j u hu => by
    have hj : j < 1 := by
      have := (List.getElem?_eq_some_iff.1 hu).1
      rwa [flatE_len] at this
    match j, hj with
    | 0, _ => rw [show (flatE eI [x])[0]? = some (.int .i64 x) from rfl] at hu; injection hu with hu; subst hu; exact h.at_ 0⟩⟩

attribute [local go_sem] run_equalIn_agg run_equalIn_int run_equalIn_bool'

theorem eqE_run (x y : Ent) (w : World) (v : Bool) (hv : decide (x = y) = v) : (Op.equalIn 10000 43 (.agg #[.int .i64 x.k, .int .i64 x.v]) (.agg #[.int .i64 y.k, .int .i64 y.v])).run Try.prog w = .ok v w := by
  have u3 := Try.underlying3
  have a3 := Try.isAgg3
  have z3 := Try.sizeOf3
  have u4 := Try.underlying4
  have a4 := Try.isAgg4
  have z4 := Try.sizeOf4
  have hS : Try.prog.underlying 43 = some (.struct (Try.prog.fieldsOf 43)) := by kernel_rfl
  have hp : Try.prog.stoodInHeld 43 = false := by kernel_rfl
  rw [show (10000 : Nat) = 9999 + 1 from rfl, run_equalIn_agg w 9999 43 _ _ hS hp]
  simp only [Program.fieldsOf, Try.underlying43]
  go_simp
  subst hv
  by_cases h : x = y
  · subst h
    simp
  · rw [decide_eq_false h]
    have hne : ¬(x.k = y.k ∧ x.v = y.v) := fun e => h (by
      cases x
      cases y
      simp only at e
      obtain ⟨rfl, rfl⟩ := e
      rfl)
    repeat' split
    all_goals first | rfl | (exfalso; simp_all; done)

theorem eqC_run (x y : Chg) (w : World) (v : Bool) (hv : decide (x = y) = v) : (Op.equalIn 10000 46 (.agg #[.int .i64 x.k, .int .i64 x.o, .int .i64 x.n, .bool x.h, .bool x.s]) (.agg #[.int .i64 y.k, .int .i64 y.o, .int .i64 y.n, .bool y.h, .bool y.s])).run Try.prog w = .ok v w := by
  have u3 := Try.underlying3
  have a3 := Try.isAgg3
  have z3 := Try.sizeOf3
  have u4 := Try.underlying4
  have a4 := Try.isAgg4
  have z4 := Try.sizeOf4
  have hS : Try.prog.underlying 46 = some (.struct (Try.prog.fieldsOf 46)) := by kernel_rfl
  have hp : Try.prog.stoodInHeld 46 = false := by kernel_rfl
  rw [show (10000 : Nat) = 9999 + 1 from rfl, run_equalIn_agg w 9999 46 _ _ hS hp]
  simp only [Program.fieldsOf, Try.underlying46]
  go_simp
  subst hv
  by_cases h : x = y
  · subst h
    simp
  · rw [decide_eq_false h]
    have hne : ¬(x.k = y.k ∧ x.o = y.o ∧ x.n = y.n ∧ x.h = y.h ∧ x.s = y.s) := fun e => h (by
      cases x
      cases y
      simp only at e
      obtain ⟨rfl, rfl, rfl, rfl, rfl⟩ := e
      rfl)
    repeat' split
    all_goals first | rfl | (exfalso; simp_all; done)

theorem eqP_run (x y : Sd) (w : World) (v : Bool) (hv : decide (x = y) = v) : (Op.equalIn 10000 49 (.agg #[.int .i64 x.v, .bool x.i]) (.agg #[.int .i64 y.v, .bool y.i])).run Try.prog w = .ok v w := by
  have u3 := Try.underlying3
  have a3 := Try.isAgg3
  have z3 := Try.sizeOf3
  have u4 := Try.underlying4
  have a4 := Try.isAgg4
  have z4 := Try.sizeOf4
  have hS : Try.prog.underlying 49 = some (.struct (Try.prog.fieldsOf 49)) := by kernel_rfl
  have hp : Try.prog.stoodInHeld 49 = false := by kernel_rfl
  rw [show (10000 : Nat) = 9999 + 1 from rfl, run_equalIn_agg w 9999 49 _ _ hS hp]
  simp only [Program.fieldsOf, Try.underlying49]
  go_simp
  subst hv
  by_cases h : x = y
  · subst h
    simp
  · rw [decide_eq_false h]
    have hne : ¬(x.v = y.v ∧ x.i = y.i) := fun e => h (by
      cases x
      cases y
      simp only at e
      obtain ⟨rfl, rfl⟩ := e
      rfl)
    repeat' split
    all_goals first | rfl | (exfalso; simp_all; done)

theorem eqR_run (x y : Sd) (w : World) (v : Bool) (hv : decide (x = y) = v) : (Op.equalIn 10000 53 (.agg #[.int .i64 x.v, .bool x.i]) (.agg #[.int .i64 y.v, .bool y.i])).run Try.prog w = .ok v w := by
  have u3 := Try.underlying3
  have a3 := Try.isAgg3
  have z3 := Try.sizeOf3
  have u4 := Try.underlying4
  have a4 := Try.isAgg4
  have z4 := Try.sizeOf4
  have hS : Try.prog.underlying 53 = some (.struct (Try.prog.fieldsOf 53)) := by kernel_rfl
  have hp : Try.prog.stoodInHeld 53 = false := by kernel_rfl
  rw [show (10000 : Nat) = 9999 + 1 from rfl, run_equalIn_agg w 9999 53 _ _ hS hp]
  simp only [Program.fieldsOf, Try.underlying53]
  go_simp
  subst hv
  by_cases h : x = y
  · subst h
    simp
  · rw [decide_eq_false h]
    have hne : ¬(x.v = y.v ∧ x.i = y.i) := fun e => h (by
      cases x
      cases y
      simp only at e
      obtain ⟨rfl, rfl⟩ := e
      rfl)
    repeat' split
    all_goals first | rfl | (exfalso; simp_all; done)
end Go.Proofs.Ytadmiecoahohiaa
