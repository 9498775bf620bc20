/- Appending one element to an own row; the reference's change and put. -/
import Derived.Test.YtadmiecoahohiaaUB
namespace Go.Proofs.Ytadmiecoahohiaa
open Go Go.RowKit Go.Lib
theorem ow_app {α : Type} {e : En α} {w : World} {B c : Nat} {A : Option Addr} {ys : List α} {x : α} (h : w.ownsRow B e.t e.k (.slice A (ys.length + 1) c) (ys.length + 1) (flatE e ys ++ e.enc x)) : Ow e w B A (ys ++ [x]).length c (ys ++ [x]) := by
  unfold Ow
  rw [flatE_app, flatE_cons, flatE_nil, List.append_nil, List.length_append]
  exact h

theorem litE {w : World} {g : Nat} {t : TypeId} {x : Ent} (h : Box w g #[.int .i64 x.k, .int .i64 x.v] t) : ∀ j u, (eE.enc x)[j]? = some u → w.cell? ((⟨g, 0, none⟩ : Addr).add j) = some u := by
  obtain ⟨a, e, hc⟩ := srcE (boxE h) (by decide)
  injection e with e
  subst e
  intro j u hj
  refine hc j u ?_
  rw [flatE_cons, flatE_nil, List.append_nil]
  exact hj

theorem litC {w : World} {g : Nat} {t : TypeId} {x : Chg} (h : Box w g #[.int .i64 x.k, .int .i64 x.o, .int .i64 x.n, .bool x.h, .bool x.s] t) : ∀ j u, (eC.enc x)[j]? = some u → w.cell? ((⟨g, 0, none⟩ : Addr).add j) = some u := by
  obtain ⟨a, e, hc⟩ := srcC (boxC h) (by decide)
  injection e with e
  subst e
  intro j u hj
  refine hc j u ?_
  rw [flatE_cons, flatE_nil, List.append_nil]
  exact hj

theorem litI {w : World} {g : Nat} {t : TypeId} {x : Int} (h : Box w g #[.int .i64 x] t) : ∀ j u, (eI.enc x)[j]? = some u → w.cell? ((⟨g, 0, none⟩ : Addr).add j) = some u := by
  obtain ⟨a, e, hc⟩ := srcI (boxI h) (by decide)
  injection e with e
  subst e
  intro j u hj
  refine hc j u ?_
  rw [flatE_cons, flatE_nil, List.append_nil]
  exact hj

def chO1 (k : Int) (f t : Sd) : Option Chg := if f = t then none else some (chg k f t)
def enO1 (k : Int) (s : Sd) : Option Ent := if s.i = true then some ⟨k, s.v⟩ else none
set_option maxHeartbeats 4000000 in
theorem change_any (B c : Nat) (A : Option Addr) (ys zs : List Chg) (k : Int) (f t : Sd) (w : World) (h : Ow eC w B A ys.length c ys) (hB : B ≤ w.heap.size) (hn : ys.length ≤ 1000) (hz : ys ++ (chO1 k f t).toList = zs) :
    Calls Try.prog 35 #[.slice A ys.length c, .int .i64 k, .agg #[.int .i64 f.v, .bool f.i], .agg #[.int .i64 t.v, .bool t.i]] w fun e w' => ∃ A' c', e = .returned (.slice A' zs.length c') ∧ Ow eC w' B A' zs.length c' zs ∧ Below B w w' := by
  have H := hide h
  have HB := hide hB
  have HZ := hide hz
  unfold chO1 at hz
  clear h
  by_cases hft : f = t
  · have e0 := fun (w : World) => eqR_run f t w true (decide_eq_true hft)
    rw [if_pos hft] at hz
    have HZ := hide (show ys = zs by rw [← hz]; exact (List.append_nil _).symm)
    clear hz hft
    go_enter Try.func35, Try.ntmps35
    go_wp2_with fail
    go_ret
    refine ⟨A, c, by rw [← HZ.out]; rfl, by rw [← HZ.out]; exact H.out.keep (((Below.refl _ _).alloc (Nat.le_refl _) _).alloc (by simp) _), ?_⟩
    exact ((Below.refl _ _).alloc HB.out _).alloc (by simp; omega) _
  · have e0 := fun (w : World) => eqR_run f t w false (decide_eq_false hft)
    rw [if_neg hft] at hz
    have HZ := hide (show ys ++ [chg k f t] = zs from hz)
    have HR := hide (show Ow eC (((w.alloc (.cells #[.int .i64 f.v, .bool f.i] 53)).alloc (.cells #[.int .i64 t.v, .bool t.i] 53)).alloc (.cells #[.int .i64 k, .int .i64 f.v, .int .i64 t.v, .bool f.i, .bool t.i] 46)) B A ys.length c ys from H.out.keep ((((Below.refl _ _).alloc (Nat.le_refl _) _).alloc (by simp) _).alloc (by simp; omega) _))
    have HN := hide (litC (g := w.heap.size + 1 + 1) (x := chg k f t) (newE ((w.alloc (.cells #[.int .i64 f.v, .bool f.i] 53)).alloc (.cells #[.int .i64 t.v, .bool t.i] 53)) #[.int .i64 k, .int .i64 f.v, .int .i64 t.v, .bool f.i, .bool t.i] 46 (by simp)))
    have HB3 := hide (show Below B w (((w.alloc (.cells #[.int .i64 f.v, .bool f.i] 53)).alloc (.cells #[.int .i64 t.v, .bool t.i] 53)).alloc (.cells #[.int .i64 k, .int .i64 f.v, .int .i64 t.v, .bool f.i, .bool t.i] 46)) from (((Below.refl _ _).alloc HB.out _).alloc (by simp; omega) _).alloc (by simp; omega) _)
    clear hz hft
    go_enter Try.func35, Try.ntmps35
    go_wp2_with (at_builtin; go_loud (refine wpList_app_ow _ rfl _ _ 23 rfl B 46 _ 5 32 Try.underlying23 infoC rfl (by decide) _ _ _ _ rfl HR.out _ _ _ (eC.enc (chg k f t)) rfl rfl (fun _ => ⟨_, rfl, HN.out⟩) (fun uu hu => eC.one (chg k f t) uu hu) (by decide) (by omega) (Nat.le_trans HB.out HB3.out.size) ?_; intro A4 c4 w4 r1 r2 r3))
    go_ret
    have h1 := ow_app (e := eC) (x := chg k f t) r1
    rw [HZ.out] at h1
    refine ⟨A4, c4, ?_, h1, HB3.out.trans (r2.below (fun k hk => (HR.out.blk k hk).1) (Nat.le_trans HB.out HB3.out.size))⟩
    rw [← HZ.out, List.length_append]
    rfl
set_option maxHeartbeats 4000000 in
theorem put_any (B c : Nat) (A : Option Addr) (ys zs : List Ent) (k : Int) (s : Sd) (w : World) (h : Ow eE w B A ys.length c ys) (hB : B ≤ w.heap.size) (hn : ys.length ≤ 1000) (hz : ys ++ (enO1 k s).toList = zs) :
    Calls Try.prog 54 #[.slice A ys.length c, .int .i64 k, .agg #[.int .i64 s.v, .bool s.i]] w fun e w' => ∃ A' c', e = .returned (.slice A' zs.length c') ∧ Ow eE w' B A' zs.length c' zs ∧ Below B w w' := by
  have H := hide h
  have HB := hide hB
  unfold enO1 at hz
  obtain ⟨v, i⟩ := s
  clear h
  cases i
  · have HZ := hide (show ys = zs by rw [← hz]; exact (List.append_nil _).symm)
    clear hz
    go_enter Try.func54, Try.ntmps54
    go_wp2_with fail
    go_ret
    refine ⟨A, c, by rw [← HZ.out]; rfl, by rw [← HZ.out]; exact H.out.keep ((Below.refl _ _).alloc (Nat.le_refl _) _), ?_⟩
    exact (Below.refl _ _).alloc HB.out _
  · have HZ := hide (show ys ++ [⟨k, v⟩] = zs from hz)
    have HR := hide (show Ow eE ((w.alloc (.cells #[.int .i64 v, .bool true] 53)).alloc (.cells #[.int .i64 k, .int .i64 v] 43)) B A ys.length c ys from H.out.keep (((Below.refl _ _).alloc (Nat.le_refl _) _).alloc (by simp) _))
    have HN := hide (litE (g := w.heap.size + 1) (x := ⟨k, v⟩) (newE (w.alloc (.cells #[.int .i64 v, .bool true] 53)) #[.int .i64 k, .int .i64 v] 43 (by simp)))
    have HB3 := hide (show Below B w ((w.alloc (.cells #[.int .i64 v, .bool true] 53)).alloc (.cells #[.int .i64 k, .int .i64 v] 43)) from ((Below.refl _ _).alloc HB.out _).alloc (by simp; omega) _)
    clear hz
    go_enter Try.func54, Try.ntmps54
    go_wp2_with (at_builtin; go_loud (refine wpList_app_ow _ rfl _ _ 22 rfl B 43 _ 2 16 Try.underlying22 infoE rfl (by decide) _ _ _ _ rfl HR.out _ _ _ (eE.enc ⟨k, v⟩) rfl rfl (fun _ => ⟨_, rfl, HN.out⟩) (fun uu hu => eE.one ⟨k, v⟩ uu hu) (by decide) (by omega) (Nat.le_trans HB.out HB3.out.size) ?_; intro A4 c4 w4 r1 r2 r3))
    go_ret
    have h1 := ow_app (e := eE) (x := ⟨k, v⟩) r1
    rw [HZ.out] at h1
    refine ⟨A4, c4, ?_, h1, HB3.out.trans (r2.below (fun k hk => (HR.out.blk k hk).1) (Nat.le_trans HB.out HB3.out.size))⟩
    rw [← HZ.out, List.length_append]
    rfl
end Go.Proofs.Ytadmiecoahohiaa
