/- Appending one element to an own row; the reference's change and put. -/
import Derived.Test.YtlnajliobebgdaaUB
namespace Go.Proofs.Ytlnajliobebgdaa
open Go Go.RowKit Go.Lib
theorem ow_app {α : Type} {e : En α} {w : World} {B c : Nat} {A : Option Addr} {ys : List α} {x : α} (h : w.ownsRow B e.t e.k (.slice A (ys.length + 1) c) (ys.length + 1) (flatE e ys ++ e.enc x)) : Ow e w B A (ys ++ [x]).length c (ys ++ [x]) := by
  unfold Ow
  rw [flatE_app, flatE_cons, flatE_nil, List.append_nil, List.length_append]
  exact h

theorem litE {w : World} {g : Nat} {t : TypeId} {x : Ent} (h : Box w g #[.int .i64 x.k, .int .i64 x.v] t) : ∀ j u, (eE.enc x)[j]? = some u → w.cell? ((⟨g, 0, none⟩ : Addr).add j) = some u := by
  obtain ⟨a, e, hc⟩ := srcE (boxE h) (by decide)
  injection e with e
  subst e
  intro j u hj
  refine hc j u ?_
  rw [flatE_cons, flatE_nil, List.append_nil]
  exact hj

theorem litC {w : World} {g : Nat} {t : TypeId} {x : Chg} (h : Box w g #[.int .i64 x.k, .int .i64 x.o, .int .i64 x.n, .bool x.h, .bool x.s] t) : ∀ j u, (eC.enc x)[j]? = some u → w.cell? ((⟨g, 0, none⟩ : Addr).add j) = some u := by
  obtain ⟨a, e, hc⟩ := srcC (boxC h) (by decide)
  injection e with e
  subst e
  intro j u hj
  refine hc j u ?_
  rw [flatE_cons, flatE_nil, List.append_nil]
  exact hj

theorem litI {w : World} {g : Nat} {t : TypeId} {x : Int} (h : Box w g #[.int .i64 x] t) : ∀ j u, (eI.enc x)[j]? = some u → w.cell? ((⟨g, 0, none⟩ : Addr).add j) = some u := by
  obtain ⟨a, e, hc⟩ := srcI (boxI h) (by decide)
  injection e with e
  subst e
  intro j u hj
  refine hc j u ?_
  rw [flatE_cons, flatE_nil, List.append_nil]
  exact hj

def chO1 (k : Int) (f t : Sd) : Option Chg := if f = t then none else some (chg k f t)
def enO1 (k : Int) (s : Sd) : Option Ent := if s.i = true then some ⟨k, s.v⟩ else none
end Go.Proofs.Ytlnajliobebgdaa
