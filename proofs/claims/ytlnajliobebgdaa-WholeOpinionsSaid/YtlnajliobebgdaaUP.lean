/- Apply, of the reference. -/
import Derived.Test.YtlnajliobebgdaaUO
namespace Go.Proofs.Ytlnajliobebgdaa
open Go Go.RowKit Go.Lib
theorem fl_one (A1 : Option Addr) (n1 c1 : Nat) (a : List Ent) : fl [⟨A1, n1, c1, a⟩] = a.map Ent.k := by unfold fl; simp
theorem ll_one {w : World} {g : Nat} {t : TypeId} {A1 : Option Addr} {n1 c1 : Nat} {a : List Ent} (hg : Box w g #[.slice A1 n1 c1] t) (ha : SL eE w A1 n1 a) : LL w g [⟨A1, n1, c1, a⟩] :=
  ⟨hg.lt, fun j x hx => by
    match j, hx with
    | 0, hx => injection hx with hx; subst hx; exact ⟨hg.at_ 0, ha⟩
    | j + 1, hx => simp at hx⟩
theorem nwC_hit {a : List Ent} {c : List Chg} {k : Int} {y : Chg} (h : hitC c k = some y) : nwC a c k = y.new := by unfold nwC; rw [h]
theorem nwC_none {a : List Ent} {c : List Chg} {k : Int} (h : hitC c k = none) : nwC a c k = at' a k := by unfold nwC; rw [h]
theorem enO1_len (k : Int) (s : Sd) : (enO1 k s).toList.length ≤ 1 := by cases enO1 k s <;> simp
theorem chO1_len (k : Int) (f t : Sd) : (chO1 k f t).toList.length ≤ 1 := by cases chO1 k f t <;> simp
theorem setBox {W : World} {g : Nat} {a b : Value} {t : TypeId} (h : Box W g #[a, b] t) (x y : Value) : Box ((W.setCell ⟨g, 0, none⟩ x).setCell ⟨g, 1, none⟩ y) g #[x, y] t := (h.set_ 0 x).set_ 1 y

end Go.Proofs.Ytlnajliobebgdaa
