/- The reference's with: numbers in order, and one more. -/
import Derived.Test.YtlnajliobebgdaaUH
import Derived.Shelf.RegionOpenPlain
import Derived.Deep.RegionHeld3
namespace Go.Proofs.Ytlnajliobebgdaa
open Go Go.RowKit Go.Lib
theorem bxD {W : World} {g : Nat} {vs : Array Value} {t : TypeId} (h : Box W g vs t) : Box W.drew g vs t := h
theorem bxA {W : World} {g : Nat} {vs : Array Value} {t : TypeId} (h : Box W g vs t) (o : Obj) : Box (W.alloc o) g vs t := h.alloc o
theorem own_lit {W : World} {g B : Nat} (h : Box W g #[] 3) (hB : B ≤ g) : W.ownsRow B 3 1 (.slice (some ⟨g, 0, none⟩) 0 0) 0 [] :=
  ⟨by simp, .inr ⟨g, 0, #[], rfl, hB, h, Nat.le_refl _, by simp [maxLen], by simp, by simp⟩⟩
/-- a row of numbers that may be cut -/
def SK (w : World) (A : Option Addr) (n c : Nat) (ys : List Int) : Prop := SL eI w A n ys ∧ n ≤ c ∧ c ≤ maxLen ∧ ∀ b o s, A = some ⟨b, o, s⟩ → s = none
theorem SK.keep {w w' : World} {A : Option Addr} {n c : Nat} {ys : List Int} (h : SK w A n c ys) (hb : Below w.heap.size w w') : SK w' A n c ys := ⟨h.1.keep hb, h.2⟩
theorem Ow.sk {w : World} {B : Nat} {A : Option Addr} {n c : Nat} {ys : List Int} (h : Ow eI w B A n c ys) : SK w A n c ys := ⟨h.sl, h.le.1, h.le.2, fun b o s e => by
  rcases h.2 with ⟨h1, _⟩ | ⟨g, _, _, h1, _⟩
  · injection h1 with h1; rw [h1] at e; cases e
  · injection h1 with h1; rw [h1] at e; injection e with e; injection e with _ _ e; exact e.symm⟩
theorem SL.fromI {w : World} {b o n k : Nat} {ys : List Int} (h : SL eI w (some ⟨b, o, none⟩) n ys) (_hk : k < n) : SL eI w (some ⟨b, o + k, none⟩) (n - k) (ys.drop k) :=
  ⟨by rw [List.length_drop, h.1], fun _ => by
    obtain ⟨b', o', e, hl, hc⟩ := h.2 (by omega)
    injection e with e
    injection e with e1 e2
    subst e1; subst e2
    refine ⟨_, _, rfl, hl, fun j u hj => ?_⟩
    rw [flatE_drop, List.getElem?_drop] at hj
    have := hc _ u hj
    rwa [show k * eI.k = k from Nat.mul_one k, ← Nat.add_assoc] at this⟩
theorem SL.toI {w : World} {A : Option Addr} {n k : Nat} {ys : List Int} (h : SL eI w A n ys) (hk : k ≤ n) : SL eI w A k (ys.take k) :=
  ⟨by rw [List.length_take, h.1]; omega, fun hn => by
    obtain ⟨b, o, e, hl, hc⟩ := h.2 (by omega)
    refine ⟨_, _, e, hl, fun j u hj => hc j u ?_⟩
    rw [flatE_take, List.getElem?_take] at hj
    split at hj
    · exact hj
    · cases hj⟩
theorem put_ins {ys : List Int} {x : Int} {k : Nat} (hn : x ∉ ys) (hk : k = cnt idK x ys) : put idK ys x = insA ys k x := by
  unfold put
  rw [if_neg hn, hk]
  rfl

end Go.Proofs.Ytlnajliobebgdaa
