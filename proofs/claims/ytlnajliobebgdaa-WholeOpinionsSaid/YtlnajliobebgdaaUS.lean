/- Compose, of the reference. -/
import Derived.Test.YtlnajliobebgdaaUR
namespace Go.Proofs.Ytlnajliobebgdaa
open Go Go.RowKit Go.Lib
def cfK (c d : List Chg) (k : Int) : Bool := match hitC c k with
  | some x => cfC1 d x
  | none => false
theorem cfK_hit {c d : List Chg} {k : Int} {x y : Chg} (hx : hitC c k = some x) (hk : x.k = k) (hy : hitC d k = some y) : cfK c d k = decide (x.new ≠ y.old) := by
  unfold cfK
  rw [hx]
  exact cfC1_hit (by rw [hk]; exact hy)
theorem cfK_n1 {c d : List Chg} {k : Int} (hx : hitC c k = none) : cfK c d k = false := by unfold cfK; rw [hx]
theorem cfK_n2 {c d : List Chg} {k : Int} {x : Chg} (hx : hitC c k = some x) (hk : x.k = k) (hy : hitC d k = none) : cfK c d k = false := by
  unfold cfK
  rw [hx]
  exact cfC1_none (by rw [hk]; exact hy)
theorem cfK_no {c d : List Chg} (hc : Srt Chg.k c) (h : ∀ k ∈ coK c d, cfK c d k = false) : cfC c d = false := by
  refine cfC_no fun x hx => ?_
  have h1 := h x.k (mem_coK.2 (.inl ⟨x, hx, rfl⟩))
  unfold cfK at h1
  rw [(hitC_iff hc).2 ⟨hx, rfl⟩] at h1
  exact h1
theorem cfK_yes {c d : List Chg} (_hc : Srt Chg.k c) {k : Int} (h : cfK c d k = true) : cfC c d = true := by
  unfold cfK at h
  cases hh : hitC c k with
  | none => rw [hh] at h; cases h
  | some x =>
    rw [hh] at h
    unfold cfC
    rw [List.any_eq_true]
    exact ⟨x, (find_some (κ := Chg.k) hh).1, h⟩
theorem coO_n2 {c d : List Chg} {k : Int} {x : Chg} (hx : hitC c k = some x) (hy : hitC d k = none) : coO c d k = some x := by unfold coO; rw [hx, hy]
theorem coO_n1 {c d : List Chg} {k : Int} {y : Chg} (hx : hitC c k = none) (hy : hitC d k = some y) : coO c d k = some y := by unfold coO; rw [hx]; exact hy
theorem coO_two {c d : List Chg} {k : Int} {x y : Chg} (hx : hitC c k = some x) (hk : x.k = k) (hy : hitC d k = some y) : coO c d k = chO1 k ⟨x.o, x.h⟩ ⟨y.n, y.s⟩ := by unfold coO; rw [hx, hy, ← hk]; rfl
theorem mapC_next {l : List Chg} {m : Nat} {y : Chg} (h : l[m]? = some y) : (l.take (m + 1)).map Chg.k = (l.take m).map Chg.k ++ [y.k] := by
  rw [take_next h, List.map_append]; rfl

end Go.Proofs.Ytlnajliobebgdaa
