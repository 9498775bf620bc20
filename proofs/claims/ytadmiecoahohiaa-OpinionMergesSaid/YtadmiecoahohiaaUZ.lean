/- A store into a side's box, as a step of a region. -/
import Derived.Test.YtadmiecoahohiaaUV
import Derived.Test.YtadmiecoahohiaaUF
namespace Go.Proofs.Ytadmiecoahohiaa
open Go Go.RowKit Go.Lib
theorem lat {P : Program} {ops : Array Oper} {Q : Exit → Act → World → Prop} {md : Region.Mode} {S : World → Prop} (Φ : Nat → Array Bool → Act → World → Prop)
    (step : ∀ f l a w, Φ f l a w → wpAnyH P md ops Q S f l a w ∨ ∃ f', f = f' + 1 ∧ Region.ready md ops l ≠ [] ∧ ∀ i ∈ Region.ready md ops l, wpOp P ops Q i (fun a' w' => S w' ∧ Φ f' (l.setIfInBounds i true) a' w') a w) : ∀ f l a w, Φ f l a w → wpAnyH P md ops Q S f l a w := by
  intro f
  induction f with
  | zero =>
    intro l a w h
    rcases step 0 l a w h with h | ⟨f', e, _⟩
    · exact h
    · omega
  | succ f ih =>
    intro l a w h
    rcases step _ l a w h with h | ⟨f', e, hne, hs⟩
    · exact h
    · obtain rfl : f' = f := by omega
      exact wpAnyH_ready rfl hne (fun i hi => wpOp_mono (fun a' w' h => ⟨h.1, ih _ _ _ h.2⟩) (hs i hi))
theorem boxGr_ {W W' : World} {g : Nat} {vs : Array Value} {t : TypeId} (h : Box W g vs t) (b : Gr W W') : Box W' g vs t := h.below' b.below
theorem bxS {W : World} {g g' : Nat} {vs : Array Value} {t : TypeId} (h : Box W g vs t) (x y : Value) (hne : g ≠ g') : Box ((W.setCell ⟨g', 0, none⟩ x).setCell ⟨g', 1, none⟩ y) g vs t := (h.far (p := ⟨g', 0, none⟩) hne x).far (p := ⟨g', 1, none⟩) hne y
set_option maxRecDepth 100000 in
theorem step_storeR {ops : Array Oper} {o : Oper} {a : Act} {w : World} {K : Act → World → Prop} {Q : Exit → Act → World → Prop} {E : Prop} (hg : o.guard = none) (d x : Operand) (hop : o.op = Op.store 53 d x) (hdst : o.dst = none)
    (g : Nat) (v1 : Int) (v2 : Bool) {a0 b0 : Value} {t : TypeId} (hd : a.eval d = .pointer (some ⟨g, 0, none⟩)) (hx : a.eval x = .agg #[.int .i64 v1, .bool v2]) (hb : Box w g #[a0, b0] t)
    (hK : K a ((w.setCell ⟨g, 0, none⟩ (.int .i64 v1)).setCell ⟨g, 1, none⟩ (.bool v2))) : if Region.wanted o (yielded ops a.tmps) = true then Oper.wp Try.prog o a w K Q else E := by
  have hw : Region.wanted o (yielded ops a.tmps) = true := by simp [Region.wanted, hg]
  rw [if_pos hw]
  have k0 := hb.at_ 0
  have f0 := hb.frozen 0
  have hB1 := hb.set_ 0 (.int .i64 v1)
  have k1 := hB1.at_ 1
  have f1 := hB1.frozen 1
  simp only [List.getElem?_toArray, List.setIfInBounds_toArray, List.set_cons_zero, List.getElem?_cons_zero, List.getElem?_cons_succ] at k0 k1
  have u := Try.underlying53
  have i := Try.isAgg53
  have z := Try.sizeOf53
  unfold Oper.wp
  simp only [execOp, hop, hd, hx]
  simp [go_sem, k0, f0, k1, f1, z, Result.andThen]
  rw [hdst]
  exact hK
end Go.Proofs.Ytadmiecoahohiaa
