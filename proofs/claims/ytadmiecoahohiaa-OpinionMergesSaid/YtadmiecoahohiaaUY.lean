/- Arguments opened: slices of entries and of changes. -/
import Derived.Test.YtadmiecoahohiaaUT
import Derived.Test.YtadmiecoahohiaaRows
import Derived.ProofKit
import Derived.Deep.Slices
import Derived.ChangeSlices
import Derived.ChangeArms
import Derived.Carry
import Derived.OpenShut
namespace Go.Proofs.Ytadmiecoahohiaa
open Go Go.RowKit Go.Lib
open Go.ChangeShapes Go.WideShapes Go.ChangeAt
theorem own : ownKnob Try.prog.godebug = none := by kernel_rfl
theorem laidOut : laidOutB Try.prog = true := by kernel_rfl
theorem cellsI1 : Try.prog.cellsOf 3 = 1 := by kernel_rfl
theorem cellsBo1 : Try.prog.cellsOf 4 = 1 := by kernel_rfl
theorem spot_none {w : World} {a : Addr} {u : Value} (h : w.cell? a = some u) : a = ⟨a.block, a.off, none⟩ := by
  obtain ⟨b, o, s⟩ := a
  cases s with
  | none => rfl
  | some k =>
    unfold World.cell? at h
    split at h
    · simp at h
    · cases h
theorem add_none (b o j : Nat) : (⟨b, o, none⟩ : Addr).add j = ⟨b, o + j, none⟩ := by
  unfold Addr.add
  split
  · rename_i h; subst h; rfl
  · rfl
theorem gather {α : Type} {P : Nat → α → Prop} : ∀ (n : Nat), (∀ i, i < n → ∃ x, P i x) → ∃ ys : List α, ys.length = n ∧ ∀ j y, ys[j]? = some y → P j y
  | 0, _ => ⟨[], rfl, fun j y h => by simp at h⟩
  | n + 1, h => by
    obtain ⟨ys, hl, hy⟩ := gather n fun i hi => h i (by omega)
    obtain ⟨x, hxy⟩ := h n (by omega)
    refine ⟨ys ++ [x], by simp [hl], fun j z hz => ?_⟩
    rcases Nat.lt_or_ge j ys.length with hj | hj
    · rw [List.getElem?_append_left hj] at hz
      exact hy j z hz
    · rw [List.getElem?_append_right hj] at hz
      have : j - ys.length = 0 := by
        rcases Nat.eq_zero_or_pos (j - ys.length) with h0 | h0
        · exact h0
        · rw [List.getElem?_eq_none (by simp; omega)] at hz; cases hz
      rw [this] at hz
      injection hz with hz
      subst hz
      rw [show j = n from by omega]
      exact hxy

theorem cellsE1 : Try.prog.cellsOf 43 = 2 := by kernel_rfl
set_option maxRecDepth 100000 in
theorem trodE {H : Type} {enc : TypeId × Value → H} {W : World} {fuel : Nat} {cs : List Value} {x : DataW H × List MemPlace} (ht : DataW.trod enc Try.prog W 0 (fun _ => true) true fuel 43 cs = some x) : ∃ y : Ent, cs = eE.enc y := by
  obtain ⟨xs, n', _, hx', hl', hlen, hall⟩ := DataW.trod_struct Try.underlying43 ht
  rw [cellsE1] at hl'
  obtain ⟨c0, c1, rfl⟩ : ∃ c0 c1, cs = [c0, c1] := by
    match cs, hl' with
    | [c0, c1], _ => exact ⟨c0, c1, rfl⟩
  match xs, hlen with
  | [y0, y1], _ =>
    have h0 := hall 0 _ rfl
    obtain ⟨x0, q0, -, -⟩ := DataW.trod_int Try.underlying3 h0
    have e0 : c0 = .int .i64 x0 := by
      have h9 := congrArg List.head? q0
      simpa [show Try.prog.cellsOf 3 = 1 from cellsI1] using h9
    have h1 := hall 1 _ rfl
    obtain ⟨x1, q1, -, -⟩ := DataW.trod_int Try.underlying3 h1
    have e1 : c1 = .int .i64 x1 := by
      have h9 := congrArg List.head? q1
      simpa [show Try.prog.cellsOf 3 = 1 from cellsI1] using h9
    exact ⟨⟨x0, x1⟩, by rw [e0, e1]; rfl⟩
set_option maxRecDepth 100000 in
theorem openE {H : Type} {enc : TypeId × Value → H} {W : World} {base : Nat} {v : Value} {d : DataW H} {p : List MemPlace} (hv : Value.okWide Try.prog W .any base 22 v)
    (h : DataW.Trod enc Try.prog W 0 (fun _ => true) true 22 v d p) : ∃ (A : Option Addr) (n c : Nat) (ys : List Ent), v = .slice A n c ∧ SL eE W A n ys ∧ n ≤ maxLen := by
  obtain ⟨A, len, cap, rfl⟩ := okWide_slice Try.underlying22 hv
  obtain ⟨fuel, hf⟩ := h
  rcases Go.Deep.open_slice Try.underlying22 hf with ⟨hcs, _⟩ | ⟨a, len', cap', m, n, D, Pl, hcs, hb, hl, hm, hmm, hx, hi⟩
  · simp [Value.cells] at hcs
    obtain ⟨rfl, rfl, rfl⟩ := hcs
    exact ⟨_, _, _, [], rfl, SL.nil_ _ _, by simp [maxLen]⟩
  · simp [Value.cells] at hcs
    obtain ⟨rfl, rfl, rfl⟩ := hcs
    simp only [if_true] at hmm
    have hcell : ∀ i, i < len → ∃ x : Ent, ∀ k u, (eE.enc x)[k]? = some u → W.cell? (a.add (i * 2 + k)) = some u := by
      intro i hil
      obtain ⟨cs', hc, ht⟩ := hi i (by omega)
      rw [cellsE1] at hc
      obtain ⟨_, hcl, hat⟩ := World.cells?_some hc
      obtain ⟨x, hxe⟩ := trodE ht
      refine ⟨x, fun k u hu => ?_⟩
      have hk : k < 2 := (List.getElem?_eq_some_iff.1 hu).1
      have ak := hat k (by omega)
      rw [Go.Deep.add_add] at ak
      rw [ak, ← hu, hxe]
    obtain ⟨ys, hyl, hys⟩ := gather len hcell
    have main : SL eE W (some a) len ys := by
      refine ⟨hyl, fun hn => ?_⟩
      obtain ⟨x, hx0⟩ := hcell 0 hn
      have hx0 := hx0 0 _ rfl
      have ea : a = ⟨a.block, a.off, none⟩ := spot_none (w := W) (a := a) (by simpa [Addr.add] using hx0)
      refine ⟨a.block, a.off, by rw [← ea], ?_, fun j u hu => ?_⟩
      · have := World.block_lt_of_cell? W (a.add (0 * 2 + 0)) hx0
        rw [ea] at this
        simpa [Addr.add] using this
      · have hj : j < ys.length * 2 := by
          have := (List.getElem?_eq_some_iff.1 hu).1
          rwa [flatE_len] at this
        have hg : ys[j / 2]? = some (ys[j / 2]'(by omega)) := List.getElem?_eq_getElem (by omega)
        have hc := hys _ _ hg
        have hf := flatE_get (e := eE) _ _ (j % 2) _ hg (show j % 2 < 2 by omega)
        rw [show j / 2 * eE.k + j % 2 = j by show j / 2 * 2 + j % 2 = j; omega, hu] at hf
        have := hc (j % 2) u hf.symm
        rw [show j / 2 * 2 + j % 2 = j by omega, ea, add_none] at this
        exact this
    exact ⟨_, _, _, ys, rfl, main, by omega⟩

theorem cellsC1 : Try.prog.cellsOf 46 = 5 := by kernel_rfl
set_option maxRecDepth 100000 in
theorem trodC {H : Type} {enc : TypeId × Value → H} {W : World} {fuel : Nat} {cs : List Value} {x : DataW H × List MemPlace} (ht : DataW.trod enc Try.prog W 0 (fun _ => true) true fuel 46 cs = some x) : ∃ y : Chg, cs = eC.enc y := by
  obtain ⟨xs, n', _, hx', hl', hlen, hall⟩ := DataW.trod_struct Try.underlying46 ht
  rw [cellsC1] at hl'
  obtain ⟨c0, c1, c2, c3, c4, rfl⟩ : ∃ c0 c1 c2 c3 c4, cs = [c0, c1, c2, c3, c4] := by
    match cs, hl' with
    | [c0, c1, c2, c3, c4], _ => exact ⟨c0, c1, c2, c3, c4, rfl⟩
  match xs, hlen with
  | [y0, y1, y2, y3, y4], _ =>
    have h0 := hall 0 _ rfl
    obtain ⟨x0, q0, -, -⟩ := DataW.trod_int Try.underlying3 h0
    have e0 : c0 = .int .i64 x0 := by
      have h9 := congrArg List.head? q0
      simpa [show Try.prog.cellsOf 3 = 1 from cellsI1] using h9
    have h1 := hall 1 _ rfl
    obtain ⟨x1, q1, -, -⟩ := DataW.trod_int Try.underlying3 h1
    have e1 : c1 = .int .i64 x1 := by
      have h9 := congrArg List.head? q1
      simpa [show Try.prog.cellsOf 3 = 1 from cellsI1] using h9
    have h2 := hall 2 _ rfl
    obtain ⟨x2, q2, -, -⟩ := DataW.trod_int Try.underlying3 h2
    have e2 : c2 = .int .i64 x2 := by
      have h9 := congrArg List.head? q2
      simpa [show Try.prog.cellsOf 3 = 1 from cellsI1] using h9
    have h3 := hall 3 _ rfl
    obtain ⟨x3, q3, -⟩ := DataW.trod_bool Try.underlying4 h3
    have e3 : c3 = .bool x3 := by
      have h9 := congrArg List.head? q3
      simpa [show Try.prog.cellsOf 4 = 1 from cellsBo1] using h9
    have h4 := hall 4 _ rfl
    obtain ⟨x4, q4, -⟩ := DataW.trod_bool Try.underlying4 h4
    have e4 : c4 = .bool x4 := by
      have h9 := congrArg List.head? q4
      simpa [show Try.prog.cellsOf 4 = 1 from cellsBo1] using h9
    exact ⟨⟨x0, x1, x2, x3, x4⟩, by rw [e0, e1, e2, e3, e4]; rfl⟩
set_option maxRecDepth 100000 in
theorem openC {H : Type} {enc : TypeId × Value → H} {W : World} {base : Nat} {v : Value} {d : DataW H} {p : List MemPlace} (hv : Value.okWide Try.prog W .any base 23 v)
    (h : DataW.Trod enc Try.prog W 0 (fun _ => true) true 23 v d p) : ∃ (A : Option Addr) (n c : Nat) (ys : List Chg), v = .slice A n c ∧ SL eC W A n ys ∧ n ≤ maxLen := by
  obtain ⟨A, len, cap, rfl⟩ := okWide_slice Try.underlying23 hv
  obtain ⟨fuel, hf⟩ := h
  rcases Go.Deep.open_slice Try.underlying23 hf with ⟨hcs, _⟩ | ⟨a, len', cap', m, n, D, Pl, hcs, hb, hl, hm, hmm, hx, hi⟩
  · simp [Value.cells] at hcs
    obtain ⟨rfl, rfl, rfl⟩ := hcs
    exact ⟨_, _, _, [], rfl, SL.nil_ _ _, by simp [maxLen]⟩
  · simp [Value.cells] at hcs
    obtain ⟨rfl, rfl, rfl⟩ := hcs
    simp only [if_true] at hmm
    have hcell : ∀ i, i < len → ∃ x : Chg, ∀ k u, (eC.enc x)[k]? = some u → W.cell? (a.add (i * 5 + k)) = some u := by
      intro i hil
      obtain ⟨cs', hc, ht⟩ := hi i (by omega)
      rw [cellsC1] at hc
      obtain ⟨_, hcl, hat⟩ := World.cells?_some hc
      obtain ⟨x, hxe⟩ := trodC ht
      refine ⟨x, fun k u hu => ?_⟩
      have hk : k < 5 := (List.getElem?_eq_some_iff.1 hu).1
      have ak := hat k (by omega)
      rw [Go.Deep.add_add] at ak
      rw [ak, ← hu, hxe]
    obtain ⟨ys, hyl, hys⟩ := gather len hcell
    have main : SL eC W (some a) len ys := by
      refine ⟨hyl, fun hn => ?_⟩
      obtain ⟨x, hx0⟩ := hcell 0 hn
      have hx0 := hx0 0 _ rfl
      have ea : a = ⟨a.block, a.off, none⟩ := spot_none (w := W) (a := a) (by simpa [Addr.add] using hx0)
      refine ⟨a.block, a.off, by rw [← ea], ?_, fun j u hu => ?_⟩
      · have := World.block_lt_of_cell? W (a.add (0 * 5 + 0)) hx0
        rw [ea] at this
        simpa [Addr.add] using this
      · have hj : j < ys.length * 5 := by
          have := (List.getElem?_eq_some_iff.1 hu).1
          rwa [flatE_len] at this
        have hg : ys[j / 5]? = some (ys[j / 5]'(by omega)) := List.getElem?_eq_getElem (by omega)
        have hc := hys _ _ hg
        have hf := flatE_get (e := eC) _ _ (j % 5) _ hg (show j % 5 < 5 by omega)
        rw [show j / 5 * eC.k + j % 5 = j by show j / 5 * 5 + j % 5 = j; omega, hu] at hf
        have := hc (j % 5) u hf.symm
        rw [show j / 5 * 5 + j % 5 = j by omega, ea, add_none] at this
        exact this
    exact ⟨_, _, _, ys, rfl, main, by omega⟩
end Go.Proofs.Ytadmiecoahohiaa
