/- Arguments opened: decisions, marks, slices of calls. -/
import Derived.Test.YtalbdclcappjpaaGreatDW
import Derived.Test.YtalbdclcappjpaaGreatRows
import Derived.ProofKit
import Derived.Deep.Slices
import Derived.ChangeSlices
import Derived.ChangeArms
import Derived.Carry
import Derived.OpenShut
namespace Go.Proofs.YtalbdclcappjpaaGreat
open Go Go.RowKit Go.Lib
open Go.ChangeShapes Go.WideShapes Go.ChangeAt
theorem own : ownKnob Tryz.prog.godebug = none := by kernel_rfl
theorem laidOut : laidOutB Tryz.prog = true := by kernel_rfl
theorem cellsI1 : Tryz.prog.cellsOf 3 = 1 := by kernel_rfl
theorem cellsBo1 : Tryz.prog.cellsOf 4 = 1 := by kernel_rfl
theorem cellsO1 : Tryz.prog.cellsOf 48 = 8 := by kernel_rfl
theorem spot_none {w : World} {a : Addr} {u : Value} (h : w.cell? a = some u) : a = ⟨a.block, a.off, none⟩ := by
  obtain ⟨b, o, s⟩ := a
  cases s with
  | none => rfl
  | some k =>
    unfold World.cell? at h
    split at h
    · simp at h
    · cases h
theorem add_none (b o j : Nat) : (⟨b, o, none⟩ : Addr).add j = ⟨b, o + j, none⟩ := by
  unfold Addr.add
  split
  · rename_i h; subst h; rfl
  · rfl
theorem gather {α : Type} {P : Nat → α → Prop} : ∀ (n : Nat), (∀ i, i < n → ∃ x, P i x) → ∃ ys : List α, ys.length = n ∧ ∀ j y, ys[j]? = some y → P j y
  | 0, _ => ⟨[], rfl, fun j y h => by simp at h⟩
  | n + 1, h => by
    obtain ⟨ys, hl, hy⟩ := gather n fun i hi => h i (by omega)
    obtain ⟨x, hxy⟩ := h n (by omega)
    refine ⟨ys ++ [x], by simp [hl], fun j z hz => ?_⟩
    rcases Nat.lt_or_ge j ys.length with hj | hj
    · rw [List.getElem?_append_left hj] at hz
      exact hy j z hz
    · rw [List.getElem?_append_right hj] at hz
      have : j - ys.length = 0 := by
        rcases Nat.eq_zero_or_pos (j - ys.length) with h0 | h0
        · exact h0
        · rw [List.getElem?_eq_none (by simp; omega)] at hz; cases hz
      rw [this] at hz
      injection hz with hz
      subst hz
      rw [show j = n from by omega]
      exact hxy

theorem cellsD1 : Tryz.prog.cellsOf 44 = 5 := by kernel_rfl
set_option maxRecDepth 100000 in
theorem trodD {H : Type} {enc : TypeId × Value → H} {W : World} {fuel : Nat} {cs : List Value} {x : DataW H × List MemPlace} (ht : DataW.trod enc Tryz.prog W 0 (fun _ => true) true fuel 44 cs = some x) : ∃ y : Dec, cs = eD.enc y := by
  obtain ⟨xs, n', _, hx', hl', hlen, hall⟩ := DataW.trod_struct Tryz.underlying44 ht
  rw [cellsD1] at hl'
  obtain ⟨c0, c1, c2, c3, c4, rfl⟩ : ∃ c0 c1 c2 c3 c4, cs = [c0, c1, c2, c3, c4] := by
    match cs, hl' with
    | [c0, c1, c2, c3, c4], _ => exact ⟨c0, c1, c2, c3, c4, rfl⟩
  match xs, hlen with
  | [y0, y1, y2, y3, y4], _ =>
    have h0 := hall 0 _ rfl
    obtain ⟨x0, q0, -, -⟩ := DataW.trod_int Tryz.underlying3 h0
    have e0 : c0 = .int .i64 x0 := by
      have h9 := congrArg List.head? q0
      simpa [show Tryz.prog.cellsOf 3 = 1 from cellsI1] using h9
    have h1 := hall 1 _ rfl
    obtain ⟨x1, q1, -, -⟩ := DataW.trod_int Tryz.underlying3 h1
    have e1 : c1 = .int .i64 x1 := by
      have h9 := congrArg List.head? q1
      simpa [show Tryz.prog.cellsOf 3 = 1 from cellsI1] using h9
    have h2 := hall 2 _ rfl
    obtain ⟨x2, q2, -, -⟩ := DataW.trod_int Tryz.underlying3 h2
    have e2 : c2 = .int .i64 x2 := by
      have h9 := congrArg List.head? q2
      simpa [show Tryz.prog.cellsOf 3 = 1 from cellsI1] using h9
    have h3 := hall 3 _ rfl
    obtain ⟨x3, q3, -, -⟩ := DataW.trod_int Tryz.underlying3 h3
    have e3 : c3 = .int .i64 x3 := by
      have h9 := congrArg List.head? q3
      simpa [show Tryz.prog.cellsOf 3 = 1 from cellsI1] using h9
    have h4 := hall 4 _ rfl
    obtain ⟨x4, q4, -, -⟩ := DataW.trod_int Tryz.underlying3 h4
    have e4 : c4 = .int .i64 x4 := by
      have h9 := congrArg List.head? q4
      simpa [show Tryz.prog.cellsOf 3 = 1 from cellsI1] using h9
    exact ⟨⟨x0, x1, x2, x3, x4⟩, by rw [e0, e1, e2, e3, e4]; rfl⟩
set_option maxRecDepth 100000 in
theorem openD {H : Type} {enc : TypeId × Value → H} {W : World} {base : Nat} {v : Value} {d : DataW H} {p : List MemPlace} (hv : Value.okWide Tryz.prog W .any base 44 v)
    (h : DataW.Trod enc Tryz.prog W 0 (fun _ => true) true 44 v d p) : ∃ x : Dec, v = .agg #[.int .i64 x.u, .int .i64 x.n, .int .i64 x.k, .int .i64 x.a, .int .i64 x.b] := by
  obtain ⟨cs, rfl, hsz⟩ := okWide_struct Tryz.underlying44 hv
  obtain ⟨fuel, hf⟩ := h
  obtain ⟨x, hx⟩ := trodD hf
  refine ⟨x, ?_⟩
  have : cs.toList = eD.enc x := hx
  rw [show cs = (eD.enc x).toArray from by rw [← this]]
  rfl

theorem cellsM1 : Tryz.prog.cellsOf 46 = 2 := by kernel_rfl
set_option maxRecDepth 100000 in
theorem trodM {H : Type} {enc : TypeId × Value → H} {W : World} {fuel : Nat} {cs : List Value} {x : DataW H × List MemPlace} (ht : DataW.trod enc Tryz.prog W 0 (fun _ => true) true fuel 46 cs = some x) : ∃ y : Mk, cs = eM.enc y := by
  obtain ⟨xs, n', _, hx', hl', hlen, hall⟩ := DataW.trod_struct Tryz.underlying46 ht
  rw [cellsM1] at hl'
  obtain ⟨c0, c1, rfl⟩ : ∃ c0 c1, cs = [c0, c1] := by
    match cs, hl' with
    | [c0, c1], _ => exact ⟨c0, c1, rfl⟩
  match xs, hlen with
  | [y0, y1], _ =>
    have h0 := hall 0 _ rfl
    obtain ⟨x0, q0, -, -⟩ := DataW.trod_int Tryz.underlying3 h0
    have e0 : c0 = .int .i64 x0 := by
      have h9 := congrArg List.head? q0
      simpa [show Tryz.prog.cellsOf 3 = 1 from cellsI1] using h9
    have h1 := hall 1 _ rfl
    obtain ⟨x1, q1, -, -⟩ := DataW.trod_int Tryz.underlying3 h1
    have e1 : c1 = .int .i64 x1 := by
      have h9 := congrArg List.head? q1
      simpa [show Tryz.prog.cellsOf 3 = 1 from cellsI1] using h9
    exact ⟨⟨x0, x1⟩, by rw [e0, e1]; rfl⟩
set_option maxRecDepth 100000 in
theorem openM {H : Type} {enc : TypeId × Value → H} {W : World} {base : Nat} {v : Value} {d : DataW H} {p : List MemPlace} (hv : Value.okWide Tryz.prog W .any base 46 v)
    (h : DataW.Trod enc Tryz.prog W 0 (fun _ => true) true 46 v d p) : ∃ x : Mk, v = .agg #[.int .i64 x.u, .int .i64 x.n] := by
  obtain ⟨cs, rfl, hsz⟩ := okWide_struct Tryz.underlying46 hv
  obtain ⟨fuel, hf⟩ := h
  obtain ⟨x, hx⟩ := trodM hf
  refine ⟨x, ?_⟩
  have : cs.toList = eM.enc x := hx
  rw [show cs = (eM.enc x).toArray from by rw [← this]]
  rfl

set_option maxRecDepth 100000 in
theorem trodO {H : Type} {enc : TypeId × Value → H} {W : World} {fuel : Nat} {cs : List Value} {x : DataW H × List MemPlace} (ht : DataW.trod enc Tryz.prog W 0 (fun _ => true) true fuel 48 cs = some x) : ∃ y : Opr, cs = eO.enc y := by
  obtain ⟨xs, n', _, hx', hl', hlen, hall⟩ := DataW.trod_struct Tryz.underlying48 ht
  rw [cellsO1] at hl'
  obtain ⟨c0, c1, c2, c3, c4, c5, c6, c7, rfl⟩ : ∃ c0 c1 c2 c3 c4 c5 c6 c7, cs = [c0, c1, c2, c3, c4, c5, c6, c7] := by
    match cs, hl' with
    | [c0, c1, c2, c3, c4, c5, c6, c7], _ => exact ⟨c0, c1, c2, c3, c4, c5, c6, c7, rfl⟩
  match xs, hlen with
  | [y0, y1, y2], _ =>
    have h0 := hall 0 _ rfl
    have h1 := hall 1 _ rfl
    have h2 := hall 2 _ rfl
    obtain ⟨b, q0, -⟩ := DataW.trod_bool Tryz.underlying4 h0
    have e0 : c0 = .bool b := by
      have h9 := congrArg List.head? q0
      simpa [show Tryz.prog.cellsOf 4 = 1 from cellsBo1] using h9
    obtain ⟨d, q1⟩ := trodD h1
    obtain ⟨m, q2⟩ := trodM h2
    have q1' : [c1, c2, c3, c4, c5] = eD.enc d := by
      simpa [show Tryz.prog.cellsOf 44 = 5 from cellsD1] using q1
    have q2' : [c6, c7] = eM.enc m := by
      simpa [show Tryz.prog.cellsOf 46 = 2 from cellsM1] using q2
    refine ⟨⟨b, d, m⟩, ?_⟩
    have : [c0, c1, c2, c3, c4, c5, c6, c7] = [c0] ++ [c1, c2, c3, c4, c5] ++ [c6, c7] := rfl
    rw [this, q1', q2', e0]
    rfl
set_option maxRecDepth 100000 in
theorem openO {H : Type} {enc : TypeId × Value → H} {W : World} {base : Nat} {v : Value} {d : DataW H} {p : List MemPlace} (hv : Value.okWide Tryz.prog W .any base 22 v)
    (h : DataW.Trod enc Tryz.prog W 0 (fun _ => true) true 22 v d p) : ∃ (A : Option Addr) (n c : Nat) (ys : List Opr), v = .slice A n c ∧ AR W W.heap.size A n ys ∧ n ≤ maxLen := by
  obtain ⟨A, len, cap, rfl⟩ := okWide_slice Tryz.underlying22 hv
  obtain ⟨fuel, hf⟩ := h
  rcases Go.Deep.open_slice Tryz.underlying22 hf with ⟨hcs, _⟩ | ⟨a, len', cap', m, n, D, Pl, hcs, hb, hl, hm, hmm, hx, hi⟩
  · simp [Value.cells] at hcs
    obtain ⟨rfl, rfl, rfl⟩ := hcs
    exact ⟨_, _, _, [], rfl, ⟨SL.nil_ _ _, fun h => absurd h (by decide)⟩, by simp [maxLen]⟩
  · simp [Value.cells] at hcs
    obtain ⟨rfl, rfl, rfl⟩ := hcs
    simp only [if_true] at hmm
    have hcell : ∀ i, i < len → ∃ x : Opr, ∀ k u, (eO.enc x)[k]? = some u → W.cell? (a.add (i * 8 + k)) = some u := by
      intro i hil
      obtain ⟨cs', hc, ht⟩ := hi i (by omega)
      rw [cellsO1] at hc
      obtain ⟨_, hcl, hat⟩ := World.cells?_some hc
      obtain ⟨x, hxe⟩ := trodO ht
      refine ⟨x, fun k u hu => ?_⟩
      have hk : k < 8 := (List.getElem?_eq_some_iff.1 hu).1
      have ak := hat k (by omega)
      rw [Go.Deep.add_add] at ak
      rw [ak, ← hu, hxe]
    obtain ⟨ys, hyl, hys⟩ := gather len hcell
    have main : SL eO W (some a) len ys := by
      refine ⟨hyl, fun hn => ?_⟩
      obtain ⟨x, hx0⟩ := hcell 0 hn
      have hx0 := hx0 0 _ rfl
      have ea : a = ⟨a.block, a.off, none⟩ := spot_none (w := W) (a := a) (by simpa [Addr.add] using hx0)
      refine ⟨a.block, a.off, by rw [← ea], ?_, fun j u hu => ?_⟩
      · have := World.block_lt_of_cell? W (a.add (0 * 8 + 0)) hx0
        rw [ea] at this
        simpa [Addr.add] using this
      · have hj : j < ys.length * 8 := by
          have := (List.getElem?_eq_some_iff.1 hu).1
          rwa [flatE_len] at this
        have hg : ys[j / 8]? = some (ys[j / 8]'(by omega)) := List.getElem?_eq_getElem (by omega)
        have hc := hys _ _ hg
        have hf := flatE_get (e := eO) _ _ (j % 8) _ hg (show j % 8 < 8 by omega)
        rw [show j / 8 * eO.k + j % 8 = j by show j / 8 * 8 + j % 8 = j; omega, hu] at hf
        have := hc (j % 8) u hf.symm
        rw [show j / 8 * 8 + j % 8 = j by omega, ea, add_none] at this
        exact this
    refine ⟨_, _, _, ys, rfl, ⟨main, fun hn g hg => ?_⟩, by omega⟩
    obtain ⟨b, o, e, hbl⟩ := main.base hn
    rw [e, blk_some] at hg
    omega
end Go.Proofs.YtalbdclcappjpaaGreat
