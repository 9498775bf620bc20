/- Arguments opened. -/
import Derived.Test.YtgmdfaamheblmaaPArc
import Derived.Test.YtgmdfaamheblmaaRows
import Derived.ProofKit
import Derived.Deep.Slices
import Derived.ChangeSlices
import Derived.ChangeArms
import Derived.Carry
import Derived.OpenShut
namespace Go.Proofs.Ytgmdfaamheblmaa
open Go Go.ChangeShapes Go.WideShapes Go.ChangeAt Go.RowKit

theorem own : ownKnob Try.prog.godebug = none := by kernel_rfl
theorem laidOut : laidOutB Try.prog = true := by kernel_rfl
theorem cellsA : Try.prog.cellsOf 42 = 2 := by kernel_rfl
theorem cellsInt : Try.prog.cellsOf 3 = 1 := by kernel_rfl
/-- a slice of ints that reads as xs -/
def IL (w : World) (A : Option Addr) (n : Nat) (xs : List Int) : Prop :=
  xs.length = n ∧ (0 < n → ∃ b o, A = some ⟨b, o, none⟩ ∧ ∀ (j : Nat) (x : Int), xs[j]? = some x → w.cell? ⟨b, o + j, none⟩ = some (.int .i64 x))
section
variable {w w' : World} {A : Option Addr} {n : Nat} {xs : List Int}
theorem IL.len (h : IL w A n xs) : xs.length = n := h.1
theorem IL.nil_ : IL w A 0 [] := ⟨rfl, fun h => absurd h (by omega)⟩
theorem IL.at_ (h : IL w A n xs) {j : Nat} (hj : j < n) : ∃ b o x, A = some ⟨b, o, none⟩ ∧ xs[j]? = some x ∧ w.cell? ⟨b, o + j, none⟩ = some (.int .i64 x) := by
  obtain ⟨b, o, e, hc⟩ := h.2 (by omega)
  have hl : j < xs.length := by rw [h.1]; exact hj
  exact ⟨b, o, xs[j], e, List.getElem?_eq_getElem hl, hc j _ (List.getElem?_eq_getElem hl)⟩
theorem IL.below (h : IL w A n xs) (hb : Below w.heap.size w w') : IL w' A n xs :=
  ⟨h.1, fun hn => by
    obtain ⟨b, o, e, hc⟩ := h.2 hn
    exact ⟨b, o, e, fun j x hx => (hb.cell (p := ⟨b, o + j, none⟩) (World.block_lt_of_cell? w _ (hc j x hx))).trans (hc j x hx)⟩⟩
end
theorem spot_none {w : World} {a : Addr} {u : Value} (h : w.cell? a = some u) : a = ⟨a.block, a.off, none⟩ := by
  obtain ⟨b, o, s⟩ := a
  cases s with
  | none => rfl
  | some k =>
    unfold World.cell? at h
    split at h
    · simp at h
    · cases h
theorem add_none (b o j : Nat) : (⟨b, o, none⟩ : Addr).add j = ⟨b, o + j, none⟩ := by
  unfold Addr.add
  split
  · rename_i h; subst h; rfl
  · rfl
theorem gather {P : Nat → Int → Int → Prop} : ∀ (n : Nat), (∀ i, i < n → ∃ x y, P i x y) → ∃ ys : List (Int × Int), ys.length = n ∧ ∀ j y, ys[j]? = some y → P j y.1 y.2
  | 0, _ => ⟨[], rfl, fun j y h => by simp at h⟩
  | n + 1, h => by
    obtain ⟨ys, hl, hy⟩ := gather n fun i hi => h i (by omega)
    obtain ⟨x, y, hxy⟩ := h n (by omega)
    refine ⟨ys ++ [(x, y)], by simp [hl], fun j z hz => ?_⟩
    rcases Nat.lt_or_ge j ys.length with hj | hj
    · rw [List.getElem?_append_left hj] at hz
      exact hy j z hz
    · rw [List.getElem?_append_right hj] at hz
      have : j - ys.length = 0 := by
        rcases Nat.eq_zero_or_pos (j - ys.length) with h0 | h0
        · exact h0
        · rw [List.getElem?_eq_none (by simp; omega)] at hz; cases hz
      rw [this] at hz
      injection hz with hz
      subst hz
      rw [show j = n from by omega]
      exact hxy
set_option maxRecDepth 100000 in
theorem open_yl {H : Type} {enc : TypeId × Value → H} {W : World} {base : Nat} {v : Value} {d : DataW H} {p : List MemPlace} (hv : Value.okWide Try.prog W .any base 22 v)
    (h : DataW.Trod enc Try.prog W 0 (fun _ => true) true 22 v d p) : ∃ (A : Option Addr) (n c : Nat) (ys : List (Int × Int)), v = .slice A n c ∧ YL W A n ys ∧ n ≤ maxLen := by
  obtain ⟨A, len, cap, rfl⟩ := okWide_slice Try.underlying22 hv
  obtain ⟨fuel, hf⟩ := h
  rcases Go.Deep.open_slice Try.underlying22 hf with ⟨hcs, _⟩ | ⟨a, len', cap', m, n, D, Pl, hcs, hb, hl, hm, hmm, hx, hi⟩
  · simp [Value.cells] at hcs
    obtain ⟨rfl, rfl, rfl⟩ := hcs
    exact ⟨_, _, _, [], rfl, yl_nil _ _, by simp [maxLen]⟩
  · simp [Value.cells] at hcs
    obtain ⟨rfl, rfl, rfl⟩ := hcs
    simp only [if_true] at hmm
    have hcell : ∀ i, i < len → ∃ x y : Int, W.cell? (a.add (i * 2)) = some (.int .i64 x) ∧ W.cell? (a.add (i * 2 + 1)) = some (.int .i64 y) := by
      intro i hil
      obtain ⟨cs', hc, ht⟩ := hi i (by omega)
      rw [cellsA] at hc
      obtain ⟨_, hcl, hat⟩ := World.cells?_some hc
      obtain ⟨xs, n', _, hx', hl', hlen, hall⟩ := DataW.trod_struct Try.underlying42 ht
      obtain ⟨c0, c1, rfl⟩ : ∃ c0 c1, cs' = [c0, c1] := by
        match cs', hcl with
        | [c0, c1], _ => exact ⟨c0, c1, rfl⟩
      match xs, hlen with
      | [y0, y1], _ =>
        have h0 := hall 0 _ rfl
        have h1 := hall 1 _ rfl
        obtain ⟨x, hax, -, -⟩ := DataW.trod_int Try.underlying3 h0
        obtain ⟨y, hay, -, -⟩ := DataW.trod_int Try.underlying3 h1
        have e0 : c0 = .int .i64 x := by
          have h5 := congrArg List.head? hax
          simpa [show Try.prog.cellsOf 3 = 1 from cellsInt] using h5
        have e1 : c1 = .int .i64 y := by
          have h5 := congrArg List.head? hay
          simpa [show Try.prog.cellsOf 3 = 1 from cellsInt] using h5
        have a0 := hat 0 (by omega)
        have a1 := hat 1 (by omega)
        rw [Go.Deep.add_add] at a0 a1
        rw [Nat.add_zero] at a0
        exact ⟨x, y, by rw [a0, e0]; rfl, by rw [a1, e1]; rfl⟩
    obtain ⟨ys, hyl, hys⟩ := gather len hcell
    refine ⟨_, _, _, ys, rfl, ⟨hyl, fun hn => ?_⟩, by omega⟩
    obtain ⟨x, y, hx0, _⟩ := hcell 0 hn
    have ea : a = ⟨a.block, a.off, none⟩ := spot_none (w := W) (a := a) (by simpa [Addr.add] using hx0)
    refine ⟨a.block, a.off, by rw [← ea], ?_, fun j u hu => ?_⟩
    · have := World.block_lt_of_cell? W (a.add (0 * 2)) hx0
      rw [ea] at this
      simpa [Addr.add] using this
    · have hj : j < ys.length * 2 := by
        have := (List.getElem?_eq_some_iff.1 hu).1
        rwa [flatY_len] at this
      have hg : ys[j / 2]? = some (ys[j / 2]'(by omega)) := List.getElem?_eq_getElem (by omega)
      have hc := hys _ _ hg
      have hf := flatY_at _ _ _ hg
      rw [ea, add_none, add_none] at hc
      rcases Nat.mod_two_eq_zero_or_one j with h2 | h2
      · have e : j / 2 * 2 = j := by omega
        rw [e] at hf hc
        rw [hf.1] at hu
        injection hu with hu
        rw [← hu]
        exact hc.1
      · have e : j / 2 * 2 + 1 = j := by omega
        rw [e] at hf hc
        rw [hf.2] at hu
        injection hu with hu
        rw [← hu]
        exact hc.2
theorem cellsI64 : Try.prog.cellsOf 3 = 1 := by kernel_rfl
theorem open_il {H : Type} {enc : TypeId × Value → H} {W : World} {base : Nat} {v : Value} {d : DataW H} {p : List MemPlace} (hv : Value.okWide Try.prog W .any base 33 v)
    (h : DataW.Trod enc Try.prog W 0 (fun _ => true) true 33 v d p) : ∃ (A : Option Addr) (n c : Nat) (xs : List Int), v = .slice A n c ∧ IL W A n xs ∧ n ≤ c ∧ c ≤ maxLen := by
  obtain ⟨A, len, cap, rfl⟩ := okWide_slice Try.underlying33 hv
  obtain ⟨fuel, hf⟩ := h
  rcases open_ints Try.underlying33 Try.underlying3 cellsI64 hf with ⟨hc, _⟩ | ⟨a, len', cap', zs, hc, _, hlc, hcm, hzl, _, hcell, -⟩
  · simp [Value.cells] at hc
    obtain ⟨rfl, rfl, rfl⟩ := hc
    exact ⟨none, 0, 0, [], rfl, IL.nil_, Nat.le_refl _, by simp [maxLen]⟩
  · simp [Value.cells] at hc
    obtain ⟨rfl, rfl, rfl⟩ := hc
    simp only [if_true] at hzl
    refine ⟨some a, len, cap, zs.take len, rfl, ⟨by simp; omega, fun hpos => ?_⟩, hlc, hcm⟩
    have h00 := hcell 0 (by omega)
    have ea : a = ⟨a.block, a.off, none⟩ := spot_none (w := W) (a := a) (by simpa [Addr.add] using h00)
    refine ⟨a.block, a.off, by rw [← ea], fun j x hxj => ?_⟩
    have hj : j < len := by
      have := (List.getElem?_eq_some_iff.1 hxj).1
      simp at this
      omega
    have hzj : zs[j]? = some x := by
      rw [List.getElem?_take_of_lt hj] at hxj; exact hxj
    have ej : a.add j = ⟨a.block, a.off + j, none⟩ := by
      rw [ea]
      unfold Addr.add
      split
      · rename_i h; subst h; rfl
      · rfl
    rw [← ej, hcell j (by omega), List.getD, hzj]
    rfl

theorem okWide_row {n : Nat} {t e : TypeId} {r : Reach} {W : World} {b0 : Nat} {v : Value} (hu : Try.prog.underlying t = some (.array n e)) (h : Value.okWide Try.prog W r b0 t v) : ∃ xs : Array Value, v = .agg xs ∧ xs.size = Try.prog.cellsOf t := by
  simp only [Value.okWide, hu] at h
  obtain ⟨cs, h1, h2, _⟩ := h
  exact ⟨cs, h1, h2⟩
theorem int_cell {H : Type} {enc : TypeId × Value → H} {W : World} {m : Nat} {c : Value} {x : DataW H × List MemPlace} (h : DataW.trod enc Try.prog W 0 (fun _ => true) true m 3 [c] = some x) : ∃ a : Int, c = .int .i64 a := by
  obtain ⟨a, ha, -, -⟩ := DataW.trod_int Try.underlying3 h
  refine ⟨a, ?_⟩
  have h5 := congrArg List.head? ha
  simpa [show Try.prog.cellsOf 3 = 1 from cellsInt] using h5
theorem open_three {H : Type} {enc : TypeId × Value → H} {W : World} {base : Nat} {v : Value} {d : DataW H} {p : List MemPlace} (hv : Value.okWide Try.prog W .any base 43 v)
    (h : DataW.Trod enc Try.prog W 0 (fun _ => true) true 43 v d p) : ∃ a b c : Int, v = .agg #[.int .i64 a, .int .i64 b, .int .i64 c] := by
  obtain ⟨cs, rfl, hsz⟩ := okWide_row Try.underlying43 hv
  obtain ⟨fuel, hf⟩ := h
  rw [show Try.prog.cellsOf 43 = 3 from by kernel_rfl] at hsz
  obtain ⟨c0, c1, c2, rfl⟩ : ∃ c0 c1 c2, cs = #[c0, c1, c2] := by
    match cs, hsz with
    | ⟨[c0, c1, c2]⟩, _ => exact ⟨c0, c1, c2, rfl⟩
  obtain ⟨xs, m, _, _, _, hl, hall⟩ := DataW.trod_array Try.underlying43 hf
  rw [cellsInt] at hall
  match xs, hl with
  | [y0, y1, y2], _ =>
    have h0 := hall 0 (by omega)
    have h1 := hall 1 (by omega)
    have h2 := hall 2 (by omega)
    simp [Value.cells] at h0 h1 h2
    obtain ⟨a, rfl⟩ := int_cell h0
    obtain ⟨b, rfl⟩ := int_cell h1
    obtain ⟨c, rfl⟩ := int_cell h2
    exact ⟨a, b, c, rfl⟩
theorem open_two {H : Type} {enc : TypeId × Value → H} {W : World} {base : Nat} {v : Value} {d : DataW H} {p : List MemPlace} (hv : Value.okWide Try.prog W .any base 23 v)
    (h : DataW.Trod enc Try.prog W 0 (fun _ => true) true 23 v d p) : ∃ a b : Int, v = .agg #[.int .i64 a, .int .i64 b] := by
  obtain ⟨cs, rfl, hsz⟩ := okWide_row Try.underlying23 hv
  obtain ⟨fuel, hf⟩ := h
  rw [show Try.prog.cellsOf 23 = 2 from by kernel_rfl] at hsz
  obtain ⟨c0, c1, rfl⟩ : ∃ c0 c1, cs = #[c0, c1] := by
    match cs, hsz with
    | ⟨[c0, c1]⟩, _ => exact ⟨c0, c1, rfl⟩
  obtain ⟨xs, m, _, _, _, hl, hall⟩ := DataW.trod_array Try.underlying23 hf
  rw [cellsInt] at hall
  match xs, hl with
  | [y0, y1], _ =>
    have h0 := hall 0 (by omega)
    have h1 := hall 1 (by omega)
    simp [Value.cells] at h0 h1
    obtain ⟨a, rfl⟩ := int_cell h0
    obtain ⟨b, rfl⟩ := int_cell h1
    exact ⟨a, b, rfl⟩
end Go.Proofs.Ytgmdfaamheblmaa
