/- Opening a slice of years. -/
import Derived.Test.YtihadabaehcmiaaDoorYLaw
import Derived.Deep.Slices
namespace Go.Proofs.YtihadabaehcmiaaDoor
open Go Go.ChangeShapes Go.WideShapes Go.ChangeAt Go.RowKit

theorem spot_none {w : World} {a : Addr} {u : Value} (h : w.cell? a = some u) : a = ⟨a.block, a.off, none⟩ := by
  obtain ⟨b, o, s⟩ := a
  cases s with
  | none => rfl
  | some k =>
    unfold World.cell? at h
    split at h
    · simp at h
    · cases h
theorem add_none (b o j : Nat) : (⟨b, o, none⟩ : Addr).add j = ⟨b, o + j, none⟩ := by
  unfold Addr.add
  split
  · rename_i h; subst h; rfl
  · rfl
theorem gather {P : Nat → Int → Int → Prop} : ∀ (n : Nat), (∀ i, i < n → ∃ x y, P i x y) → ∃ ys : List (Int × Int), ys.length = n ∧ ∀ j y, ys[j]? = some y → P j y.1 y.2
  | 0, _ => ⟨[], rfl, fun j y h => by simp at h⟩
  | n + 1, h => by
    obtain ⟨ys, hl, hy⟩ := gather n fun i hi => h i (by omega)
    obtain ⟨x, y, hxy⟩ := h n (by omega)
    refine ⟨ys ++ [(x, y)], by simp [hl], fun j z hz => ?_⟩
    rcases Nat.lt_or_ge j ys.length with hj | hj
    · rw [List.getElem?_append_left hj] at hz
      exact hy j z hz
    · rw [List.getElem?_append_right hj] at hz
      have : j - ys.length = 0 := by
        rcases Nat.eq_zero_or_pos (j - ys.length) with h0 | h0
        · exact h0
        · rw [List.getElem?_eq_none (by simp; omega)] at hz; cases hz
      rw [this] at hz
      injection hz with hz
      subst hz
      rw [show j = n from by omega]
      exact hxy
set_option maxRecDepth 100000 in
theorem open_yl {H : Type} {enc : TypeId × Value → H} {W : World} {base : Nat} {v : Value} {d : DataW H} {p : List MemPlace} (hv : Value.okWide Tryd.prog W .any base 42 v)
    (h : DataW.Trod enc Tryd.prog W 0 (fun _ => true) true 42 v d p) : ∃ (A : Option Addr) (n c : Nat) (ys : List (Int × Int)), v = .slice A n c ∧ YL W A n ys ∧ n ≤ maxLen := by
  obtain ⟨A, len, cap, rfl⟩ := okWide_slice Tryd.underlying42 hv
  obtain ⟨fuel, hf⟩ := h
  rcases Go.Deep.open_slice Tryd.underlying42 hf with ⟨hcs, _⟩ | ⟨a, len', cap', m, n, D, Pl, hcs, hb, hl, hm, hmm, hx, hi⟩
  · simp [Value.cells] at hcs
    obtain ⟨rfl, rfl, rfl⟩ := hcs
    exact ⟨_, _, _, [], rfl, yl_nil _ _, by simp [maxLen]⟩
  · simp [Value.cells] at hcs
    obtain ⟨rfl, rfl, rfl⟩ := hcs
    simp only [if_true] at hmm
    have hcell : ∀ i, i < len → ∃ x y : Int, W.cell? (a.add (i * 2)) = some (.int .i64 x) ∧ W.cell? (a.add (i * 2 + 1)) = some (.int .i64 y) := by
      intro i hil
      obtain ⟨cs', hc, ht⟩ := hi i (by omega)
      rw [cellsY] at hc
      obtain ⟨_, hcl, hat⟩ := World.cells?_some hc
      obtain ⟨xs, n', _, hx', hl', hlen, hall⟩ := DataW.trod_struct Tryd.underlying23 ht
      obtain ⟨c0, c1, rfl⟩ : ∃ c0 c1, cs' = [c0, c1] := by
        match cs', hcl with
        | [c0, c1], _ => exact ⟨c0, c1, rfl⟩
      match xs, hlen with
      | [y0, y1], _ =>
        have h0 := hall 0 _ rfl
        have h1 := hall 1 _ rfl
        obtain ⟨x, hax, -, -⟩ := DataW.trod_int Tryd.underlying3 h0
        obtain ⟨y, hay, -, -⟩ := DataW.trod_int Tryd.underlying3 h1
        have e0 : c0 = .int .i64 x := by
          have h5 := congrArg List.head? hax
          simpa [show Tryd.prog.cellsOf 3 = 1 from cellsInt] using h5
        have e1 : c1 = .int .i64 y := by
          have h5 := congrArg List.head? hay
          simpa [show Tryd.prog.cellsOf 3 = 1 from cellsInt] using h5
        have a0 := hat 0 (by omega)
        have a1 := hat 1 (by omega)
        rw [Go.Deep.add_add] at a0 a1
        rw [Nat.add_zero] at a0
        exact ⟨x, y, by rw [a0, e0]; rfl, by rw [a1, e1]; rfl⟩
    obtain ⟨ys, hyl, hys⟩ := gather len hcell
    refine ⟨_, _, _, ys, rfl, ⟨hyl, fun hn => ?_⟩, by omega⟩
    obtain ⟨x, y, hx0, _⟩ := hcell 0 hn
    have ea : a = ⟨a.block, a.off, none⟩ := spot_none (w := W) (a := a) (by simpa [Addr.add] using hx0)
    refine ⟨a.block, a.off, by rw [← ea], ?_, fun j u hu => ?_⟩
    · have := World.block_lt_of_cell? W (a.add (0 * 2)) hx0
      rw [ea] at this
      simpa [Addr.add] using this
    · have hj : j < ys.length * 2 := by
        have := (List.getElem?_eq_some_iff.1 hu).1
        rwa [flatY_len] at this
      have hg : ys[j / 2]? = some (ys[j / 2]'(by omega)) := List.getElem?_eq_getElem (by omega)
      have hc := hys _ _ hg
      have hf := flatY_at _ _ _ hg
      rw [ea, add_none, add_none] at hc
      rcases Nat.mod_two_eq_zero_or_one j with h2 | h2
      · have e : j / 2 * 2 = j := by omega
        rw [e] at hf hc
        rw [hf.1] at hu
        injection hu with hu
        rw [← hu]
        exact hc.1
      · have e : j / 2 * 2 + 1 = j := by omega
        rw [e] at hf hc
        rw [hf.2] at hu
        injection hu with hu
        rw [← hu]
        exact hc.2
end Go.Proofs.YtihadabaehcmiaaDoor
