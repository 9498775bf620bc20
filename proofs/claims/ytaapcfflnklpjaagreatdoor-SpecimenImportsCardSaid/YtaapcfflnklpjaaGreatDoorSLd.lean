/- What every row of this seat asks of a world; arguments opened. -/
import Derived.Test.YtaapcfflnklpjaaGreatDoorRows
import Derived.Test.YtaapcfflnklpjaaGreatDoorSAw
import Derived.WalkKit
import Derived.ProofKit
import Derived.OpenShut
import Derived.Deep.DeepHandedRow
import Derived.Deep.DeepWitnessRowRef
import Derived.Deep.Slices
import Derived.ChangeSlices
import Derived.ChangeArms
import Derived.Carry
import Derived.Lib.LaidTab
import Derived.LaidSub
import Derived.Stop.LaidErr
import Derived.Lay
namespace Go.Proofs.YtaapcfflnklpjaaGreatDoor
open Go Go.ChangeShapes Go.WideShapes Go.ChangeAt Go.RowKit

theorem own : ownKnob Tryz.prog.godebug = none := by kernel_rfl
theorem laidOut : laidOutB Tryz.prog = true := by kernel_rfl
/-- the list of every row -/
def seven : List (String × DataW Unit) := Rows.specimenTextsRow.laid
def isTens (x : String × DataW Unit) : Bool := x.1 == "internal/strconv.uint64pow10"
def isErr (x : String × DataW Unit) : Bool := x.1 == "strconv.ErrRange" || x.1 == "strconv.ErrSyntax"
theorem seven_tens : seven.filter isTens = [("internal/strconv.uint64pow10", Lib.tabData .u64 Lib.pow10Tab)] := by kernel_rfl
theorem seven_errs : seven.filter isErr = [("strconv.ErrRange", Rows.laid_strconv_ErrRange), ("strconv.ErrSyntax", Rows.laid_strconv_ErrSyntax)] := by kernel_rfl
theorem seven_handles : (seven.filter isErr).filter (fun x => x.2.handleName?.isNone) = seven.filter isErr := by rw [seven_errs]; rfl
theorem gTabType : (Tryz.prog.globals[5]?).map (·.type) = some 165 := by kernel_rfl
theorem gSynType : (Tryz.prog.globals[0]?).map (·.type) = some 64 := by kernel_rfl
theorem gRngType : (Tryz.prog.globals[1]?).map (·.type) = some 64 := by kernel_rfl
theorem cellsTab : Tryz.prog.cellsOf 165 = 20 := by kernel_rfl
theorem cellsU64 : Tryz.prog.cellsOf 96 = 1 := by kernel_rfl
theorem cellsStr : Tryz.prog.cellsOf 9 = 1 := by kernel_rfl
theorem cellsErr : Tryz.prog.cellsOf 170 = 1 := by kernel_rfl
theorem rowErr (u : TypeId) (h : Tryz.prog.typeName? 3 u = some "*errors.errorString") : u = 168 :=
  typeName_ptr_named (nm := "errors.errorString") (by kernel_rfl) (by kernel_rfl) (by decide) u h
theorem lw_of {W : World} (h : laidMetH Tryz.prog seven W) (hs : W.ShapedOpen Tryz.prog) : Lw W := by
  have h' := h.filter isTens
  rw [seven_tens] at h'
  have ht : Lib.TabIs Tryz.prog W "internal/strconv.uint64pow10" .u64 Lib.pow10Tab :=
    Lib.tabIs_of_head (rest := []) gPow gTabType Tryz.underlying165 Tryz.underlying96 cellsU64 cellsTab h'
  have he := (laidMetH_iff.1 (h.filter isErr)).1
  rw [seven_handles, seven_errs] at he
  obtain ⟨a1, s1, h1, -⟩ := laid_sentinel he gRng gRngType Tryz.underlying64 rowErr Tryz.underlying168 Tryz.underlying170 rfl rfl Tryz.underlying9 cellsErr cellsStr
  obtain ⟨a2, s2, h2, -⟩ := laid_sentinel he.tail gSyn gSynType Tryz.underlying64 rowErr Tryz.underlying168 Tryz.underlying170 rfl rfl Tryz.underlying9 cellsErr cellsStr
  exact ⟨ht, ⟨_, _, h2⟩, ⟨_, _, h1⟩, cell_of_shapedOpen_int (zero := #[.int .i64 0]) (t := 3) hs (of_decide_eq_true (by kernel_rfl)) (by kernel_rfl) rfl (by kernel_rfl) (by kernel_rfl) Tryz.underlying3⟩
theorem cellsP : Tryz.prog.cellsOf 23 = 7 := by kernel_rfl
theorem cellsD : Tryz.prog.cellsOf 38 = 2 := by kernel_rfl
theorem cellsInt : Tryz.prog.cellsOf 3 = 1 := by kernel_rfl
theorem spot_none {w : World} {a : Addr} {u : Value} (h : w.cell? a = some u) : a = ⟨a.block, a.off, none⟩ := by
  obtain ⟨b, o, s⟩ := a
  cases s with
  | none => rfl
  | some k =>
    unfold World.cell? at h
    split at h
    · simp at h
    · cases h
theorem add_none (b o j : Nat) : (⟨b, o, none⟩ : Addr).add j = ⟨b, o + j, none⟩ := by
  unfold Addr.add
  split
  · rename_i h; subst h; rfl
  · rfl
theorem gather {P : Nat → Spc → Prop} : ∀ (n : Nat), (∀ i, i < n → ∃ x, P i x) → ∃ ys : List Spc, ys.length = n ∧ ∀ j y, ys[j]? = some y → P j y
  | 0, _ => ⟨[], rfl, fun j y h => by simp at h⟩
  | n + 1, h => by
    obtain ⟨ys, hl, hy⟩ := gather n fun i hi => h i (by omega)
    obtain ⟨x, hxy⟩ := h n (by omega)
    refine ⟨ys ++ [x], by simp [hl], fun j z hz => ?_⟩
    rcases Nat.lt_or_ge j ys.length with hj | hj
    · rw [List.getElem?_append_left hj] at hz
      exact hy j z hz
    · rw [List.getElem?_append_right hj] at hz
      have : j - ys.length = 0 := by
        rcases Nat.eq_zero_or_pos (j - ys.length) with h0 | h0
        · exact h0
        · rw [List.getElem?_eq_none (by simp; omega)] at hz; cases hz
      rw [this] at hz
      injection hz with hz
      subst hz
      rw [show j = n from by omega]
      exact hxy
set_option maxRecDepth 100000 in
theorem open_sp {H : Type} {enc : TypeId × Value → H} {W : World} {base : Nat} {v : Value} {d : DataW H} {p : List MemPlace} (hv : Value.okWide Tryz.prog W .any base 23 v)
    (h : DataW.Trod enc Tryz.prog W 0 (fun _ => true) true 23 v d p) : ∃ x : Spc, v = .agg (encS x).toArray := by
  obtain ⟨cs, rfl, hsz⟩ := okWide_struct Tryz.underlying23 hv
  obtain ⟨fuel, hf⟩ := h
  obtain ⟨xs, n, _, hx, hl, hlen, hall⟩ := DataW.trod_struct Tryz.underlying23 hf
  rw [cellsP] at hsz
  obtain ⟨c0, c1, c2, c3, c4, c5, c6, rfl⟩ : ∃ c0 c1 c2 c3 c4 c5 c6, cs = #[c0, c1, c2, c3, c4, c5, c6] := by
    match cs, hsz with
    | ⟨[c0, c1, c2, c3, c4, c5, c6]⟩, _ => exact ⟨c0, c1, c2, c3, c4, c5, c6, rfl⟩
  match xs, hlen with
  | [y0, y1, y2, y3, y4, y5, y6], _ =>
    have h0 := hall 0 _ rfl
    have h1 := hall 1 _ rfl
    have h2 := hall 2 _ rfl
    have h3 := hall 3 _ rfl
    have h4 := hall 4 _ rfl
    have h5 := hall 5 _ rfl
    have h6 := hall 6 _ rfl
    simp only [Value.cells, List.getElem?_cons_zero, List.getElem?_cons_succ] at h0 h1 h2 h3 h4 h5 h6
    obtain ⟨x0, q0, -, -⟩ := DataW.trod_int Tryz.underlying3 h0
    have e0 : c0 = .int .i64 x0 := by
      have h5 := congrArg List.head? q0
      simpa [show Tryz.prog.cellsOf 3 = 1 from cellsInt] using h5
    obtain ⟨x1, q1, -, -⟩ := DataW.trod_int Tryz.underlying3 h1
    have e1 : c1 = .int .i64 x1 := by
      have h5 := congrArg List.head? q1
      simpa [show Tryz.prog.cellsOf 3 = 1 from cellsInt] using h5
    obtain ⟨x2, q2, -, -⟩ := DataW.trod_int Tryz.underlying3 h2
    have e2 : c2 = .int .i64 x2 := by
      have h5 := congrArg List.head? q2
      simpa [show Tryz.prog.cellsOf 3 = 1 from cellsInt] using h5
    obtain ⟨x3, q3, -, -⟩ := DataW.trod_int Tryz.underlying3 h3
    have e3 : c3 = .int .i64 x3 := by
      have h5 := congrArg List.head? q3
      simpa [show Tryz.prog.cellsOf 3 = 1 from cellsInt] using h5
    obtain ⟨x4, q4, -, -⟩ := DataW.trod_int Tryz.underlying3 h4
    have e4 : c4 = .int .i64 x4 := by
      have h5 := congrArg List.head? q4
      simpa [show Tryz.prog.cellsOf 3 = 1 from cellsInt] using h5
    obtain ⟨x5, q5, -, -⟩ := DataW.trod_int Tryz.underlying3 h5
    have e5 : c5 = .int .i64 x5 := by
      have h5 := congrArg List.head? q5
      simpa [show Tryz.prog.cellsOf 3 = 1 from cellsInt] using h5
    obtain ⟨x6, q6, -, -⟩ := DataW.trod_int Tryz.underlying3 h6
    have e6 : c6 = .int .i64 x6 := by
      have h5 := congrArg List.head? q6
      simpa [show Tryz.prog.cellsOf 3 = 1 from cellsInt] using h5
    exact ⟨⟨x0, x1, x2, x3, x4, x5, x6⟩, by rw [e0, e1, e2, e3, e4, e5, e6]; rfl⟩
set_option maxRecDepth 100000 in
theorem open_die {H : Type} {enc : TypeId × Value → H} {W : World} {base : Nat} {v : Value} {d : DataW H} {p : List MemPlace} (hv : Value.okWide Tryz.prog W .any base 38 v)
    (h : DataW.Trod enc Tryz.prog W 0 (fun _ => true) true 38 v d p) : ∃ a b : Int, v = .agg #[.int .i64 a, .int .i64 b] := by
  obtain ⟨cs, rfl, hsz⟩ := okWide_struct Tryz.underlying38 hv
  obtain ⟨fuel, hf⟩ := h
  obtain ⟨xs, n, _, hx, hl, hlen, hall⟩ := DataW.trod_struct Tryz.underlying38 hf
  rw [cellsD] at hsz
  obtain ⟨c0, c1, rfl⟩ : ∃ c0 c1, cs = #[c0, c1] := by
    match cs, hsz with
    | ⟨[c0, c1]⟩, _ => exact ⟨c0, c1, rfl⟩
  match xs, hlen with
  | [y0, y1], _ =>
    have h0 := hall 0 _ rfl
    have h1 := hall 1 _ rfl
    simp only [Value.cells, List.getElem?_cons_zero, List.getElem?_cons_succ] at h0 h1
    obtain ⟨x0, q0, -, -⟩ := DataW.trod_int Tryz.underlying3 h0
    have e0 : c0 = .int .i64 x0 := by
      have h5 := congrArg List.head? q0
      simpa [show Tryz.prog.cellsOf 3 = 1 from cellsInt] using h5
    obtain ⟨x1, q1, -, -⟩ := DataW.trod_int Tryz.underlying3 h1
    have e1 : c1 = .int .i64 x1 := by
      have h5 := congrArg List.head? q1
      simpa [show Tryz.prog.cellsOf 3 = 1 from cellsInt] using h5
    exact ⟨x0, x1, by rw [e0, e1]⟩
set_option maxRecDepth 100000 in
theorem open_sl {H : Type} {enc : TypeId × Value → H} {W : World} {base : Nat} {v : Value} {d : DataW H} {p : List MemPlace} (hv : Value.okWide Tryz.prog W .any base 31 v)
    (h : DataW.Trod enc Tryz.prog W 0 (fun _ => true) true 31 v d p) : ∃ (A : Option Addr) (n c : Nat) (ys : List Spc), v = .slice A n c ∧ SL W A n ys ∧ n ≤ maxLen := by
  obtain ⟨A, len, cap, rfl⟩ := okWide_slice Tryz.underlying31 hv
  obtain ⟨fuel, hf⟩ := h
  rcases Go.Deep.open_slice Tryz.underlying31 hf with ⟨hcs, _⟩ | ⟨a, len', cap', m, n, D, Pl, hcs, hb, hl, hm, hmm, hx, hi⟩
  · simp [Value.cells] at hcs
    obtain ⟨rfl, rfl, rfl⟩ := hcs
    exact ⟨_, _, _, [], rfl, SL.nil_ _ _, by simp [maxLen]⟩
  · simp [Value.cells] at hcs
    obtain ⟨rfl, rfl, rfl⟩ := hcs
    simp only [if_true] at hmm
    have hcell : ∀ i, i < len → ∃ x : Spc, ∀ k u, (encS x)[k]? = some u → W.cell? (a.add (i * 7 + k)) = some u := by
      intro i hil
      obtain ⟨cs', hc, ht⟩ := hi i (by omega)
      rw [cellsP] at hc
      obtain ⟨_, hcl, hat⟩ := World.cells?_some hc
      obtain ⟨xs, n', _, hx', hl', hlen, hall⟩ := DataW.trod_struct Tryz.underlying23 ht
      obtain ⟨c0, c1, c2, c3, c4, c5, c6, rfl⟩ : ∃ c0 c1 c2 c3 c4 c5 c6, cs' = [c0, c1, c2, c3, c4, c5, c6] := by
        match cs', hcl with
        | [c0, c1, c2, c3, c4, c5, c6], _ => exact ⟨c0, c1, c2, c3, c4, c5, c6, rfl⟩
      match xs, hlen with
      | [y0, y1, y2, y3, y4, y5, y6], _ =>
        have h0 := hall 0 _ rfl
        have h1 := hall 1 _ rfl
        have h2 := hall 2 _ rfl
        have h3 := hall 3 _ rfl
        have h4 := hall 4 _ rfl
        have h5 := hall 5 _ rfl
        have h6 := hall 6 _ rfl
        obtain ⟨x0, q0, -, -⟩ := DataW.trod_int Tryz.underlying3 h0
        have e0 : c0 = .int .i64 x0 := by
          have h5 := congrArg List.head? q0
          simpa [show Tryz.prog.cellsOf 3 = 1 from cellsInt] using h5
        obtain ⟨x1, q1, -, -⟩ := DataW.trod_int Tryz.underlying3 h1
        have e1 : c1 = .int .i64 x1 := by
          have h5 := congrArg List.head? q1
          simpa [show Tryz.prog.cellsOf 3 = 1 from cellsInt] using h5
        obtain ⟨x2, q2, -, -⟩ := DataW.trod_int Tryz.underlying3 h2
        have e2 : c2 = .int .i64 x2 := by
          have h5 := congrArg List.head? q2
          simpa [show Tryz.prog.cellsOf 3 = 1 from cellsInt] using h5
        obtain ⟨x3, q3, -, -⟩ := DataW.trod_int Tryz.underlying3 h3
        have e3 : c3 = .int .i64 x3 := by
          have h5 := congrArg List.head? q3
          simpa [show Tryz.prog.cellsOf 3 = 1 from cellsInt] using h5
        obtain ⟨x4, q4, -, -⟩ := DataW.trod_int Tryz.underlying3 h4
        have e4 : c4 = .int .i64 x4 := by
          have h5 := congrArg List.head? q4
          simpa [show Tryz.prog.cellsOf 3 = 1 from cellsInt] using h5
        obtain ⟨x5, q5, -, -⟩ := DataW.trod_int Tryz.underlying3 h5
        have e5 : c5 = .int .i64 x5 := by
          have h5 := congrArg List.head? q5
          simpa [show Tryz.prog.cellsOf 3 = 1 from cellsInt] using h5
        obtain ⟨x6, q6, -, -⟩ := DataW.trod_int Tryz.underlying3 h6
        have e6 : c6 = .int .i64 x6 := by
          have h5 := congrArg List.head? q6
          simpa [show Tryz.prog.cellsOf 3 = 1 from cellsInt] using h5
        refine ⟨⟨x0, x1, x2, x3, x4, x5, x6⟩, fun k u hu => ?_⟩
        have hk : k < 7 := (List.getElem?_eq_some_iff.1 hu).1
        have ak := hat k (by omega)
        rw [Go.Deep.add_add] at ak
        rw [ak, ← hu, e0, e1, e2, e3, e4, e5, e6]
        rfl
    obtain ⟨ys, hyl, hys⟩ := gather len hcell
    refine ⟨_, _, _, ys, rfl, ⟨hyl, fun hn => ?_⟩, by omega⟩
    obtain ⟨x, hx0⟩ := hcell 0 hn
    have hx0 := hx0 0 _ rfl
    have ea : a = ⟨a.block, a.off, none⟩ := spot_none (w := W) (a := a) (by simpa [Addr.add] using hx0)
    refine ⟨a.block, a.off, by rw [← ea], ?_, fun j u hu => ?_⟩
    · have := World.block_lt_of_cell? W (a.add (0 * 7 + 0)) hx0
      rw [ea] at this
      simpa [Addr.add] using this
    · have hj : j < ys.length * 7 := by
        have := (List.getElem?_eq_some_iff.1 hu).1
        rwa [flatS_len] at this
      have hg : ys[j / 7]? = some (ys[j / 7]'(by omega)) := List.getElem?_eq_getElem (by omega)
      have hc := hys _ _ hg
      have hf := flatS_get _ _ (j % 7) _ hg (by omega)
      rw [show j / 7 * 7 + j % 7 = j by omega, hu] at hf
      have := hc (j % 7) u hf.symm
      rw [show j / 7 * 7 + j % 7 = j by omega, ea, add_none] at this
      exact this
end Go.Proofs.YtaapcfflnklpjaaGreatDoor
