/- What every row of this seat asks of a world; arguments opened. -/
import Derived.Test.YtdoknlodnpeeoaaDoorRows
import Derived.Test.YtdoknlodnpeeoaaDoorLAwk
import Derived.WalkKit
import Derived.ProofKit
import Derived.OpenShut
import Derived.Deep.DeepHandedRow
import Derived.Deep.DeepWitnessRowRef
import Derived.Deep.Slices
import Derived.ChangeSlices
import Derived.ChangeArms
import Derived.Carry
import Derived.Lib.LaidTab
import Derived.LaidSub
import Derived.Stop.LaidErr
import Derived.Lay
namespace Go.Proofs.YtdoknlodnpeeoaaDoor
open Go Go.ChangeShapes Go.WideShapes Go.ChangeAt Go.RowKit

theorem own : ownKnob Tryd.prog.godebug = none := by kernel_rfl
theorem laidOut : laidOutB Tryd.prog = true := by kernel_rfl
/-- the list of every row -/
def seven : List (String × DataW Unit) := Rows.labelTextsRow.laid
def isTens (x : String × DataW Unit) : Bool := x.1 == "internal/strconv.uint64pow10"
def isErr (x : String × DataW Unit) : Bool := x.1 == "strconv.ErrRange" || x.1 == "strconv.ErrSyntax"
theorem seven_tens : seven.filter isTens = [("internal/strconv.uint64pow10", Lib.tabData .u64 Lib.pow10Tab)] := by kernel_rfl
theorem seven_errs : seven.filter isErr = [("strconv.ErrRange", Rows.laid_strconv_ErrRange), ("strconv.ErrSyntax", Rows.laid_strconv_ErrSyntax)] := by kernel_rfl
theorem seven_handles : (seven.filter isErr).filter (fun x => x.2.handleName?.isNone) = seven.filter isErr := by rw [seven_errs]; rfl
theorem gTabType : (Tryd.prog.globals[3]?).map (·.type) = some 128 := by kernel_rfl
theorem gSynType : (Tryd.prog.globals[0]?).map (·.type) = some 50 := by kernel_rfl
theorem gRngType : (Tryd.prog.globals[1]?).map (·.type) = some 50 := by kernel_rfl
theorem cellsTab : Tryd.prog.cellsOf 128 = 20 := by kernel_rfl
theorem cellsU64 : Tryd.prog.cellsOf 74 = 1 := by kernel_rfl
theorem cellsStr : Tryd.prog.cellsOf 9 = 1 := by kernel_rfl
theorem cellsErr : Tryd.prog.cellsOf 134 = 1 := by kernel_rfl
theorem rowErr (u : TypeId) (h : Tryd.prog.typeName? 3 u = some "*errors.errorString") : u = 132 :=
  typeName_ptr_named (nm := "errors.errorString") (by kernel_rfl) (by kernel_rfl) (by decide) u h
theorem lw_of {W : World} (h : laidMetH Tryd.prog seven W) (hs : W.ShapedOpen Tryd.prog) : Lw W := by
  have h' := h.filter isTens
  rw [seven_tens] at h'
  have ht : Lib.TabIs Tryd.prog W "internal/strconv.uint64pow10" .u64 Lib.pow10Tab :=
    Lib.tabIs_of_head (rest := []) gPow gTabType Tryd.underlying128 Tryd.underlying74 cellsU64 cellsTab h'
  have he := (laidMetH_iff.1 (h.filter isErr)).1
  rw [seven_handles, seven_errs] at he
  obtain ⟨a1, s1, h1, -⟩ := laid_sentinel he gRng gRngType Tryd.underlying50 rowErr Tryd.underlying132 Tryd.underlying134 rfl rfl Tryd.underlying9 cellsErr cellsStr
  obtain ⟨a2, s2, h2, -⟩ := laid_sentinel he.tail gSyn gSynType Tryd.underlying50 rowErr Tryd.underlying132 Tryd.underlying134 rfl rfl Tryd.underlying9 cellsErr cellsStr
  exact ⟨ht, ⟨_, _, h2⟩, ⟨_, _, h1⟩, cell_of_shapedOpen_int (zero := #[.int .i64 0]) (t := 3) hs (of_decide_eq_true (by kernel_rfl)) (by kernel_rfl) rfl (by kernel_rfl) (by kernel_rfl) Tryd.underlying3⟩
theorem cellsL : Tryd.prog.cellsOf 23 = 3 := by kernel_rfl
theorem cellsInt : Tryd.prog.cellsOf 3 = 1 := by kernel_rfl
set_option maxRecDepth 100000 in
theorem open_label {H : Type} {enc : TypeId × Value → H} {W : World} {base : Nat} {v : Value} {d : DataW H} {p : List MemPlace} (hv : Value.okWide Tryd.prog W .any base 23 v)
    (h : DataW.Trod enc Tryd.prog W 0 (fun _ => true) true 23 v d p) : ∃ a b c : Int, v = .agg #[.int .i64 a, .int .i64 b, .int .i64 c] := by
  obtain ⟨cs, rfl, hsz⟩ := okWide_struct Tryd.underlying23 hv
  obtain ⟨fuel, hf⟩ := h
  obtain ⟨xs, n, _, hx, hl, hlen, hall⟩ := DataW.trod_struct Tryd.underlying23 hf
  rw [cellsL] at hsz
  obtain ⟨c0, c1, c2, rfl⟩ : ∃ c0 c1 c2, cs = #[c0, c1, c2] := by
    match cs, hsz with
    | ⟨[c0, c1, c2]⟩, _ => exact ⟨c0, c1, c2, rfl⟩
  match xs, hlen with
  | [y0, y1, y2], _ =>
    have h0 := hall 0 _ rfl
    have h1 := hall 1 _ rfl
    have h2 := hall 2 _ rfl
    simp only [Value.cells, List.getElem?_cons_zero, List.getElem?_cons_succ] at h0 h1 h2
    obtain ⟨a, ha, -, -⟩ := DataW.trod_int Tryd.underlying3 h0
    obtain ⟨b, hb, -, -⟩ := DataW.trod_int Tryd.underlying3 h1
    obtain ⟨c, hc, -, -⟩ := DataW.trod_int Tryd.underlying3 h2
    have ha2 : c0 = .int .i64 a := by
      have h5 := congrArg List.head? ha
      simpa [show Tryd.prog.cellsOf 3 = 1 from cellsInt] using h5
    have hb2 : c1 = .int .i64 b := by
      have h5 := congrArg List.head? hb
      simpa [show Tryd.prog.cellsOf 3 = 1 from cellsInt] using h5
    have hc2 : c2 = .int .i64 c := by
      have h5 := congrArg List.head? hc
      simpa [show Tryd.prog.cellsOf 3 = 1 from cellsInt] using h5
    subst ha2
    subst hb2
    subst hc2
    exact ⟨a, b, c, rfl⟩
theorem spot_none {w : World} {a : Addr} {u : Value} (h : w.cell? a = some u) : a = ⟨a.block, a.off, none⟩ := by
  obtain ⟨b, o, s⟩ := a
  cases s with
  | none => rfl
  | some k =>
    unfold World.cell? at h
    split at h
    · simp at h
    · cases h
set_option maxRecDepth 100000 in
theorem open_il {H : Type} {enc : TypeId × Value → H} {W : World} {base : Nat} {v : Value} {d : DataW H} {p : List MemPlace} (hv : Value.okWide Tryd.prog W .any base 34 v)
    (h : DataW.Trod enc Tryd.prog W 0 (fun _ => true) true 34 v d p) : ∃ (A : Option Addr) (n c : Nat) (xs : List Int), v = .slice A n c ∧ IL W A n xs ∧ n ≤ c ∧ c ≤ maxLen := by
  obtain ⟨A, len, cap, rfl⟩ := okWide_slice Tryd.underlying34 hv
  obtain ⟨fuel, hf⟩ := h
  rcases open_ints Tryd.underlying34 Tryd.underlying3 cellsInt hf with ⟨hc, _⟩ | ⟨a, len', cap', zs, hc, _, hlc, hcm, hzl, _, hcell, -⟩
  · simp [Value.cells] at hc
    obtain ⟨rfl, rfl, rfl⟩ := hc
    exact ⟨none, 0, 0, [], rfl, IL.nil_, Nat.le_refl _, by simp [maxLen]⟩
  · simp [Value.cells] at hc
    obtain ⟨rfl, rfl, rfl⟩ := hc
    simp only [if_true] at hzl
    refine ⟨some a, len, cap, zs.take len, rfl, ⟨by simp; omega, fun hpos => ?_⟩, hlc, hcm⟩
    have h00 := hcell 0 (by omega)
    have ea : a = ⟨a.block, a.off, none⟩ := spot_none (w := W) (a := a) (by simpa [Addr.add] using h00)
    refine ⟨a.block, a.off, by rw [← ea], fun j x hxj => ?_⟩
    have hj : j < len := by
      have := (List.getElem?_eq_some_iff.1 hxj).1
      simp at this
      omega
    have hzj : zs[j]? = some x := by
      rw [List.getElem?_take_of_lt hj] at hxj; exact hxj
    have ej : a.add j = ⟨a.block, a.off + j, none⟩ := by
      rw [ea]
      unfold Addr.add
      split
      · rename_i h; subst h; rfl
      · rfl
    rw [← ej, hcell j (by omega), List.getD, hzj]
    rfl

end Go.Proofs.YtdoknlodnpeeoaaDoor
