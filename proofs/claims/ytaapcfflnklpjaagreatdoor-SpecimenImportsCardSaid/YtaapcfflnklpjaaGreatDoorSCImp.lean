/- SpecimenImports returns true for every string, whatever the world that holds the laid variables; the arguments read as before. Conditions: the row's own list of laid variables, tied to the program's text. -/
import Derived.Test.YtaapcfflnklpjaaGreatDoorSBI
import Derived.Test.YtaapcfflnklpjaaGreatDoorSLd
import Derived.Test.YtaapcfflnklpjaaGreatDoorCards
import Derived.Test.YtaapcfflnklpjaaGreatDoorTie
import Derived.ChangeMaps5
namespace Go.Proofs.YtaapcfflnklpjaaGreatDoor
open Go Go.ChangeShapes Go.WideShapes Go.ChangeAt Go.RowKit Go.ChangeMaps

def specimenImportsArgs : Array Value := #[.string ⟨#[]⟩]
set_option maxRecDepth 100000 in
theorem specimenImports_met (os : Os) : laidMet Tryz.prog seven ((World.laidAll Tryz.prog os seven).forCall (fun _ _ => 0) ⟨#[], specimenImportsArgs, []⟩).memory :=
  laidMet_laidAll _ (by kernel_rfl) (by kernel_rfl)
theorem specimenImports_reads (os : Os) {H : Type} (enc : TypeId × Value → H) : ∃ places, DataW.whole enc Tryz.prog ((World.laidAll Tryz.prog os seven).forCall (fun _ _ => 0) ⟨#[], specimenImportsArgs, []⟩).memory Tryz.f11.params.toList Rows.specimenImportsSpec.vars false specimenImportsArgs.toList 8 = some ([.lit (.string [])], [], places) :=
  ⟨[], by kernel_rfl⟩

set_option maxRecDepth 100000 in
theorem specimenImports_lifted (os : Os) (started : os.Started) (H : Type) (enc : TypeId × Value → H) (F : Stop.Interp) :
    ReturnsInHanded {} Tryz.checked os 11 .any ((OpenSpec.ofChange Rows.specimenImportsSpec).preRow enc Tryz.prog Tryz.f11 Rows.specimenImportsRow.domain false Rows.specimenImportsRow.laid) (((OpenSpec.ofChange Rows.specimenImportsSpec).at F).post enc Tryz.prog Tryz.f11 false true false false) := by
  obtain ⟨places, hx⟩ := specimenImports_reads os enc
  refine returnsInHanded_of_row (C := Tryz.checked) (s := OpenSpec.ofChange Rows.specimenImportsSpec) own started (by kernel_rfl) Tryz.func11
    (witness_row_atRef (enc := enc) (C := Tryz.checked) false (World.laidAll Tryz.prog os seven) specimenImportsArgs (World.laidAll_os _ _ _) (by kernel_rfl) (by kernel_rfl) (by kernel_rfl)
      (OpenSpec.preRow_of_cond 8 hx (by kernel_rfl) (fun k hk => by cases hk) (by kernel_rfl) (specimenImports_met os))) ?_
  intro W base args ds gs before hval0 hW _ _ _ hL hS _
  have hval : ∀ (j : Nat) t v, Tryz.f11.params[j]? = some t → args[j]? = some v → Value.okWide Tryz.prog W .any base t v := hval0
  have hW' := hW
  obtain ⟨p, q, hA0, hV, rfl, hfz, hnd⟩ := hW
  have hA : DataW.TrodAll enc Tryz.prog W 0 (fun _ => true) true Tryz.f11.params.toList args.toList ds p := hA0
  rw [Tryz.params11] at hA hval
  obtain ⟨v0, vs0, d0, ds0, p0, q0, hargs, rfl, rfl, h0, r0⟩ := trodAll_cons hA
  obtain ⟨rfl, rfl, rfl⟩ := trodAll_nil r0
  obtain rfl : args = #[v0] := by cases args; simp_all
  obtain ⟨rfl, rfl⟩ := trodVars_none hV
  obtain ⟨s0, rfl, rfl, rfl, x0⟩ := open_string Tryz.underlying9 (hval 0 9 v0 rfl rfl) h0
  clear hA0 hval0
  simp only [List.append_nil] at hW'
  refine (imports_all s0 W (lw_of hL hS)).mono fun e W' ⟨he, hb⟩ => ?_
  subst he
  exact ⟨_, rfl, _, _, _, [], _, [], hW', trodAll_cons_mk (shut_bool Tryz.underlying4 _) trodAll_mk0, trodAll_cons_mk (shut_string Tryz.underlying9 x0) trodAll_mk0, rfl, hb.frame _, fun h => by cases h⟩

theorem specimenImports_said : Rows.SpecimenImportsSaid :=
  OpenClaim.holds_of_cond 11 Tryz.f11 rfl rfl rfl rfl rfl rfl rfl ⟨rfl, rfl, rfl, rfl, rfl⟩ rfl rfl rfl rfl rfl (by kernel_rfl) Tryz.func11 (by kernel_rfl)
    (of_decide_eq_true (by kernel_rfl)) (by unfold Func.isWrapper; first | (rw [if_pos (by decide +kernel)]; kernel_rfl) | (rw [if_neg (by decide +kernel)]; exact ⟨rfl, rfl⟩))
    (fun os started H enc _ F => by rw [OpenClaim.pre_eq_preRow]; exact specimenImports_lifted os started H enc F)

theorem specimenImports_plain (f : FuncId) (fn : Func) (hf : Tryz.pinned.checked.prog.funcNamed "coinage/coinagelaw09.SpecimenImports" = some f) (hfn : Tryz.pinned.checked.prog.funcs[f]? = some fn) :
    true = Tryz.pinned.checked.prog.looks [] ∧ ∀ (j : Nat) t, fn.params[j]? = some t → Tryz.pinned.checked.prog.wantsStandIn t = false := by
  obtain rfl : f = 11 := Option.some.inj ((show Tryz.prog.funcNamed "coinage/coinagelaw09.SpecimenImports" = some 11 by kernel_rfl).symm.trans hf) |>.symm
  obtain rfl : fn = Tryz.f11 := (Option.some.inj (Tryz.func11.symm.trans hfn)).symm
  refine ⟨by kernel_rfl, fun j t ht => ?_⟩
  rw [Tryz.params11] at ht
  obtain rfl : t = 9 := by simpa using Array.mem_of_getElem? ht
  exact (show Tryz.prog.wantsStandIn 9 = false by kernel_rfl)

theorem specimenImports_card : Rows.SpecimenImportsCardSaid :=
  Claim7.holds_tied_plain_at .later [] _ _ _ _ specimenImports_said (fun _ h => by cases h) (by kernel_rfl) (fun _ h => by cases h) specimenImports_row_tie rfl ⟨rfl, rfl⟩ (by kernel_rfl) rfl specimenImports_plain (by kernel_rfl)
end Go.Proofs.YtaapcfflnklpjaaGreatDoor
