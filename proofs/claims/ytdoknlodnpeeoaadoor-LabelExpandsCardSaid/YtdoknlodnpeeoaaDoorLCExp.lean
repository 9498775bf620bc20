/- LabelExpands returns true for every string, whatever the world that holds the laid variables; the arguments read as before. Conditions: the row's own list of laid variables, tied to the program's text. -/
import Derived.Test.YtdoknlodnpeeoaaDoorLBExp
import Derived.Test.YtdoknlodnpeeoaaDoorLLaid
import Derived.Test.YtdoknlodnpeeoaaDoorCards
import Derived.Test.YtdoknlodnpeeoaaDoorTie
import Derived.ChangeMaps5
namespace Go.Proofs.YtdoknlodnpeeoaaDoor
open Go Go.ChangeShapes Go.WideShapes Go.ChangeAt Go.RowKit Go.ChangeMaps

def labelExpandsArgs : Array Value := #[.string ⟨#[]⟩]
set_option maxRecDepth 100000 in
theorem labelExpands_met (os : Os) : laidMet Tryd.prog seven ((World.laidAll Tryd.prog os seven).forCall (fun _ _ => 0) ⟨#[], labelExpandsArgs, []⟩).memory :=
  laidMet_laidAll _ (by kernel_rfl) (by kernel_rfl)
theorem labelExpands_reads (os : Os) {H : Type} (enc : TypeId × Value → H) : ∃ places, DataW.whole enc Tryd.prog ((World.laidAll Tryd.prog os seven).forCall (fun _ _ => 0) ⟨#[], labelExpandsArgs, []⟩).memory Tryd.f8.params.toList Rows.labelExpandsSpec.vars false labelExpandsArgs.toList 8 = some ([.lit (.string [])], [], places) :=
  ⟨[], by kernel_rfl⟩

set_option maxRecDepth 100000 in
theorem labelExpands_lifted (os : Os) (started : os.Started) (H : Type) (enc : TypeId × Value → H) (F : Stop.Interp) :
    ReturnsInHanded {} Tryd.checked os 8 .any ((OpenSpec.ofChange Rows.labelExpandsSpec).preRow enc Tryd.prog Tryd.f8 Rows.labelExpandsRow.domain false Rows.labelExpandsRow.laid) (((OpenSpec.ofChange Rows.labelExpandsSpec).at F).post enc Tryd.prog Tryd.f8 false true false false) := by
  obtain ⟨places, hx⟩ := labelExpands_reads os enc
  refine returnsInHanded_of_row (C := Tryd.checked) (s := OpenSpec.ofChange Rows.labelExpandsSpec) own started (by kernel_rfl) Tryd.func8
    (witness_row_atRef (enc := enc) (C := Tryd.checked) false (World.laidAll Tryd.prog os seven) labelExpandsArgs (World.laidAll_os _ _ _) (by kernel_rfl) (by kernel_rfl) (by kernel_rfl)
      (OpenSpec.preRow_of_cond 8 hx (by kernel_rfl) (fun k hk => by cases hk) (by kernel_rfl) (labelExpands_met os))) ?_
  intro W base args ds gs before hval0 hW _ _ _ hL hS _
  have hval : ∀ (j : Nat) t v, Tryd.f8.params[j]? = some t → args[j]? = some v → Value.okWide Tryd.prog W .any base t v := hval0
  have hW' := hW
  obtain ⟨p, q, hA0, hV, rfl, hfz, hnd⟩ := hW
  have hA : DataW.TrodAll enc Tryd.prog W 0 (fun _ => true) true Tryd.f8.params.toList args.toList ds p := hA0
  rw [Tryd.params8] at hA hval
  obtain ⟨v0, vs0, d0, ds0, p0, q0, hargs, rfl, rfl, h0, r0⟩ := trodAll_cons hA
  obtain ⟨rfl, rfl, rfl⟩ := trodAll_nil r0
  obtain rfl : args = #[v0] := by cases args; simp_all
  obtain ⟨rfl, rfl⟩ := trodVars_none hV
  obtain ⟨s0, rfl, rfl, rfl, x0⟩ := open_string Tryd.underlying9 (hval 0 9 v0 rfl rfl) h0
  clear hA0 hval0
  simp only [List.append_nil] at hW'
  refine (expands_all s0 W (lw_of hL hS)).mono fun e W' ⟨he, hb⟩ => ?_
  subst he
  exact ⟨_, rfl, _, _, _, [], _, [], hW', trodAll_cons_mk (shut_bool Tryd.underlying4 _) trodAll_mk0, trodAll_cons_mk (shut_string Tryd.underlying9 x0) trodAll_mk0, rfl, hb.frame _, fun h => by cases h⟩

theorem labelExpands_said : Rows.LabelExpandsSaid :=
  OpenClaim.holds_of_cond 8 Tryd.f8 rfl rfl rfl rfl rfl rfl rfl ⟨rfl, rfl, rfl, rfl, rfl⟩ rfl rfl rfl rfl rfl (by kernel_rfl) Tryd.func8 (by kernel_rfl)
    (of_decide_eq_true (by kernel_rfl)) (by unfold Func.isWrapper; first | (rw [if_pos (by decide +kernel)]; kernel_rfl) | (rw [if_neg (by decide +kernel)]; exact ⟨rfl, rfl⟩))
    (fun os started H enc _ F => by rw [OpenClaim.pre_eq_preRow]; exact labelExpands_lifted os started H enc F)

theorem labelExpands_plain (f : FuncId) (fn : Func) (hf : Tryd.pinned.checked.prog.funcNamed "coinage/coinagelaw05.LabelExpands" = some f) (hfn : Tryd.pinned.checked.prog.funcs[f]? = some fn) :
    true = Tryd.pinned.checked.prog.looks [] ∧ ∀ (j : Nat) t, fn.params[j]? = some t → Tryd.pinned.checked.prog.wantsStandIn t = false := by
  obtain rfl : f = 8 := Option.some.inj ((show Tryd.prog.funcNamed "coinage/coinagelaw05.LabelExpands" = some 8 by kernel_rfl).symm.trans hf) |>.symm
  obtain rfl : fn = Tryd.f8 := (Option.some.inj (Tryd.func8.symm.trans hfn)).symm
  refine ⟨by kernel_rfl, fun j t ht => ?_⟩
  rw [Tryd.params8] at ht
  obtain rfl : t = 9 := by simpa using Array.mem_of_getElem? ht
  exact (show Tryd.prog.wantsStandIn 9 = false by kernel_rfl)

theorem labelExpands_card : Rows.LabelExpandsCardSaid :=
  Claim7.holds_tied_plain_at .later [] _ _ _ _ labelExpands_said (fun _ h => by cases h) (by kernel_rfl) (fun _ h => by cases h) labelExpands_row_tie rfl ⟨rfl, rfl⟩ (by kernel_rfl) rfl labelExpands_plain (by kernel_rfl)
end Go.Proofs.YtdoknlodnpeeoaaDoor
