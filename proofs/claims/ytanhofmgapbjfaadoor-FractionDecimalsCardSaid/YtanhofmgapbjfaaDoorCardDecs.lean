/- FractionDecimals returns true for every fraction, canonical or not, of naturals of any length, and every int, whatever the world that holds the three laid tables; the arguments read as before. Conditions: the row's own list of laid variables, tied to the program's text. -/
import Derived.Test.YtanhofmgapbjfaaDoorDecs
import Derived.Test.YtanhofmgapbjfaaDoorFOpen
import Derived.Test.YtanhofmgapbjfaaDoorFAwake
import Derived.Test.YtanhofmgapbjfaaDoorCards
import Derived.Test.YtanhofmgapbjfaaDoorTie
import Derived.ChangeMaps5
namespace Go.Proofs.YtanhofmgapbjfaaDoor
open Go Go.ChangeShapes Go.WideShapes Go.ChangeAt Go.RowKit Go.ChangeMaps

theorem decs_call (qa : Bool) (Aa : Option Addr) (na ca : Nat) (xa : List Nat) (Ba : Option Addr) (ma da : Nat) (ya : List Nat) (k : Int) (w : World) (hT : Tab w) (ra : RL w .u32 Aa na xa) (hna : na ≤ ca) (hca : ca ≤ maxLen) (hxa : ∀ x ∈ xa, x < 4294967296) (sa : RL w .u32 Ba ma ya) (hma : ma ≤ da) (hda : da ≤ maxLen) (hya : ∀ x ∈ ya, x < 4294967296) (_w1 : (Lit.int .i64 k).wf = true) :
    Calls Tryd.prog 6 #[.agg #[.bool qa, .slice Aa na ca, .slice Ba ma da], .int .i64 k] w fun e w' => e = .returned (.bool true) ∧ Below w.heap.size w w' := by
  by_cases h : na ≤ 6 ∧ ma ≤ 6
  · by_cases hk : 0 ≤ k ∧ k ≤ 20
    · exact decs_ok (hide awake2) k qa Aa na ca Ba ma da _ w (frac_fr ra hna hca hxa sa hma hda hya 6 h.1 h.2) hT hk.1 hk.2 h
    · exact decs_err (hide awake2) k qa Aa na ca Ba ma da w hT (by omega) h
  · exact decs_no (hide awake2) k qa Aa na ca Ba ma da w hT h

def decsArgs : Array Value := #[.agg #[.bool false, .slice none 0 0, .slice none 0 0], .int .i64 0]
set_option maxRecDepth 100000 in
theorem decs_met (os : Os) : laidMet Tryd.prog three ((laidWorld os).forCall (fun _ _ => 0) ⟨#[], decsArgs, []⟩).memory :=
  laidMet_of_run' 8 (by kernel_rfl) (by kernel_rfl)
theorem decs_reads (os : Os) {H : Type} (enc : TypeId × Value → H) : ∃ places, DataW.whole enc Tryd.prog ((laidWorld os).forCall (fun _ _ => 0) ⟨#[], decsArgs, []⟩).memory Tryd.f6.params.toList Rows.fractionDecimalsSpec.vars false decsArgs.toList 8 = some ([.agg [.lit (.bool false), .agg [.nil], .agg [.nil]], .lit (.int .i64 0)], [], places) :=
  ⟨[], by kernel_rfl⟩

set_option maxRecDepth 100000 in
theorem decs_lifted (os : Os) (started : os.Started) (H : Type) (enc : TypeId × Value → H) (F : Stop.Interp) :
    ReturnsInHanded {} Tryd.checked os 6 .any ((OpenSpec.ofChange Rows.fractionDecimalsSpec).preRow enc Tryd.prog Tryd.f6 Rows.fractionDecimalsRow.domain false Rows.fractionDecimalsRow.laid) (((OpenSpec.ofChange Rows.fractionDecimalsSpec).at F).post enc Tryd.prog Tryd.f6 false true false false) := by
  obtain ⟨places, hx⟩ := decs_reads os enc
  refine returnsInHanded_of_row (C := Tryd.checked) (s := OpenSpec.ofChange Rows.fractionDecimalsSpec) own started (by kernel_rfl) Tryd.func6
    (witness_row_at (enc := enc) (C := Tryd.checked) false (laidWorld os) decsArgs rfl (by kernel_rfl) (by kernel_rfl) (by kernel_rfl)
      (OpenSpec.preRow_of_cond 8 hx (by kernel_rfl) (fun k hk => by cases hk) (by kernel_rfl) (decs_met os))) ?_
  intro W base args ds gs before hval0 hW _ _ _ hL _ _
  have hval : ∀ (j : Nat) t v, Tryd.f6.params[j]? = some t → args[j]? = some v → Value.okWide Tryd.prog W .any base t v := hval0
  have hW' := hW
  obtain ⟨p, q, hA0, hV, rfl, hfz, hnd⟩ := hW
  have hA : DataW.TrodAll enc Tryd.prog W 0 (fun _ => true) true Tryd.f6.params.toList args.toList ds p := hA0
  rw [Tryd.params6] at hA hval
  obtain ⟨v0, vs0, d0, ds0, p0, q0, hargs, rfl, rfl, h0, r0⟩ := trodAll_cons hA
  obtain ⟨v1, vs1, d1, ds1, p1, q1, rfl, rfl, rfl, h1, r1⟩ := trodAll_cons r0
  obtain ⟨rfl, rfl, rfl⟩ := trodAll_nil r1
  obtain rfl : args = #[v0, v1] := by cases args; simp_all
  obtain ⟨rfl, rfl⟩ := trodVars_none hV
  obtain ⟨qF0, A0, n0, c0, x0, B0, m0, e0, y0, rfl, rF0, iF0, jF0, kF0, sF0, tF0, uF0, vF0⟩ := open_frac (hval 0 26 v0 rfl rfl) h0
  obtain ⟨a1, rfl, rfl, rfl, w1⟩ := open_int Tryd.underlying3 (hval 1 3 v1 rfl rfl) h1
  clear hA0 hval0
  simp only [List.append_nil] at hW'
  have l0 : ∀ x ∈ p0, x.block < W.heap.size := fun x hx => by simpa using hW'.lt x (by simp [hx])
  refine (decs_call qF0 A0 n0 c0 x0 B0 m0 e0 y0 a1 W (tab_of hL) rF0 iF0 jF0 kF0 sF0 tF0 uF0 vF0 w1).mono fun e W' ⟨he, hb⟩ => ?_
  subst he
  exact ⟨_, rfl, _, _, _, [], _, [], hW', trodAll_cons_mk (shut_bool Tryd.underlying4 _) trodAll_mk0, (trodAll_cons_mk (Below.trod laidOut (by kernel_rfl) (of_decide_eq_true (by kernel_rfl)) h0 hb l0) (trodAll_cons_mk (shut_int Tryd.underlying3 w1) trodAll_mk0)), rfl, hb.frame _, fun h => by cases h⟩

theorem decs_said : Rows.FractionDecimalsSaid :=
  OpenClaim.holds_of_cond 6 Tryd.f6 rfl rfl rfl rfl rfl rfl rfl ⟨rfl, rfl, rfl, rfl, rfl⟩ rfl rfl rfl rfl rfl (by kernel_rfl) Tryd.func6 (by kernel_rfl)
    (of_decide_eq_true (by kernel_rfl)) (by unfold Func.isWrapper; first | (rw [if_pos (by decide +kernel)]; kernel_rfl) | (rw [if_neg (by decide +kernel)]; exact ⟨rfl, rfl⟩))
    (fun os started H enc _ F => by rw [OpenClaim.pre_eq_preRow]; exact decs_lifted os started H enc F)

theorem decs_plain (f : FuncId) (fn : Func) (hf : Tryd.pinned.checked.prog.funcNamed "coinage/coinagelaw02.FractionDecimals" = some f) (hfn : Tryd.pinned.checked.prog.funcs[f]? = some fn) :
    false = Tryd.pinned.checked.prog.looks [] ∧ ∀ (j : Nat) t, fn.params[j]? = some t → Tryd.pinned.checked.prog.wantsStandIn t = false := by
  obtain rfl : f = 6 := Option.some.inj ((show Tryd.prog.funcNamed "coinage/coinagelaw02.FractionDecimals" = some 6 by kernel_rfl).symm.trans hf) |>.symm
  obtain rfl : fn = Tryd.f6 := (Option.some.inj (Tryd.func6.symm.trans hfn)).symm
  refine ⟨by kernel_rfl, fun j t ht => ?_⟩
  rw [Tryd.params6] at ht
  have hm : t = 26 ∨ t = 3 := by simpa using Array.mem_of_getElem? ht
  rcases hm with rfl | rfl
  · exact (show Tryd.prog.wantsStandIn 26 = false by kernel_rfl)
  · exact (show Tryd.prog.wantsStandIn 3 = false by kernel_rfl)

theorem decs_card : Rows.FractionDecimalsCardSaid :=
  Claim7.holds_tied_plain_at .later [] _ _ _ _ decs_said (fun _ h => by cases h) (by kernel_rfl) (fun _ h => by cases h) fractionDecimals_row_tie rfl ⟨rfl, rfl⟩ (by kernel_rfl) rfl decs_plain (by kernel_rfl)
end Go.Proofs.YtanhofmgapbjfaaDoor
