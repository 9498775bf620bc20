/- FractionNorms returns true for every two ints and every fraction, canonical or not, of naturals of any length, whatever the world that holds the three laid tables; the arguments read as before. Conditions: the row's own list of laid variables, tied to the program's text. -/
import Derived.Test.YtanhofmgapbjfaaDoorNorms
import Derived.Test.YtanhofmgapbjfaaDoorFOpen
import Derived.Test.YtanhofmgapbjfaaDoorFAwake
import Derived.Test.YtanhofmgapbjfaaDoorCards
import Derived.Test.YtanhofmgapbjfaaDoorTie
import Derived.ChangeMaps5
namespace Go.Proofs.YtanhofmgapbjfaaDoor
open Go Go.ChangeShapes Go.WideShapes Go.ChangeAt Go.RowKit Go.ChangeMaps

theorem norms_call (i j : Int) (qa : Bool) (Aa : Option Addr) (na ca : Nat) (xa : List Nat) (Ba : Option Addr) (ma da : Nat) (ya : List Nat) (w : World) (hT : Tab w) (w0 : (Lit.int .i64 i).wf = true) (w1 : (Lit.int .i64 j).wf = true) (ra : RL w .u32 Aa na xa) (hna : na ≤ ca) (hca : ca ≤ maxLen) (hxa : ∀ x ∈ xa, x < 4294967296) (sa : RL w .u32 Ba ma ya) (hma : ma ≤ da) (hda : da ≤ maxLen) (hya : ∀ x ∈ ya, x < 4294967296) :
    Calls Tryd.prog 3 #[.int .i64 i, .int .i64 j, .agg #[.bool qa, .slice Aa na ca, .slice Ba ma da]] w fun e w' => e = .returned (.bool true) ∧ Below w.heap.size w w' := by
  have hi : -9223372036854775808 ≤ i ∧ i ≤ 9223372036854775807 := by
    simp [Lit.wf, IntKind.min, IntKind.max, IntKind.signed, IntKind.bits] at w0
    omega
  have hj : -9223372036854775808 ≤ j ∧ j ≤ 9223372036854775807 := by
    simp [Lit.wf, IntKind.min, IntKind.max, IntKind.signed, IntKind.bits] at w1
    omega
  by_cases h : na ≤ 6 ∧ ma ≤ 6
  · exact norms_yes (hide awake2) i j hi.1 hi.2 hj.1 hj.2 qa Aa na ca Ba ma da _ w (frac_fr ra hna hca hxa sa hma hda hya 6 h.1 h.2) hT h
  · exact norms_no (hide awake2) i j hi.1 hi.2 hj.1 hj.2 qa Aa na ca Ba ma da w hT h

def normsArgs : Array Value := #[.int .i64 0, .int .i64 0, .agg #[.bool false, .slice none 0 0, .slice none 0 0]]
set_option maxRecDepth 100000 in
theorem norms_met (os : Os) : laidMet Tryd.prog three ((laidWorld os).forCall (fun _ _ => 0) ⟨#[], normsArgs, []⟩).memory :=
  laidMet_of_run' 8 (by kernel_rfl) (by kernel_rfl)
theorem norms_reads (os : Os) {H : Type} (enc : TypeId × Value → H) : ∃ places, DataW.whole enc Tryd.prog ((laidWorld os).forCall (fun _ _ => 0) ⟨#[], normsArgs, []⟩).memory Tryd.f3.params.toList Rows.fractionNormsSpec.vars false normsArgs.toList 8 = some ([.lit (.int .i64 0), .lit (.int .i64 0), .agg [.lit (.bool false), .agg [.nil], .agg [.nil]]], [], places) :=
  ⟨[], by kernel_rfl⟩

set_option maxRecDepth 100000 in
theorem norms_lifted (os : Os) (started : os.Started) (H : Type) (enc : TypeId × Value → H) (F : Stop.Interp) :
    ReturnsInHanded {} Tryd.checked os 3 .any ((OpenSpec.ofChange Rows.fractionNormsSpec).preRow enc Tryd.prog Tryd.f3 Rows.fractionNormsRow.domain false Rows.fractionNormsRow.laid) (((OpenSpec.ofChange Rows.fractionNormsSpec).at F).post enc Tryd.prog Tryd.f3 false true false false) := by
  obtain ⟨places, hx⟩ := norms_reads os enc
  refine returnsInHanded_of_row (C := Tryd.checked) (s := OpenSpec.ofChange Rows.fractionNormsSpec) own started (by kernel_rfl) Tryd.func3
    (witness_row_at (enc := enc) (C := Tryd.checked) false (laidWorld os) normsArgs rfl (by kernel_rfl) (by kernel_rfl) (by kernel_rfl)
      (OpenSpec.preRow_of_cond 8 hx (by kernel_rfl) (fun k hk => by cases hk) (by kernel_rfl) (norms_met os))) ?_
  intro W base args ds gs before hval0 hW _ _ _ hL _ _
  have hval : ∀ (j : Nat) t v, Tryd.f3.params[j]? = some t → args[j]? = some v → Value.okWide Tryd.prog W .any base t v := hval0
  have hW' := hW
  obtain ⟨p, q, hA0, hV, rfl, hfz, hnd⟩ := hW
  have hA : DataW.TrodAll enc Tryd.prog W 0 (fun _ => true) true Tryd.f3.params.toList args.toList ds p := hA0
  rw [Tryd.params3] at hA hval
  obtain ⟨v0, vs0, d0, ds0, p0, q0, hargs, rfl, rfl, h0, r0⟩ := trodAll_cons hA
  obtain ⟨v1, vs1, d1, ds1, p1, q1, rfl, rfl, rfl, h1, r1⟩ := trodAll_cons r0
  obtain ⟨v2, vs2, d2, ds2, p2, q2, rfl, rfl, rfl, h2, r2⟩ := trodAll_cons r1
  obtain ⟨rfl, rfl, rfl⟩ := trodAll_nil r2
  obtain rfl : args = #[v0, v1, v2] := by cases args; simp_all
  obtain ⟨rfl, rfl⟩ := trodVars_none hV
  obtain ⟨a0, rfl, rfl, rfl, w0⟩ := open_int Tryd.underlying3 (hval 0 3 v0 rfl rfl) h0
  obtain ⟨a1, rfl, rfl, rfl, w1⟩ := open_int Tryd.underlying3 (hval 1 3 v1 rfl rfl) h1
  obtain ⟨qF2, A2, n2, c2, x2, B2, m2, e2, y2, rfl, rF2, iF2, jF2, kF2, sF2, tF2, uF2, vF2⟩ := open_frac (hval 2 26 v2 rfl rfl) h2
  clear hA0 hval0
  simp only [List.append_nil] at hW'
  have l2 : ∀ x ∈ p2, x.block < W.heap.size := fun x hx => by simpa using hW'.lt x (by simp [hx])
  refine (norms_call a0 a1 qF2 A2 n2 c2 x2 B2 m2 e2 y2 W (tab_of hL) w0 w1 rF2 iF2 jF2 kF2 sF2 tF2 uF2 vF2).mono fun e W' ⟨he, hb⟩ => ?_
  subst he
  exact ⟨_, rfl, _, _, _, [], _, [], hW', trodAll_cons_mk (shut_bool Tryd.underlying4 _) trodAll_mk0, (trodAll_cons_mk (shut_int Tryd.underlying3 w0) (trodAll_cons_mk (shut_int Tryd.underlying3 w1) (trodAll_cons_mk (Below.trod laidOut (by kernel_rfl) (of_decide_eq_true (by kernel_rfl)) h2 hb l2) trodAll_mk0))), rfl, hb.frame _, fun h => by cases h⟩

theorem norms_said : Rows.FractionNormsSaid :=
  OpenClaim.holds_of_cond 3 Tryd.f3 rfl rfl rfl rfl rfl rfl rfl ⟨rfl, rfl, rfl, rfl, rfl⟩ rfl rfl rfl rfl rfl (by kernel_rfl) Tryd.func3 (by kernel_rfl)
    (of_decide_eq_true (by kernel_rfl)) (by unfold Func.isWrapper; first | (rw [if_pos (by decide +kernel)]; kernel_rfl) | (rw [if_neg (by decide +kernel)]; exact ⟨rfl, rfl⟩))
    (fun os started H enc _ F => by rw [OpenClaim.pre_eq_preRow]; exact norms_lifted os started H enc F)

theorem norms_plain (f : FuncId) (fn : Func) (hf : Tryd.pinned.checked.prog.funcNamed "coinage/coinagelaw02.FractionNorms" = some f) (hfn : Tryd.pinned.checked.prog.funcs[f]? = some fn) :
    false = Tryd.pinned.checked.prog.looks [] ∧ ∀ (j : Nat) t, fn.params[j]? = some t → Tryd.pinned.checked.prog.wantsStandIn t = false := by
  obtain rfl : f = 3 := Option.some.inj ((show Tryd.prog.funcNamed "coinage/coinagelaw02.FractionNorms" = some 3 by kernel_rfl).symm.trans hf) |>.symm
  obtain rfl : fn = Tryd.f3 := (Option.some.inj (Tryd.func3.symm.trans hfn)).symm
  refine ⟨by kernel_rfl, fun j t ht => ?_⟩
  rw [Tryd.params3] at ht
  have hm : t = 3 ∨ t = 26 := by simpa using Array.mem_of_getElem? ht
  rcases hm with rfl | rfl
  · exact (show Tryd.prog.wantsStandIn 3 = false by kernel_rfl)
  · exact (show Tryd.prog.wantsStandIn 26 = false by kernel_rfl)

theorem norms_card : Rows.FractionNormsCardSaid :=
  Claim7.holds_tied_plain_at .later [] _ _ _ _ norms_said (fun _ h => by cases h) (by kernel_rfl) (fun _ h => by cases h) fractionNorms_row_tie rfl ⟨rfl, rfl⟩ (by kernel_rfl) rfl norms_plain (by kernel_rfl)
end Go.Proofs.YtanhofmgapbjfaaDoor
