/- FractionRounds returns true for every fraction, canonical or not, of naturals of any length, and every int, whatever the world that holds the five laid tables; the arguments read as before. Conditions: the row's own list of laid variables, tied to the program's text. -/
import Derived.Test.YtoeknkakdoemfaaGreatDoorZJ
import Derived.Test.YtoeknkakdoemfaaGreatDoorZI
import Derived.Test.YtoeknkakdoemfaaGreatDoorCards
import Derived.Test.YtoeknkakdoemfaaGreatDoorTie
import Derived.ChangeMaps5
import Derived.Lay
namespace Go.Proofs.YtoeknkakdoemfaaGreatDoor
open Go Go.ChangeShapes Go.WideShapes Go.ChangeAt Go.RowKit Go.ChangeMaps

/-- the row's list: the three tables and two more -/
def five : List (String × DataW Unit) := Rows.fractionRoundsRow.laid
def isThree (x : String × DataW Unit) : Bool := x.1 == "math/bits.deBruijn32tab" || x.1 == "math/bits.deBruijn64tab" || x.1 == "internal/strconv.uint64pow10"
theorem five_three : five.filter isThree = three := by kernel_rfl
theorem three_of {W : World} (h : laidMetH Tryz.prog five W) : laidMetH Tryz.prog three W := by
  have h' := h.filter isThree
  rwa [five_three] at h'

theorem rounds_call (qa : Bool) (Aa : Option Addr) (na ca : Nat) (xa : List Nat) (Ba : Option Addr) (ma da : Nat) (ya : List Nat) (k : Int) (w : World) (hT : Zw w) (ra : RL w .u32 Aa na xa) (hna : na ≤ ca) (hca : ca ≤ maxLen) (hxa : ∀ x ∈ xa, x < 4294967296) (sa : RL w .u32 Ba ma ya) (hma : ma ≤ da) (hda : da ≤ maxLen) (hya : ∀ x ∈ ya, x < 4294967296) (_w1 : (Lit.int .i64 k).wf = true) :
    Calls Tryz.prog 7 #[.agg #[.bool qa, .slice Aa na ca, .slice Ba ma da], .int .i64 k] w fun e w' => e = .returned (.bool true) ∧ Below w.heap.size w w' := by
  by_cases h : na ≤ 6 ∧ ma ≤ 6
  · exact rounds_yes (hide awake2) k qa Aa na ca Ba ma da _ w (frac_fr ra hna hca hxa sa hma hda hya 6 h.1 h.2) hT h (k % 21).toNat (by omega)
  · exact rounds_no (hide awake2) k qa Aa na ca Ba ma da w hT h

def roundsArgs : Array Value := #[.agg #[.bool false, .slice none 0 0, .slice none 0 0], .int .i64 0]
set_option maxRecDepth 100000 in
theorem rounds_met (os : Os) : laidMet Tryz.prog five ((World.laidAll Tryz.prog os five).forCall (fun _ _ => 0) ⟨#[], roundsArgs, []⟩).memory :=
  laidMet_laidAll _ (by kernel_rfl) (by kernel_rfl)
theorem rounds_reads (os : Os) {H : Type} (enc : TypeId × Value → H) : ∃ places, DataW.whole enc Tryz.prog ((World.laidAll Tryz.prog os five).forCall (fun _ _ => 0) ⟨#[], roundsArgs, []⟩).memory Tryz.f7.params.toList Rows.fractionRoundsSpec.vars false roundsArgs.toList 8 = some ([.agg [.lit (.bool false), .agg [.nil], .agg [.nil]], .lit (.int .i64 0)], [], places) :=
  ⟨[], by kernel_rfl⟩

set_option maxRecDepth 100000 in
theorem rounds_lifted (os : Os) (started : os.Started) (H : Type) (enc : TypeId × Value → H) (F : Stop.Interp) :
    ReturnsInHanded {} Tryz.checked os 7 .any ((OpenSpec.ofChange Rows.fractionRoundsSpec).preRow enc Tryz.prog Tryz.f7 Rows.fractionRoundsRow.domain false Rows.fractionRoundsRow.laid) (((OpenSpec.ofChange Rows.fractionRoundsSpec).at F).post enc Tryz.prog Tryz.f7 false true false false) := by
  obtain ⟨places, hx⟩ := rounds_reads os enc
  refine returnsInHanded_of_row (C := Tryz.checked) (s := OpenSpec.ofChange Rows.fractionRoundsSpec) own started (by kernel_rfl) Tryz.func7
    (witness_row_at (enc := enc) (C := Tryz.checked) false (World.laidAll Tryz.prog os five) roundsArgs (World.laidAll_os _ _ _) (by kernel_rfl) (by kernel_rfl) (by kernel_rfl)
      (OpenSpec.preRow_of_cond 8 hx (by kernel_rfl) (fun k hk => by cases hk) (by kernel_rfl) (rounds_met os))) ?_
  intro W base args ds gs before hval0 hW _ _ _ hL hS _
  have hval : ∀ (j : Nat) t v, Tryz.f7.params[j]? = some t → args[j]? = some v → Value.okWide Tryz.prog W .any base t v := hval0
  have hW' := hW
  obtain ⟨p, q, hA0, hV, rfl, hfz, hnd⟩ := hW
  have hA : DataW.TrodAll enc Tryz.prog W 0 (fun _ => true) true Tryz.f7.params.toList args.toList ds p := hA0
  rw [Tryz.params7] at hA hval
  obtain ⟨v0, vs0, d0, ds0, p0, q0, hargs, rfl, rfl, h0, r0⟩ := trodAll_cons hA
  obtain ⟨v1, vs1, d1, ds1, p1, q1, rfl, rfl, rfl, h1, r1⟩ := trodAll_cons r0
  obtain ⟨rfl, rfl, rfl⟩ := trodAll_nil r1
  obtain rfl : args = #[v0, v1] := by cases args; simp_all
  obtain ⟨rfl, rfl⟩ := trodVars_none hV
  obtain ⟨qF0, A0, n0, c0, x0, B0, m0, e0, y0, rfl, rF0, iF0, jF0, kF0, sF0, tF0, uF0, vF0⟩ := open_frac (hval 0 26 v0 rfl rfl) h0
  obtain ⟨a1, rfl, rfl, rfl, w1⟩ := open_int Tryz.underlying3 (hval 1 3 v1 rfl rfl) h1
  clear hA0 hval0
  simp only [List.append_nil] at hW'
  have l0 : ∀ x ∈ p0, x.block < W.heap.size := fun x hx => by simpa using hW'.lt x (by simp [hx])
  refine (rounds_call qF0 A0 n0 c0 x0 B0 m0 e0 y0 a1 W (zw_of (three_of hL) hS) rF0 iF0 jF0 kF0 sF0 tF0 uF0 vF0 w1).mono fun e W' ⟨he, hb⟩ => ?_
  subst he
  exact ⟨_, rfl, _, _, _, [], _, [], hW', trodAll_cons_mk (shut_bool Tryz.underlying4 _) trodAll_mk0, (trodAll_cons_mk (Below.trod laidOut (by kernel_rfl) (of_decide_eq_true (by kernel_rfl)) h0 hb l0) (trodAll_cons_mk (shut_int Tryz.underlying3 w1) trodAll_mk0)), rfl, hb.frame _, fun h => by cases h⟩

theorem rounds_said : Rows.FractionRoundsSaid :=
  OpenClaim.holds_of_cond 7 Tryz.f7 rfl rfl rfl rfl rfl rfl rfl ⟨rfl, rfl, rfl, rfl, rfl⟩ rfl rfl rfl rfl rfl (by kernel_rfl) Tryz.func7 (by kernel_rfl)
    (of_decide_eq_true (by kernel_rfl)) (by unfold Func.isWrapper; first | (rw [if_pos (by decide +kernel)]; kernel_rfl) | (rw [if_neg (by decide +kernel)]; exact ⟨rfl, rfl⟩))
    (fun os started H enc _ F => by rw [OpenClaim.pre_eq_preRow]; exact rounds_lifted os started H enc F)

theorem rounds_plain (f : FuncId) (fn : Func) (hf : Tryz.pinned.checked.prog.funcNamed "coinage/coinagelaw02.FractionRounds" = some f) (hfn : Tryz.pinned.checked.prog.funcs[f]? = some fn) :
    false = Tryz.pinned.checked.prog.looks [] ∧ ∀ (j : Nat) t, fn.params[j]? = some t → Tryz.pinned.checked.prog.wantsStandIn t = false := by
  obtain rfl : f = 7 := Option.some.inj ((show Tryz.prog.funcNamed "coinage/coinagelaw02.FractionRounds" = some 7 by kernel_rfl).symm.trans hf) |>.symm
  obtain rfl : fn = Tryz.f7 := (Option.some.inj (Tryz.func7.symm.trans hfn)).symm
  refine ⟨by kernel_rfl, fun j t ht => ?_⟩
  rw [Tryz.params7] at ht
  have hm : t = 26 ∨ t = 3 := by simpa using Array.mem_of_getElem? ht
  rcases hm with rfl | rfl
  · exact (show Tryz.prog.wantsStandIn 26 = false by kernel_rfl)
  · exact (show Tryz.prog.wantsStandIn 3 = false by kernel_rfl)

theorem rounds_card : Rows.FractionRoundsCardSaid :=
  Claim7.holds_tied_plain_at .later [] _ _ _ _ rounds_said (fun _ h => by cases h) (by kernel_rfl) (fun _ h => by cases h) fractionRounds_row_tie rfl ⟨rfl, rfl⟩ (by kernel_rfl) rfl rounds_plain (by kernel_rfl)
end Go.Proofs.YtoeknkakdoemfaaGreatDoor
