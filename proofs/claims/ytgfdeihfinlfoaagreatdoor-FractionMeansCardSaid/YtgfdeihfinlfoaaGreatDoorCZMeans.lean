/- FractionMeans returns true for every slice of fractions, canonical or not, of naturals of any length, whatever the world that holds the three laid tables; the arguments read as before. Conditions: the row's own list of laid variables, tied to the program's text. -/
import Derived.Test.YtgfdeihfinlfoaaGreatDoorZD
import Derived.Test.YtgfdeihfinlfoaaGreatDoorZWof
import Derived.Test.YtgfdeihfinlfoaaGreatDoorCards
import Derived.Test.YtgfdeihfinlfoaaGreatDoorTie
namespace Go.Proofs.YtgfdeihfinlfoaaGreatDoor
open Go Go.ChangeShapes Go.WideShapes Go.ChangeAt Go.RowKit

theorem zmeans_call (S : Option Addr) (k c : Nat) (N M : Nat → Nat) (w : World) (hT : Zw w) (hO : OL w S k N M) (hkc : k ≤ c) (hc : c ≤ maxLen) :
    Calls Tryz.prog 6 #[.slice S k c] w fun e w' => e = .returned (.bool true) ∧ Below w.heap.size w w' := by
  by_cases h : isFew k N M
  · by_cases h0 : k = 0
    · subst h0
      exact zmeans_0 (hide awake2) S c w hT N M hO hc
    · obtain ⟨rs, hL⟩ := hO.fl h.1
      exact zmeans_k (hide awake2) S k c w hT rs N M hO hL h hkc hc h0 _ rfl
  · exact zmeans_no (hide awake2) S k c w hT N M hO (Nat.le_trans hkc hc) h

def zmeansArgs : Array Value := #[.slice none 0 0]
set_option maxRecDepth 100000 in
theorem zmeans_met (os : Os) : laidMet Tryz.prog three ((laidWorld os).forCall (fun _ _ => 0) ⟨#[], zmeansArgs, []⟩).memory :=
  laidMet_of_run' 8 (by kernel_rfl) (by kernel_rfl)
theorem zmeans_reads (os : Os) {H : Type} (enc : TypeId × Value → H) : ∃ places, DataW.whole enc Tryz.prog ((laidWorld os).forCall (fun _ _ => 0) ⟨#[], zmeansArgs, []⟩).memory Tryz.f6.params.toList Rows.fractionMeansSpec.vars false zmeansArgs.toList 8 = some ([.nil], [], places) :=
  ⟨[], by kernel_rfl⟩

set_option maxRecDepth 100000 in
theorem zmeans_lifted (os : Os) (started : os.Started) (H : Type) (enc : TypeId × Value → H) (F : Stop.Interp) :
    ReturnsInHanded {} Tryz.checked os 6 .any ((OpenSpec.ofChange Rows.fractionMeansSpec).preRow enc Tryz.prog Tryz.f6 Rows.fractionMeansRow.domain false Rows.fractionMeansRow.laid) (((OpenSpec.ofChange Rows.fractionMeansSpec).at F).post enc Tryz.prog Tryz.f6 false true false false) := by
  obtain ⟨places, hx⟩ := zmeans_reads os enc
  refine returnsInHanded_of_row (C := Tryz.checked) (s := OpenSpec.ofChange Rows.fractionMeansSpec) own started (by kernel_rfl) Tryz.func6
    (witness_row_at (enc := enc) (C := Tryz.checked) false (laidWorld os) zmeansArgs rfl (by kernel_rfl) (by kernel_rfl) (by kernel_rfl)
      (OpenSpec.preRow_of_cond 8 hx (by kernel_rfl) (fun k hk => by cases hk) (by kernel_rfl) (zmeans_met os))) ?_
  intro W base args ds gs before hval0 hW _ _ _ hL hS _
  have hval : ∀ (j : Nat) t v, Tryz.f6.params[j]? = some t → args[j]? = some v → Value.okWide Tryz.prog W .any base t v := hval0
  have hW' := hW
  obtain ⟨p, q, hA0, hV, rfl, hfz, hnd⟩ := hW
  have hA : DataW.TrodAll enc Tryz.prog W 0 (fun _ => true) true Tryz.f6.params.toList args.toList ds p := hA0
  rw [Tryz.params6] at hA hval
  obtain ⟨v0, vs0, d0, ds0, p0, q0, hargs, rfl, rfl, h0, r0⟩ := trodAll_cons hA
  obtain ⟨rfl, rfl, rfl⟩ := trodAll_nil r0
  obtain rfl : args = #[v0] := by cases args; simp_all
  obtain ⟨rfl, rfl⟩ := trodVars_none hV
  obtain ⟨S0, k0, c0, N0, M0, rfl, rL0, iL0, jL0⟩ := open_fl (hval 0 37 v0 rfl rfl) h0
  clear hA0 hval0
  simp only [List.append_nil] at hW'
  have l0 : ∀ x ∈ p0, x.block < W.heap.size := fun x hx => by simpa using hW'.lt x (by simp [hx])
  refine (zmeans_call S0 k0 c0 N0 M0 W (zw_of hL hS) rL0 iL0 jL0).mono fun e W' ⟨he, hb⟩ => ?_
  subst he
  exact ⟨_, rfl, _, _, _, [], _, [], hW', trodAll_cons_mk (shut_bool Tryz.underlying4 _) trodAll_mk0, (trodAll_cons_mk (Below.trod laidOut (by kernel_rfl) (of_decide_eq_true (by kernel_rfl)) h0 hb l0) trodAll_mk0), rfl, hb.frame _, fun h => by cases h⟩

theorem zmeans_said : Rows.FractionMeansSaid :=
  OpenClaim.holds_of_cond 6 Tryz.f6 rfl rfl rfl rfl rfl rfl rfl ⟨rfl, rfl, rfl, rfl, rfl⟩ rfl rfl rfl rfl rfl (by kernel_rfl) Tryz.func6 (by kernel_rfl)
    (of_decide_eq_true (by kernel_rfl)) (by unfold Func.isWrapper; first | (rw [if_pos (by decide +kernel)]; kernel_rfl) | (rw [if_neg (by decide +kernel)]; exact ⟨rfl, rfl⟩))
    (fun os started H enc _ F => by rw [OpenClaim.pre_eq_preRow]; exact zmeans_lifted os started H enc F)

theorem zmeans_plain (f : FuncId) (fn : Func) (hf : Tryz.pinned.checked.prog.funcNamed "coinage/coinagelaw02.FractionMeans" = some f) (hfn : Tryz.pinned.checked.prog.funcs[f]? = some fn) :
    false = Tryz.pinned.checked.prog.looks [] ∧ ∀ (j : Nat) t, fn.params[j]? = some t → Tryz.pinned.checked.prog.wantsStandIn t = false := by
  obtain rfl : f = 6 := Option.some.inj ((show Tryz.prog.funcNamed "coinage/coinagelaw02.FractionMeans" = some 6 by kernel_rfl).symm.trans hf) |>.symm
  obtain rfl : fn = Tryz.f6 := (Option.some.inj (Tryz.func6.symm.trans hfn)).symm
  refine ⟨by kernel_rfl, fun j t ht => ?_⟩
  rw [Tryz.params6] at ht
  obtain rfl : t = 37 := by simpa using Array.mem_of_getElem? ht
  exact (show Tryz.prog.wantsStandIn 37 = false by kernel_rfl)

theorem zmeans_card : Rows.FractionMeansCardSaid :=
  Claim7.holds_tied_plain_at .later [] _ _ _ _ zmeans_said (fun _ h => by cases h) (by kernel_rfl) (fun _ h => by cases h) fractionMeans_row_tie rfl ⟨rfl, rfl⟩ (by kernel_rfl) rfl zmeans_plain (by kernel_rfl)
end Go.Proofs.YtgfdeihfinlfoaaGreatDoor
