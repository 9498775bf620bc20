/- FractionTexts returns true for every two fractions, canonical or not, of naturals of any length, whatever the world that holds the three laid tables; the arguments read as before. Conditions: the row's own list of laid variables, tied to the program's text. -/
import Derived.Test.YtgfdeihfinlfoaaGreatDoorZTexts
import Derived.Test.YtgfdeihfinlfoaaGreatDoorFOpen
import Derived.Test.YtgfdeihfinlfoaaGreatDoorZWof
import Derived.Test.YtgfdeihfinlfoaaGreatDoorCards
import Derived.Test.YtgfdeihfinlfoaaGreatDoorTie
namespace Go.Proofs.YtgfdeihfinlfoaaGreatDoor
open Go Go.ChangeShapes Go.WideShapes Go.ChangeAt Go.RowKit

theorem ztexts_call (qa : Bool) (Aa : Option Addr) (na ca : Nat) (xa : List Nat) (Ba : Option Addr) (ma da : Nat) (ya : List Nat) (qb : Bool) (Ab : Option Addr) (nb cb : Nat) (xb : List Nat) (Bb : Option Addr) (mb db : Nat) (yb : List Nat) (w : World) (hT : Zw w) (ra : RL w .u32 Aa na xa) (hna : na ≤ ca) (hca : ca ≤ maxLen) (hxa : ∀ x ∈ xa, x < 4294967296) (sa : RL w .u32 Ba ma ya) (hma : ma ≤ da) (hda : da ≤ maxLen) (hya : ∀ x ∈ ya, x < 4294967296) (rb : RL w .u32 Ab nb xb) (hnb : nb ≤ cb) (hcb : cb ≤ maxLen) (hxb : ∀ x ∈ xb, x < 4294967296) (sb : RL w .u32 Bb mb yb) (hmb : mb ≤ db) (hdb : db ≤ maxLen) (hyb : ∀ x ∈ yb, x < 4294967296) :
    Calls Tryz.prog 3 #[.agg #[.bool qa, .slice Aa na ca, .slice Ba ma da], .agg #[.bool qb, .slice Ab nb cb, .slice Bb mb db]] w fun e w' => e = .returned (.bool true) ∧ Below w.heap.size w w' := by
  by_cases h : (na ≤ 6 ∧ ma ≤ 6) ∧ nb ≤ 6 ∧ mb ≤ 6
  · have ha : Fr w 6 qa Aa na ca Ba ma da (qv qa (val B9 xa) (val B9 ya)) := (frac_fr ra hna hca hxa sa hma hda hya 6 h.1.1 h.1.2)
    have hb : Fr w 6 qb Ab nb cb Bb mb db (qv qb (val B9 xb) (val B9 yb)) := (frac_fr rb hnb hcb hxb sb hmb hdb hyb 6 h.2.1 h.2.2)
    generalize qv qa (val B9 xa) (val B9 ya) = x at ha
    generalize qv qb (val B9 xb) (val B9 yb) = y at hb
    by_cases e : x = y
    · exact ztexts_eq (hide awake2) qa Aa na ca Ba ma da qb Ab nb cb Bb mb db x y w ha hb hT _ rfl (by rw [e]) ((cs_zero x y).2 e) h
    · exact ztexts_ne (hide awake2) qa Aa na ca Ba ma da qb Ab nb cb Bb mb db x y w ha hb hT _ rfl _ rfl (fun h => e (text_inj h)) _ rfl (by rw [beq_eq_false_iff_ne]; exact fun h => e ((cs_zero x y).1 h)) h
  · exact ztexts_no (hide awake2) qa Aa na ca Ba ma da qb Ab nb cb Bb mb db w hT h

def ztextsArgs : Array Value := #[.agg #[.bool false, .slice none 0 0, .slice none 0 0], .agg #[.bool false, .slice none 0 0, .slice none 0 0]]
set_option maxRecDepth 100000 in
theorem ztexts_met (os : Os) : laidMet Tryz.prog three ((laidWorld os).forCall (fun _ _ => 0) ⟨#[], ztextsArgs, []⟩).memory :=
  laidMet_of_run' 8 (by kernel_rfl) (by kernel_rfl)
theorem ztexts_reads (os : Os) {H : Type} (enc : TypeId × Value → H) : ∃ places, DataW.whole enc Tryz.prog ((laidWorld os).forCall (fun _ _ => 0) ⟨#[], ztextsArgs, []⟩).memory Tryz.f3.params.toList Rows.fractionTextsSpec.vars false ztextsArgs.toList 8 = some ([.agg [.lit (.bool false), .agg [.nil], .agg [.nil]], .agg [.lit (.bool false), .agg [.nil], .agg [.nil]]], [], places) :=
  ⟨[], by kernel_rfl⟩

set_option maxRecDepth 100000 in
theorem ztexts_lifted (os : Os) (started : os.Started) (H : Type) (enc : TypeId × Value → H) (F : Stop.Interp) :
    ReturnsInHanded {} Tryz.checked os 3 .any ((OpenSpec.ofChange Rows.fractionTextsSpec).preRow enc Tryz.prog Tryz.f3 Rows.fractionTextsRow.domain false Rows.fractionTextsRow.laid) (((OpenSpec.ofChange Rows.fractionTextsSpec).at F).post enc Tryz.prog Tryz.f3 false true false false) := by
  obtain ⟨places, hx⟩ := ztexts_reads os enc
  refine returnsInHanded_of_row (C := Tryz.checked) (s := OpenSpec.ofChange Rows.fractionTextsSpec) own started (by kernel_rfl) Tryz.func3
    (witness_row_at (enc := enc) (C := Tryz.checked) false (laidWorld os) ztextsArgs rfl (by kernel_rfl) (by kernel_rfl) (by kernel_rfl)
      (OpenSpec.preRow_of_cond 8 hx (by kernel_rfl) (fun k hk => by cases hk) (by kernel_rfl) (ztexts_met os))) ?_
  intro W base args ds gs before hval0 hW _ _ _ hL hS _
  have hval : ∀ (j : Nat) t v, Tryz.f3.params[j]? = some t → args[j]? = some v → Value.okWide Tryz.prog W .any base t v := hval0
  have hW' := hW
  obtain ⟨p, q, hA0, hV, rfl, hfz, hnd⟩ := hW
  have hA : DataW.TrodAll enc Tryz.prog W 0 (fun _ => true) true Tryz.f3.params.toList args.toList ds p := hA0
  rw [Tryz.params3] at hA hval
  obtain ⟨v0, vs0, d0, ds0, p0, q0, hargs, rfl, rfl, h0, r0⟩ := trodAll_cons hA
  obtain ⟨v1, vs1, d1, ds1, p1, q1, rfl, rfl, rfl, h1, r1⟩ := trodAll_cons r0
  obtain ⟨rfl, rfl, rfl⟩ := trodAll_nil r1
  obtain rfl : args = #[v0, v1] := by cases args; simp_all
  obtain ⟨rfl, rfl⟩ := trodVars_none hV
  obtain ⟨qF0, A0, n0, c0, x0, B0, m0, e0, y0, rfl, rF0, iF0, jF0, kF0, sF0, tF0, uF0, vF0⟩ := open_frac (hval 0 26 v0 rfl rfl) h0
  obtain ⟨qF1, A1, n1, c1, x1, B1, m1, e1, y1, rfl, rF1, iF1, jF1, kF1, sF1, tF1, uF1, vF1⟩ := open_frac (hval 1 26 v1 rfl rfl) h1
  clear hA0 hval0
  simp only [List.append_nil] at hW'
  have l0 : ∀ x ∈ p0, x.block < W.heap.size := fun x hx => by simpa using hW'.lt x (by simp [hx])
  have l1 : ∀ x ∈ p1, x.block < W.heap.size := fun x hx => by simpa using hW'.lt x (by simp [hx])
  refine (ztexts_call qF0 A0 n0 c0 x0 B0 m0 e0 y0 qF1 A1 n1 c1 x1 B1 m1 e1 y1 W (zw_of hL hS) rF0 iF0 jF0 kF0 sF0 tF0 uF0 vF0 rF1 iF1 jF1 kF1 sF1 tF1 uF1 vF1).mono fun e W' ⟨he, hb⟩ => ?_
  subst he
  exact ⟨_, rfl, _, _, _, [], _, [], hW', trodAll_cons_mk (shut_bool Tryz.underlying4 _) trodAll_mk0, (trodAll_cons_mk (Below.trod laidOut (by kernel_rfl) (of_decide_eq_true (by kernel_rfl)) h0 hb l0) (trodAll_cons_mk (Below.trod laidOut (by kernel_rfl) (of_decide_eq_true (by kernel_rfl)) h1 hb l1) trodAll_mk0)), rfl, hb.frame _, fun h => by cases h⟩

theorem ztexts_said : Rows.FractionTextsSaid :=
  OpenClaim.holds_of_cond 3 Tryz.f3 rfl rfl rfl rfl rfl rfl rfl ⟨rfl, rfl, rfl, rfl, rfl⟩ rfl rfl rfl rfl rfl (by kernel_rfl) Tryz.func3 (by kernel_rfl)
    (of_decide_eq_true (by kernel_rfl)) (by unfold Func.isWrapper; first | (rw [if_pos (by decide +kernel)]; kernel_rfl) | (rw [if_neg (by decide +kernel)]; exact ⟨rfl, rfl⟩))
    (fun os started H enc _ F => by rw [OpenClaim.pre_eq_preRow]; exact ztexts_lifted os started H enc F)

theorem ztexts_plain (f : FuncId) (fn : Func) (hf : Tryz.pinned.checked.prog.funcNamed "coinage/coinagelaw02.FractionTexts" = some f) (hfn : Tryz.pinned.checked.prog.funcs[f]? = some fn) :
    false = Tryz.pinned.checked.prog.looks [] ∧ ∀ (j : Nat) t, fn.params[j]? = some t → Tryz.pinned.checked.prog.wantsStandIn t = false := by
  obtain rfl : f = 3 := Option.some.inj ((show Tryz.prog.funcNamed "coinage/coinagelaw02.FractionTexts" = some 3 by kernel_rfl).symm.trans hf) |>.symm
  obtain rfl : fn = Tryz.f3 := (Option.some.inj (Tryz.func3.symm.trans hfn)).symm
  refine ⟨by kernel_rfl, fun j t ht => ?_⟩
  rw [Tryz.params3] at ht
  obtain rfl : t = 26 := by simpa using Array.mem_of_getElem? ht
  exact (show Tryz.prog.wantsStandIn 26 = false by kernel_rfl)

theorem ztexts_card : Rows.FractionTextsCardSaid :=
  Claim7.holds_tied_plain_at .later [] _ _ _ _ ztexts_said (fun _ h => by cases h) (by kernel_rfl) (fun _ h => by cases h) fractionTexts_row_tie rfl ⟨rfl, rfl⟩ (by kernel_rfl) rfl ztexts_plain (by kernel_rfl)
end Go.Proofs.YtgfdeihfinlfoaaGreatDoor
