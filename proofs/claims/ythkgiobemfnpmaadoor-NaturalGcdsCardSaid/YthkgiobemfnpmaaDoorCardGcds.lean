/- NaturalGcds returns true for every two naturals, canonical or not, of any length, whatever the world that holds the three laid tables; the arguments read as before. Conditions: the row's own list of laid variables, tied to the program's text. -/
import Derived.Test.YthkgiobemfnpmaaDoorGcds
import Derived.Test.YthkgiobemfnpmaaDoorLaid
import Derived.Test.YthkgiobemfnpmaaDoorOpen
import Derived.Test.YthkgiobemfnpmaaDoorCards
import Derived.Test.YthkgiobemfnpmaaDoorTie
namespace Go.Proofs.YthkgiobemfnpmaaDoor
open Go Go.ChangeShapes Go.WideShapes Go.ChangeAt Go.RowKit

theorem gcds_call (A : Option Addr) (n c : Nat) (xs : List Nat) (A' : Option Addr) (m d : Nat) (ys : List Nat) (w : World)
    (hr : RL w .u32 A n xs) (hn : n ≤ c) (hc : c ≤ maxLen) (hx : ∀ x ∈ xs, x < 4294967296) (hr' : RL w .u32 A' m ys) (hm : m ≤ d) (hd : d ≤ maxLen) (hy : ∀ x ∈ ys, x < 4294967296) (hT : Tab w) :
    Calls Tryd.prog 9 #[.agg #[.slice A n c], .agg #[.slice A' m d]] w fun e w' => e = .returned (.bool true) ∧ Below w.heap.size w w' := by
  rcases Nat.lt_or_ge 4 n with h | h
  · exact gcds_no_n A n c A' m d w hT h
  rcases Nat.lt_or_ge 4 m with h' | h'
  · exact gcds_no_m A n c A' m d w hT h h'
  by_cases h0 : Nat.gcd (val B9 xs) (val B9 ys) = 0
  · exact gcdsZ A n c xs A' m d ys w hr hn hc hx hr' hm hd hy hT h h' (Nat.eq_zero_of_gcd_eq_zero_left h0) (Nat.eq_zero_of_gcd_eq_zero_right h0)
  · exact gcdsN A n c xs A' m d ys w hr hn hc hx hr' hm hd hy hT h h' h0

def gcdsArgs : Array Value := #[.agg #[.slice none 0 0], .agg #[.slice none 0 0]]
set_option maxRecDepth 100000 in
theorem gcds_met (os : Os) : laidMet Tryd.prog three ((laidWorld os).forCall (fun _ _ => 0) ⟨#[], gcdsArgs, []⟩).memory :=
  laidMet_of_run' 8 (by kernel_rfl) (by kernel_rfl)
theorem gcds_reads (os : Os) {H : Type} (enc : TypeId × Value → H) : ∃ places, DataW.whole enc Tryd.prog ((laidWorld os).forCall (fun _ _ => 0) ⟨#[], gcdsArgs, []⟩).memory Tryd.f9.params.toList Rows.naturalGcdsSpec.vars false gcdsArgs.toList 8 = some ([.agg [.nil], .agg [.nil]], [], places) :=
  ⟨[], by kernel_rfl⟩

set_option maxRecDepth 100000 in
theorem gcds_lifted (os : Os) (started : os.Started) (H : Type) (enc : TypeId × Value → H) (F : Stop.Interp) :
    ReturnsInHanded {} Tryd.checked os 9 .any ((OpenSpec.ofChange Rows.naturalGcdsSpec).preRow enc Tryd.prog Tryd.f9 Rows.naturalGcdsRow.domain false Rows.naturalGcdsRow.laid) (((OpenSpec.ofChange Rows.naturalGcdsSpec).at F).post enc Tryd.prog Tryd.f9 false true false false) := by
  obtain ⟨places, hx⟩ := gcds_reads os enc
  refine returnsInHanded_of_row (C := Tryd.checked) (s := OpenSpec.ofChange Rows.naturalGcdsSpec) own started (by kernel_rfl) Tryd.func9
    (witness_row_at (enc := enc) (C := Tryd.checked) false (laidWorld os) gcdsArgs rfl (by kernel_rfl) (by kernel_rfl) (by kernel_rfl)
      (OpenSpec.preRow_of_cond 8 hx (by kernel_rfl) (fun k hk => by cases hk) (by kernel_rfl) (gcds_met os))) ?_
  intro W base args ds gs before hval0 hW _ _ _ hL _ _
  have hval : ∀ (j : Nat) t v, Tryd.f9.params[j]? = some t → args[j]? = some v → Value.okWide Tryd.prog W .any base t v := hval0
  have hW' := hW
  obtain ⟨p, q, hA0, hV, rfl, hfz, hnd⟩ := hW
  have hA : DataW.TrodAll enc Tryd.prog W 0 (fun _ => true) true Tryd.f9.params.toList args.toList ds p := hA0
  rw [Tryd.params9] at hA hval
  obtain ⟨v0, vs0, d0, ds0, p0, q0, hargs, rfl, rfl, h0, r0⟩ := trodAll_cons hA
  obtain ⟨v1, vs1, d1, ds1, p1, q1, rfl, rfl, rfl, h1, r1⟩ := trodAll_cons r0
  obtain ⟨rfl, rfl, rfl⟩ := trodAll_nil r1
  obtain rfl : args = #[v0, v1] := by cases args; simp_all
  obtain ⟨rfl, rfl⟩ := trodVars_none hV
  obtain ⟨A0, n0, c0, xs, rfl, hr0, hn0, hc0, hx0⟩ := open_nat (hval 0 24 v0 rfl rfl) h0
  obtain ⟨A1, n1, c1, ys, rfl, hr1, hn1, hc1, hx1⟩ := open_nat (hval 1 24 v1 rfl rfl) h1
  clear hA0 hval0
  simp only [List.append_nil] at hW'
  have l0 : ∀ x ∈ p0, x.block < W.heap.size := fun x hx => by simpa using hW'.lt x (by simp [hx])
  have l1 : ∀ x ∈ p1, x.block < W.heap.size := fun x hx => by simpa using hW'.lt x (by simp [hx])
  refine (gcds_call A0 n0 c0 xs A1 n1 c1 ys W hr0 hn0 hc0 hx0 hr1 hn1 hc1 hx1 (tab_of hL)).mono fun e W' ⟨he, hb⟩ => ?_
  subst he
  exact ⟨_, rfl, _, _, _, [], _, [], hW', trodAll_cons_mk (shut_bool Tryd.underlying4 _) trodAll_mk0, trodAll_cons_mk (Below.trod laidOut (by kernel_rfl) (of_decide_eq_true (by kernel_rfl)) h0 hb l0) (trodAll_cons_mk (Below.trod laidOut (by kernel_rfl) (of_decide_eq_true (by kernel_rfl)) h1 hb l1) trodAll_mk0), rfl, hb.frame _, fun h => by cases h⟩

theorem gcds_said : Rows.NaturalGcdsSaid :=
  OpenClaim.holds_of_cond 9 Tryd.f9 rfl rfl rfl rfl rfl rfl rfl ⟨rfl, rfl, rfl, rfl, rfl⟩ rfl rfl rfl rfl rfl (by kernel_rfl) Tryd.func9 (by kernel_rfl)
    (of_decide_eq_true (by kernel_rfl)) (by unfold Func.isWrapper; first | (rw [if_pos (by decide +kernel)]; kernel_rfl) | (rw [if_neg (by decide +kernel)]; exact ⟨rfl, rfl⟩))
    (fun os started H enc _ F => by rw [OpenClaim.pre_eq_preRow]; exact gcds_lifted os started H enc F)

theorem gcds_plain (f : FuncId) (fn : Func) (hf : Tryd.pinned.checked.prog.funcNamed "coinage/coinagelaw01.NaturalGcds" = some f) (hfn : Tryd.pinned.checked.prog.funcs[f]? = some fn) :
    false = Tryd.pinned.checked.prog.looks [] ∧ ∀ (j : Nat) t, fn.params[j]? = some t → Tryd.pinned.checked.prog.wantsStandIn t = false := by
  obtain rfl : f = 9 := Option.some.inj ((show Tryd.prog.funcNamed "coinage/coinagelaw01.NaturalGcds" = some 9 by kernel_rfl).symm.trans hf) |>.symm
  obtain rfl : fn = Tryd.f9 := (Option.some.inj (Tryd.func9.symm.trans hfn)).symm
  refine ⟨by kernel_rfl, fun j t ht => ?_⟩
  rw [Tryd.params9] at ht
  obtain rfl : t = 24 := by simpa using Array.mem_of_getElem? ht
  exact (show Tryd.prog.wantsStandIn 24 = false by kernel_rfl)

theorem gcds_card : Rows.NaturalGcdsCardSaid :=
  Claim7.holds_tied_plain_at .later [] _ _ _ _ gcds_said (fun _ h => by cases h) (by kernel_rfl) (fun _ h => by cases h) naturalGcds_row_tie rfl ⟨rfl, rfl⟩ (by kernel_rfl) rfl gcds_plain (by kernel_rfl)
end Go.Proofs.YthkgiobemfnpmaaDoor
