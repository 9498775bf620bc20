/- NaturalRing returns true for every three naturals, canonical or not, of any length, whatever the world that holds the three laid tables; the arguments read as before. Conditions: the row's own list of laid variables, tied to the program's text. -/
import Derived.Test.YtbndomcgihjohaaDoorRing
import Derived.Test.YtbndomcgihjohaaDoorOpen
import Derived.Test.YtbndomcgihjohaaDoorCards
import Derived.Test.YtbndomcgihjohaaDoorTie
namespace Go.Proofs.YtbndomcgihjohaaDoor
open Go Go.ChangeShapes Go.WideShapes Go.ChangeAt Go.RowKit

theorem ring_call (A : Option Addr) (n c : Nat) (xs : List Nat) (A' : Option Addr) (m d : Nat) (ys : List Nat) (A'' : Option Addr) (l b : Nat) (zs : List Nat) (w : World)
    (hr : RL w .u32 A n xs) (hn : n ≤ c) (hc : c ≤ maxLen) (hx : ∀ x ∈ xs, x < 4294967296) (hr' : RL w .u32 A' m ys) (hm : m ≤ d) (hd : d ≤ maxLen) (hy : ∀ x ∈ ys, x < 4294967296)
    (hr'' : RL w .u32 A'' l zs) (hl : l ≤ b) (hb : b ≤ maxLen) (hz : ∀ x ∈ zs, x < 4294967296) (hT : Tab w) :
    Calls Tryd.prog 8 #[.agg #[.slice A n c], .agg #[.slice A' m d], .agg #[.slice A'' l b]] w fun e w' => e = .returned (.bool true) ∧ Below w.heap.size w w' := by
  by_cases h : n ≤ 12 ∧ m ≤ 12 ∧ l ≤ 12
  · exact ring_any A n c xs A' m d ys A'' l b zs w hr hn hc hx hr' hm hd hy hr'' hl hb hz hT h.1 h.2.1 h.2.2
  · exact ring_no A n c A' m d A'' l b w hT h

def ringArgs : Array Value := #[.agg #[.slice none 0 0], .agg #[.slice none 0 0], .agg #[.slice none 0 0]]
set_option maxRecDepth 100000 in
theorem ring_met (os : Os) : laidMet Tryd.prog three ((laidWorld os).forCall (fun _ _ => 0) ⟨#[], ringArgs, []⟩).memory :=
  laidMet_of_run' 8 (by kernel_rfl) (by kernel_rfl)
theorem ring_reads (os : Os) {H : Type} (enc : TypeId × Value → H) : ∃ places, DataW.whole enc Tryd.prog ((laidWorld os).forCall (fun _ _ => 0) ⟨#[], ringArgs, []⟩).memory Tryd.f8.params.toList Rows.naturalRingSpec.vars false ringArgs.toList 8 = some ([.agg [.nil], .agg [.nil], .agg [.nil]], [], places) :=
  ⟨[], by kernel_rfl⟩

set_option maxRecDepth 100000 in
theorem ring_lifted (os : Os) (started : os.Started) (H : Type) (enc : TypeId × Value → H) (F : Stop.Interp) :
    ReturnsInHanded {} Tryd.checked os 8 .any ((OpenSpec.ofChange Rows.naturalRingSpec).preRow enc Tryd.prog Tryd.f8 Rows.naturalRingRow.domain false Rows.naturalRingRow.laid) (((OpenSpec.ofChange Rows.naturalRingSpec).at F).post enc Tryd.prog Tryd.f8 false true false false) := by
  obtain ⟨places, hx⟩ := ring_reads os enc
  refine returnsInHanded_of_row (C := Tryd.checked) (s := OpenSpec.ofChange Rows.naturalRingSpec) own started (by kernel_rfl) Tryd.func8
    (witness_row_at (enc := enc) (C := Tryd.checked) false (laidWorld os) ringArgs rfl (by kernel_rfl) (by kernel_rfl) (by kernel_rfl)
      (OpenSpec.preRow_of_cond 8 hx (by kernel_rfl) (fun k hk => by cases hk) (by kernel_rfl) (ring_met os))) ?_
  intro W base args ds gs before hval0 hW _ _ _ hL _ _
  have hval : ∀ (j : Nat) t v, Tryd.f8.params[j]? = some t → args[j]? = some v → Value.okWide Tryd.prog W .any base t v := hval0
  have hW' := hW
  obtain ⟨p, q, hA0, hV, rfl, hfz, hnd⟩ := hW
  have hA : DataW.TrodAll enc Tryd.prog W 0 (fun _ => true) true Tryd.f8.params.toList args.toList ds p := hA0
  rw [Tryd.params8] at hA hval
  obtain ⟨v0, vs0, d0, ds0, p0, q0, hargs, rfl, rfl, h0, r0⟩ := trodAll_cons hA
  obtain ⟨v1, vs1, d1, ds1, p1, q1, rfl, rfl, rfl, h1, r1⟩ := trodAll_cons r0
  obtain ⟨v2, vs2, d2, ds2, p2, q2, rfl, rfl, rfl, h2, r2⟩ := trodAll_cons r1
  obtain ⟨rfl, rfl, rfl⟩ := trodAll_nil r2
  obtain rfl : args = #[v0, v1, v2] := by cases args; simp_all
  obtain ⟨rfl, rfl⟩ := trodVars_none hV
  obtain ⟨A0, n0, c0, xs, rfl, hr0, hn0, hc0, hx0⟩ := open_nat (hval 0 24 v0 rfl rfl) h0
  obtain ⟨A1, n1, c1, ys, rfl, hr1, hn1, hc1, hx1⟩ := open_nat (hval 1 24 v1 rfl rfl) h1
  obtain ⟨A2, n2, c2, zs, rfl, hr2, hn2, hc2, hx2⟩ := open_nat (hval 2 24 v2 rfl rfl) h2
  clear hA0 hval0
  simp only [List.append_nil] at hW'
  have l0 : ∀ x ∈ p0, x.block < W.heap.size := fun x hx => by simpa using hW'.lt x (by simp [hx])
  have l1 : ∀ x ∈ p1, x.block < W.heap.size := fun x hx => by simpa using hW'.lt x (by simp [hx])
  have l2 : ∀ x ∈ p2, x.block < W.heap.size := fun x hx => by simpa using hW'.lt x (by simp [hx])
  refine (ring_call A0 n0 c0 xs A1 n1 c1 ys A2 n2 c2 zs W hr0 hn0 hc0 hx0 hr1 hn1 hc1 hx1 hr2 hn2 hc2 hx2 (tab_of hL)).mono fun e W' ⟨he, hb⟩ => ?_
  subst he
  exact ⟨_, rfl, _, _, _, [], _, [], hW', trodAll_cons_mk (shut_bool Tryd.underlying4 _) trodAll_mk0, trodAll_cons_mk (Below.trod laidOut (by kernel_rfl) (of_decide_eq_true (by kernel_rfl)) h0 hb l0) (trodAll_cons_mk (Below.trod laidOut (by kernel_rfl) (of_decide_eq_true (by kernel_rfl)) h1 hb l1) (trodAll_cons_mk (Below.trod laidOut (by kernel_rfl) (of_decide_eq_true (by kernel_rfl)) h2 hb l2) trodAll_mk0)), rfl, hb.frame _, fun h => by cases h⟩

theorem ring_said : Rows.NaturalRingSaid :=
  OpenClaim.holds_of_cond 8 Tryd.f8 rfl rfl rfl rfl rfl rfl rfl ⟨rfl, rfl, rfl, rfl, rfl⟩ rfl rfl rfl rfl rfl (by kernel_rfl) Tryd.func8 (by kernel_rfl)
    (of_decide_eq_true (by kernel_rfl)) (by unfold Func.isWrapper; first | (rw [if_pos (by decide +kernel)]; kernel_rfl) | (rw [if_neg (by decide +kernel)]; exact ⟨rfl, rfl⟩))
    (fun os started H enc _ F => by rw [OpenClaim.pre_eq_preRow]; exact ring_lifted os started H enc F)

theorem ring_plain (f : FuncId) (fn : Func) (hf : Tryd.pinned.checked.prog.funcNamed "coinage/coinagelaw01.NaturalRing" = some f) (hfn : Tryd.pinned.checked.prog.funcs[f]? = some fn) :
    false = Tryd.pinned.checked.prog.looks [] ∧ ∀ (j : Nat) t, fn.params[j]? = some t → Tryd.pinned.checked.prog.wantsStandIn t = false := by
  obtain rfl : f = 8 := Option.some.inj ((show Tryd.prog.funcNamed "coinage/coinagelaw01.NaturalRing" = some 8 by kernel_rfl).symm.trans hf) |>.symm
  obtain rfl : fn = Tryd.f8 := (Option.some.inj (Tryd.func8.symm.trans hfn)).symm
  refine ⟨by kernel_rfl, fun j t ht => ?_⟩
  rw [Tryd.params8] at ht
  obtain rfl : t = 24 := by simpa using Array.mem_of_getElem? ht
  exact (show Tryd.prog.wantsStandIn 24 = false by kernel_rfl)

theorem ring_card : Rows.NaturalRingCardSaid :=
  Claim7.holds_tied_plain_at .later [] _ _ _ _ ring_said (fun _ h => by cases h) (by kernel_rfl) (fun _ h => by cases h) naturalRing_row_tie rfl ⟨rfl, rfl⟩ (by kernel_rfl) rfl ring_plain (by kernel_rfl)
end Go.Proofs.YtbndomcgihjohaaDoor
