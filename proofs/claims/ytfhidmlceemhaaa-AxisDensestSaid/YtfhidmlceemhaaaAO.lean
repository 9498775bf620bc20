/- Arguments opened: slices of ints, of bytes; ints. -/
import Derived.Test.YtfhidmlceemhaaaIA
import Derived.Test.YtfhidmlceemhaaaB8
import Derived.Test.YtfhidmlceemhaaaRows
import Derived.ProofKit
import Derived.Deep.Slices
import Derived.ChangeSlices
import Derived.ChangeArms
import Derived.Carry
import Derived.OpenShut
namespace Go.Proofs.Ytfhidmlceemhaaa
open Go Go.RowKit Go.Lib
open Go.ChangeShapes Go.WideShapes Go.ChangeAt
theorem own : ownKnob Try.prog.godebug = none := by kernel_rfl
theorem laidOut : laidOutB Try.prog = true := by kernel_rfl
theorem cellsI1 : Try.prog.cellsOf 3 = 1 := by kernel_rfl
theorem cellsB1 : Try.prog.cellsOf 5 = 1 := by kernel_rfl
theorem spot_none {w : World} {a : Addr} {u : Value} (h : w.cell? a = some u) : a = ⟨a.block, a.off, none⟩ := by
  obtain ⟨b, o, s⟩ := a
  cases s with
  | none => rfl
  | some k =>
    unfold World.cell? at h
    split at h
    · simp at h
    · cases h
theorem open_is {H : Type} {enc : TypeId × Value → H} {W : World} {base : Nat} {v : Value} {d : DataW H} {p : List MemPlace} (hv : Value.okWide Try.prog W .any base 25 v)
    (h : DataW.Trod enc Try.prog W 0 (fun _ => true) true 25 v d p) : ∃ (A : Option Addr) (n c : Nat) (xs : List Int), v = .slice A n c ∧ IS W A n xs ∧ n ≤ c ∧ c ≤ maxLen := by
  obtain ⟨A, len, cap, rfl⟩ := okWide_slice Try.underlying25 hv
  obtain ⟨fuel, hf⟩ := h
  rcases open_ints Try.underlying25 Try.underlying3 cellsI1 hf with ⟨hc, _⟩ | ⟨a, len', cap', zs, hc, _, hlc, hcm, hzl, _, hcell, -⟩
  · simp [Value.cells] at hc
    obtain ⟨rfl, rfl, rfl⟩ := hc
    exact ⟨none, 0, 0, [], rfl, IS.nil_ _ _, Nat.le_refl _, by simp [maxLen]⟩
  · simp [Value.cells] at hc
    obtain ⟨rfl, rfl, rfl⟩ := hc
    simp only [if_true] at hzl
    refine ⟨some a, len, cap, zs.take len, rfl, ⟨by simp; omega, fun hpos => ?_⟩, hlc, hcm⟩
    have h00 := hcell 0 (by omega)
    have ea : a = ⟨a.block, a.off, none⟩ := spot_none (w := W) (a := a) (by simpa [Addr.add] using h00)
    have ej : ∀ j, a.add j = ⟨a.block, a.off + j, none⟩ := fun j => by
      rw [ea]
      unfold Addr.add
      split
      · rename_i h; subst h; rfl
      · rfl
    refine ⟨a.block, a.off, by rw [← ea], ?_, fun j x hxj => ?_⟩
    · rw [ej 0] at h00
      exact World.block_lt_of_cell? W ⟨a.block, a.off + 0, none⟩ h00
    have hj : j < len := by
      have := (List.getElem?_eq_some_iff.1 hxj).1
      simp at this
      omega
    have hzj : zs[j]? = some x := by
      rw [List.getElem?_take_of_lt hj] at hxj; exact hxj
    rw [← ej j, hcell j (by omega), List.getD, hzj]
    rfl
theorem open_b8 {H : Type} {enc : TypeId × Value → H} {W : World} {base : Nat} {v : Value} {d : DataW H} {p : List MemPlace} (hv : Value.okWide Try.prog W .any base 37 v)
    (h : DataW.Trod enc Try.prog W 0 (fun _ => true) true 37 v d p) : ∃ (A : Option Addr) (n c : Nat) (xs : List Nat), v = .slice A n c ∧ B8 W A n xs ∧ n ≤ c ∧ c ≤ maxLen := by
  obtain ⟨A, len, cap, rfl⟩ := okWide_slice Try.underlying37 hv
  obtain ⟨fuel, hf⟩ := h
  rcases open_ints Try.underlying37 Try.underlying5 cellsB1 hf with ⟨hc, _⟩ | ⟨a, len', cap', zs, hc, _, hlc, hcm, hzl, _, hcell, hwf⟩
  · simp [Value.cells] at hc
    obtain ⟨rfl, rfl, rfl⟩ := hc
    exact ⟨none, 0, 0, [], rfl, B8.nil_ _ _, Nat.le_refl _, by simp [maxLen]⟩
  · simp [Value.cells] at hc
    obtain ⟨rfl, rfl, rfl⟩ := hc
    simp only [if_true] at hzl
    have hw : ∀ (j : Nat) (z : Int), zs[j]? = some z → 0 ≤ z ∧ z ≤ 255 := by
      intro j z hj
      have := hwf z (List.mem_of_getElem? hj)
      simp [Lit.wf, IntKind.min, IntKind.max, IntKind.signed, IntKind.bits] at this
      omega
    refine ⟨some a, len, cap, (zs.take len).map Int.toNat, rfl, ⟨by simp; omega, fun hpos => ?_, fun x hx => ?_⟩, hlc, hcm⟩
    · have h00 := hcell 0 (by omega)
      have ea : a = ⟨a.block, a.off, none⟩ := spot_none (w := W) (a := a) (by simpa [Addr.add] using h00)
      have ej : ∀ j, a.add j = ⟨a.block, a.off + j, none⟩ := fun j => by
        rw [ea]
        unfold Addr.add
        split
        · rename_i h; subst h; rfl
        · rfl
      refine ⟨a.block, a.off, by rw [← ea], ?_, fun j x hxj => ?_⟩
      · rw [ej 0] at h00
        exact World.block_lt_of_cell? W ⟨a.block, a.off + 0, none⟩ h00
      rw [List.getElem?_map] at hxj
      obtain ⟨z, hz, rfl⟩ := Option.map_eq_some_iff.1 hxj
      have hj : j < len := by
        have := (List.getElem?_eq_some_iff.1 hz).1
        simp at this
        omega
      rw [List.getElem?_take_of_lt hj] at hz
      rw [← ej j, hcell j (by omega), List.getD, hz]
      have hb := hw j z hz
      show some (Value.int IntKind.u8 z) = some (Value.int IntKind.u8 (z.toNat : Int))
      rw [Int.toNat_of_nonneg hb.1]
    · obtain ⟨z, hz, rfl⟩ := List.mem_map.1 hx
      obtain ⟨j, hj⟩ := List.getElem?_of_mem (List.mem_of_mem_take hz)
      have := hw j z hj
      omega
end Go.Proofs.Ytfhidmlceemhaaa
