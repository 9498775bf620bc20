/- Arguments opened. -/
import Derived.Test.YtjmpnpflmdpdkaaFByt
import Derived.Test.YtjmpnpflmdpdkaaRows
import Derived.ProofKit
import Derived.Deep.Slices
import Derived.ChangeSlices
import Derived.ChangeArms
import Derived.Carry
import Derived.OpenShut
namespace Go.Proofs.Ytjmpnpflmdpdkaa
open Go Go.ChangeShapes Go.WideShapes Go.ChangeAt Go.RowKit FM

theorem own : ownKnob Try.prog.godebug = none := by kernel_rfl
theorem laidOut : laidOutB Try.prog = true := by kernel_rfl
theorem cellsU8 : Try.prog.cellsOf 5 = 1 := by kernel_rfl
theorem spot_none {w : World} {a : Addr} {u : Value} (h : w.cell? a = some u) : a = ⟨a.block, a.off, none⟩ := by
  obtain ⟨b, o, s⟩ := a
  cases s with
  | none => rfl
  | some k =>
    unfold World.cell? at h
    split at h
    · simp at h
    · cases h
theorem open_bl {H : Type} {enc : TypeId × Value → H} {W : World} {base : Nat} {v : Value} {d : DataW H} {p : List MemPlace} (hv : Value.okWide Try.prog W .any base 31 v)
    (h : DataW.Trod enc Try.prog W 0 (fun _ => true) true 31 v d p) : ∃ (A : Option Addr) (n c : Nat) (xs : List Nat), v = .slice A n c ∧ BR W A n xs ∧ n ≤ c ∧ c ≤ maxLen := by
  obtain ⟨A, len, cap, rfl⟩ := okWide_slice Try.underlying31 hv
  obtain ⟨fuel, hf⟩ := h
  rcases open_ints Try.underlying31 Try.underlying5 cellsU8 hf with ⟨hc, _⟩ | ⟨a, len', cap', zs, hc, _, hlc, hcm, hzl, _, hcell, hwf⟩
  · simp [Value.cells] at hc
    obtain ⟨rfl, rfl, rfl⟩ := hc
    exact ⟨none, 0, 0, [], rfl, BR.nil_, Nat.le_refl _, by simp [maxLen]⟩
  · simp [Value.cells] at hc
    obtain ⟨rfl, rfl, rfl⟩ := hc
    simp only [if_true] at hzl
    have hw : ∀ (j : Nat) (z : Int), zs[j]? = some z → 0 ≤ z ∧ z ≤ 255 := by
      intro j z hj
      have := hwf z (List.mem_of_getElem? hj)
      simp [Lit.wf, IntKind.min, IntKind.max, IntKind.signed, IntKind.bits] at this
      omega
    refine ⟨some a, len, cap, (zs.take len).map Int.toNat, rfl, ⟨⟨by simp; omega, fun hpos => ?_⟩, ?_⟩, hlc, hcm⟩
    · have h00 := hcell 0 (by omega)
      have ea : a = ⟨a.block, a.off, none⟩ := spot_none (w := W) (a := a) (by simpa [Addr.add] using h00)
      refine ⟨a.block, a.off, by rw [← ea], fun j x hxj => ?_⟩
      rw [List.getElem?_map] at hxj
      obtain ⟨z, hz, rfl⟩ := Option.map_eq_some_iff.1 hxj
      have hj : j < len := by
        have := (List.getElem?_eq_some_iff.1 hz).1
        simp at this
        omega
      rw [List.getElem?_take_of_lt hj] at hz
      have ej : a.add j = ⟨a.block, a.off + j, none⟩ := by
        rw [ea]
        unfold Addr.add
        split
        · rename_i h; subst h; rfl
        · rfl
      rw [← ej, hcell j (by omega), List.getD, hz]
      have hb := hw j z hz
      show some (Value.int IntKind.u8 z) = some (Value.int IntKind.u8 (z.toNat : Int))
      rw [Int.toNat_of_nonneg hb.1]
    · intro x hx
      obtain ⟨z, hz, rfl⟩ := List.mem_map.1 hx
      obtain ⟨j, hj⟩ := List.getElem?_of_mem (List.mem_of_mem_take hz)
      have := hw j z hj
      omega
end Go.Proofs.Ytjmpnpflmdpdkaa
