/- Arguments opened: a natural, a slice of ints. -/
import Derived.Test.YtjmiaodjapclbaaDoorFLaid
import Derived.Test.YtjmiaodjapclbaaDoorCSet
import Derived.Deep.Slices
import Derived.ChangeSlices
import Derived.Carry
namespace Go.Proofs.YtjmiaodjapclbaaDoor
open Go Go.ChangeShapes Go.WideShapes Go.ChangeAt Go.RowKit

theorem laidOut : laidOutB Tryd.prog = true := by kernel_rfl
theorem cellsNat : Tryd.prog.cellsOf 25 = 1 := by kernel_rfl
theorem cellsSl : Tryd.prog.cellsOf 23 = 1 := by kernel_rfl
theorem cellsU32 : Tryd.prog.cellsOf 58 = 1 := by kernel_rfl

theorem spot_none {w : World} {a : Addr} {u : Value} (h : w.cell? a = some u) : a = ⟨a.block, a.off, none⟩ := by
  obtain ⟨b, o, s⟩ := a
  cases s with
  | none => rfl
  | some k =>
    unfold World.cell? at h
    split at h
    · simp at h
    · cases h

theorem open_nat {H : Type} {enc : TypeId × Value → H} {W : World} {base : Nat} {v : Value} {d : DataW H} {p : List MemPlace} (hv : Value.okWide Tryd.prog W .any base 25 v)
    (h : DataW.Trod enc Tryd.prog W 0 (fun _ => true) true 25 v d p) :
    ∃ (A : Option Addr) (n c : Nat) (xs : List Nat), v = .agg #[.slice A n c] ∧ RL W .u32 A n xs ∧ n ≤ c ∧ c ≤ maxLen ∧ ∀ x ∈ xs, x < 4294967296 := by
  obtain ⟨cs, rfl, hsz⟩ := okWide_struct Tryd.underlying25 hv
  obtain ⟨fuel, hf⟩ := h
  obtain ⟨y0, m, hx, hl, h0⟩ := trod_struct1 Tryd.underlying25 hf
  rw [cellsNat] at hsz
  obtain ⟨c0, rfl⟩ : ∃ c0, cs = #[c0] := Array.size_eq_one_iff.1 hsz
  simp only [Value.cells, List.drop_zero, cellsSl, List.take_succ_cons, List.take_zero] at h0
  rcases open_ints Tryd.underlying23 Tryd.underlying58 cellsU32 h0 with ⟨hc, _⟩ | ⟨a, len, cap, zs, hc, _, hlc, hcm, hzl, _, hcell, hwf⟩
  · injection hc with hc _
    subst hc
    exact ⟨none, 0, 0, [], rfl, RL.nil_, Nat.le_refl _, by simp [maxLen], by simp⟩
  · injection hc with hc _
    subst hc
    simp only [if_true] at hzl
    have hb : ∀ j (hj : j < zs.length), 0 ≤ zs[j] ∧ zs[j] ≤ 4294967295 := by
      intro j hj
      have := hwf zs[j] (List.getElem_mem hj)
      simp [Lit.wf, IntKind.min, IntKind.max, IntKind.signed, IntKind.bits] at this
      omega
    refine ⟨some a, len, cap, (zs.take len).map Int.toNat, rfl, ⟨by simp; omega, fun hpos => ?_⟩, hlc, hcm, ?_⟩
    · have h00 := hcell 0 (by omega)
      have ea : a = ⟨a.block, a.off, none⟩ := spot_none (w := W) (a := a) (by simpa [Addr.add] using h00)
      refine ⟨a.block, a.off, by rw [← ea], fun j x hxj => ?_⟩
      rw [List.getElem?_map, Option.map_eq_some_iff] at hxj
      obtain ⟨z, hz, rfl⟩ := hxj
      have hj : j < len := by
        have := (List.getElem?_eq_some_iff.1 hz).1
        simp at this
        omega
      have hcj := hcell j (by omega)
      have hzj : zs[j]? = some z := by
        rw [List.getElem?_take_of_lt hj] at hz; exact hz
      obtain ⟨hj2, e⟩ := List.getElem?_eq_some_iff.1 hzj
      have hnn := (hb j hj2).1
      rw [e] at hnn
      have ej : a.add j = ⟨a.block, a.off + j, none⟩ := by
        rw [ea]
        unfold Addr.add
        split
        · rename_i h; subst h; rfl
        · rfl
      rw [← ej, hcj, List.getD, hzj]
      show some (Value.int .u32 z) = some (Value.int .u32 ((z.toNat : Nat) : Int))
      rw [Int.toNat_of_nonneg hnn]
    · intro x hxm
      rw [List.mem_map] at hxm
      obtain ⟨z, hz, rfl⟩ := hxm
      obtain ⟨j, hj, e⟩ := List.getElem_of_mem (List.mem_of_mem_take hz)
      have := hb j hj
      rw [e] at this
      omega
theorem cellsI64 : Tryd.prog.cellsOf 3 = 1 := by kernel_rfl
theorem open_il {H : Type} {enc : TypeId × Value → H} {W : World} {base : Nat} {v : Value} {d : DataW H} {p : List MemPlace} (hv : Value.okWide Tryd.prog W .any base 32 v)
    (h : DataW.Trod enc Tryd.prog W 0 (fun _ => true) true 32 v d p) : ∃ (A : Option Addr) (n c : Nat) (xs : List Int), v = .slice A n c ∧ IL W A n xs ∧ n ≤ c ∧ c ≤ maxLen := by
  obtain ⟨A, len, cap, rfl⟩ := okWide_slice Tryd.underlying32 hv
  obtain ⟨fuel, hf⟩ := h
  rcases open_ints Tryd.underlying32 Tryd.underlying3 cellsI64 hf with ⟨hc, _⟩ | ⟨a, len', cap', zs, hc, _, hlc, hcm, hzl, _, hcell, -⟩
  · simp [Value.cells] at hc
    obtain ⟨rfl, rfl, rfl⟩ := hc
    exact ⟨none, 0, 0, [], rfl, IL.nil_, Nat.le_refl _, by simp [maxLen]⟩
  · simp [Value.cells] at hc
    obtain ⟨rfl, rfl, rfl⟩ := hc
    simp only [if_true] at hzl
    refine ⟨some a, len, cap, zs.take len, rfl, ⟨by simp; omega, fun hpos => ?_⟩, hlc, hcm⟩
    have h00 := hcell 0 (by omega)
    have ea : a = ⟨a.block, a.off, none⟩ := spot_none (w := W) (a := a) (by simpa [Addr.add] using h00)
    refine ⟨a.block, a.off, by rw [← ea], fun j x hxj => ?_⟩
    have hj : j < len := by
      have := (List.getElem?_eq_some_iff.1 hxj).1
      simp at this
      omega
    have hzj : zs[j]? = some x := by
      rw [List.getElem?_take_of_lt hj] at hxj; exact hxj
    have ej : a.add j = ⟨a.block, a.off + j, none⟩ := by
      rw [ea]
      unfold Addr.add
      split
      · rename_i h; subst h; rfl
      · rfl
    rw [← ej, hcell j (by omega), List.getD, hzj]
    rfl
end Go.Proofs.YtjmiaodjapclbaaDoor
