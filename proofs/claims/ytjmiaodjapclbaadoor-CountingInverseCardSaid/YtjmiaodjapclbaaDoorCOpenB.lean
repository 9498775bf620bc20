/- A slice of bytes as an argument, opened. -/
import Derived.Test.YtjmiaodjapclbaaDoorCOpen
namespace Go.Proofs.YtjmiaodjapclbaaDoor
open Go Go.ChangeShapes Go.WideShapes Go.ChangeAt Go.RowKit

theorem cellsU8 : Tryd.prog.cellsOf 5 = 1 := by kernel_rfl
theorem open_bl {H : Type} {enc : TypeId × Value → H} {W : World} {base : Nat} {v : Value} {d : DataW H} {p : List MemPlace} (hv : Value.okWide Tryd.prog W .any base 46 v)
    (h : DataW.Trod enc Tryd.prog W 0 (fun _ => true) true 46 v d p) : ∃ (A : Option Addr) (n c : Nat) (xs : List Nat), v = .slice A n c ∧ RL W .u8 A n xs ∧ n ≤ c ∧ c ≤ maxLen := by
  obtain ⟨A, len, cap, rfl⟩ := okWide_slice Tryd.underlying46 hv
  obtain ⟨fuel, hf⟩ := h
  rcases open_ints Tryd.underlying46 Tryd.underlying5 cellsU8 hf with ⟨hc, _⟩ | ⟨a, len', cap', zs, hc, _, hlc, hcm, hzl, _, hcell, hwf⟩
  · simp [Value.cells] at hc
    obtain ⟨rfl, rfl, rfl⟩ := hc
    exact ⟨none, 0, 0, [], rfl, RL.nil_, Nat.le_refl _, by simp [maxLen]⟩
  · simp [Value.cells] at hc
    obtain ⟨rfl, rfl, rfl⟩ := hc
    simp only [if_true] at hzl
    have hb : ∀ j (hj : j < zs.length), 0 ≤ zs[j] ∧ zs[j] ≤ 255 := by
      intro j hj
      have := hwf zs[j] (List.getElem_mem hj)
      simp [Lit.wf, IntKind.min, IntKind.max, IntKind.signed, IntKind.bits] at this
      omega
    refine ⟨some a, len, cap, (zs.take len).map Int.toNat, rfl, ⟨by simp; omega, fun hpos => ?_⟩, hlc, hcm⟩
    · have h00 := hcell 0 (by omega)
      have ea : a = ⟨a.block, a.off, none⟩ := spot_none (w := W) (a := a) (by simpa [Addr.add] using h00)
      refine ⟨a.block, a.off, by rw [← ea], fun j x hxj => ?_⟩
      rw [List.getElem?_map, Option.map_eq_some_iff] at hxj
      obtain ⟨z, hz, rfl⟩ := hxj
      have hj : j < len := by
        have := (List.getElem?_eq_some_iff.1 hz).1
        simp at this
        omega
      have hcj := hcell j (by omega)
      have hzj : zs[j]? = some z := by
        rw [List.getElem?_take_of_lt hj] at hz; exact hz
      obtain ⟨hj2, e⟩ := List.getElem?_eq_some_iff.1 hzj
      have hnn := (hb j hj2).1
      rw [e] at hnn
      have ej : a.add j = ⟨a.block, a.off + j, none⟩ := by
        rw [ea]
        unfold Addr.add
        split
        · rename_i h; subst h; rfl
        · rfl
      rw [← ej, hcj, List.getD, hzj]
      show some (Value.int .u8 z) = some (Value.int .u8 ((z.toNat : Nat) : Int))
      rw [Int.toNat_of_nonneg hnn]
end Go.Proofs.YtjmiaodjapclbaaDoor
