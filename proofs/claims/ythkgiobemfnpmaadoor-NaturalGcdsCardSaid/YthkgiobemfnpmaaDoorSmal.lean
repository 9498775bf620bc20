/- The contract of internal/strconv.small. -/
import Derived.Test.YthkgiobemfnpmaaDoorNumD
import Derived.Test.YthkgiobemfnpmaaDoorFmtA
import Derived.Lib.AppendStr
namespace Go.Proofs.YthkgiobemfnpmaaDoor
open Go Go.RowKit

/-- the decimal form of a number, as bytes -/
def asc (x : Nat) : List Nat := dec (Lib.nDigits x) x
def SD : ByteArray := ⟨#[48, 49, 50, 51, 52, 53, 54, 55, 56, 57, 97, 98, 99, 100, 101, 102, 103, 104, 105, 106, 107, 108, 109, 110, 111, 112, 113, 114, 115, 116, 117, 118, 119, 120, 121, 122]⟩
theorem sd_get : ∀ x < 10, (SD.extract x (x + 1)).data.toList.map UInt8.toNat = [48 + x] := by decide +kernel
theorem sm_get2 : ∀ x < 100, (SM.extract (x * 2) (x * 2 + 2)).data.toList.map UInt8.toNat = [48 + x / 10, 48 + x % 10] := by decide +kernel
theorem str_of {s : ByteArray} {l : List Nat} (h : s.data.toList.map UInt8.toNat = l) : Lib.strCells s = cells .u8 l ∧ s.size = l.length := by
  subst h
  refine ⟨by simp [Lib.strCells, cells], ?_⟩
  rw [List.length_map, Array.length_toList]; rfl

set_option maxRecDepth 100000 in
theorem smallS_any (x : Nat) (w : World) (h : x < 100) : Calls Tryd.prog 67 #[.int .i64 (x : Int)] w fun e w' => (∃ s, e = .returned (.string s) ∧ Lib.strCells s = cells .u8 (asc x) ∧ s.size = (asc x).length ∧ (asc x).length ≤ 2) ∧ w' = w := by
  by_cases h1 : x < 10
  · have e : asc x = [48 + x] := by
      rw [asc, Lib.nDigits_small h1]
      show [48 + x / 1 % 10] = _
      rw [Nat.div_one, Nat.mod_eq_of_lt h1]
    obtain ⟨a1, a2⟩ := str_of (sd_get x h1)
    rw [← e] at a1 a2
    have hl : (asc x).length ≤ 2 := by rw [e]; simp
    have A1 := hide a1
    have A2 := hide a2
    have A3 := hide hl
    clear e a1 a2 hl
    go_enter Tryd.func67, Tryd.ntmps67
    go_wp2
    go_ret
    exact ⟨⟨SD.extract x (x + 1), rfl, A1.out, A2.out, A3.out⟩, rfl⟩
  · have e : asc x = [48 + x / 10, 48 + x % 10] := by
      rw [asc, Lib.nDigits_unique 1 x (by omega) (by omega)]
      show [48 + x / 10 % 10, 48 + x / 1 % 10] = _
      rw [Nat.div_one, Nat.mod_eq_of_lt (by omega : x / 10 < 10)]
    obtain ⟨a1, a2⟩ := str_of (sm_get2 x h)
    rw [← e] at a1 a2
    have hl : (asc x).length ≤ 2 := by rw [e]; simp
    have A1 := hide a1
    have A2 := hide a2
    have A3 := hide hl
    clear e a1 a2 hl
    go_enter Tryd.func67, Tryd.ntmps67
    go_wp2
    go_ret
    exact ⟨⟨SM.extract (x * 2) (x * 2 + 2), rfl, A1.out, A2.out, A3.out⟩, rfl⟩
end Go.Proofs.YthkgiobemfnpmaaDoor
