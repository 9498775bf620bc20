/- Words for the laws of fractions' texts. -/
import Derived.Test.YtgfdeihfinlfoaaGreatDoorField
import Derived.Test.YtgfdeihfinlfoaaGreatDoorZB
import Derived.Test.YtgfdeihfinlfoaaGreatDoorFAwake
namespace Go.Proofs.YtgfdeihfinlfoaaGreatDoor
open Go Go.RowKit

theorem few1 {w W : World} {t : TypeId} {p1 : Bool} {A1 B1 : Option Addr} {n1 c1 m1 d1 : Nat} (hW : w.alloc (.cells #[.bool p1, .slice A1 n1 c1, .slice B1 m1 d1] t) = W) :
    Below w.heap.size w W ∧ FewL W (some ⟨w.heap.size, 0, none⟩) 1 (fun _ => n1) (fun _ => m1) := by
  obtain ⟨h1, h2, -⟩ := boxesA1 hW
  refine ⟨h1, fun _ => ⟨_, _, rfl, fun i hi => ?_⟩⟩
  obtain rfl : i = 0 := by omega
  exact ⟨A1, c1, B1, d1, h2.at_ 1, h2.at_ 2⟩
theorem isFew1 {n1 m1 : Nat} : isFew 1 (fun _ => n1) (fun _ => m1) ↔ n1 ≤ 6 ∧ m1 ≤ 6 :=
  ⟨fun h => h.1 0 (by omega), fun h => ⟨fun _ _ => h, by omega⟩⟩
theorem few2 {w W : World} {t : TypeId} {p1 p2 : Bool} {A1 B1 A2 B2 : Option Addr} {n1 c1 m1 d1 n2 c2 m2 d2 : Nat} (hW : w.alloc (.cells #[.bool p1, .slice A1 n1 c1, .slice B1 m1 d1, .bool p2, .slice A2 n2 c2, .slice B2 m2 d2] t) = W) :
    Below w.heap.size w W ∧ FewL W (some ⟨w.heap.size, 0, none⟩) 2 (fun i => if i = 0 then n1 else n2) (fun i => if i = 0 then m1 else m2) := by
  obtain ⟨h1, h2, -⟩ := boxesA1 hW
  refine ⟨h1, fun _ => ⟨_, _, rfl, fun i hi => ?_⟩⟩
  have h0 : i = 0 ∨ i = 1 := by omega
  rcases h0 with rfl | rfl
  · exact ⟨A1, c1, B1, d1, h2.at_ 1, h2.at_ 2⟩
  · exact ⟨A2, c2, B2, d2, h2.at_ 4, h2.at_ 5⟩
theorem isFew2 {n1 m1 n2 m2 : Nat} : isFew 2 (fun i => if i = 0 then n1 else n2) (fun i => if i = 0 then m1 else m2) ↔ (n1 ≤ 6 ∧ m1 ≤ 6) ∧ n2 ≤ 6 ∧ m2 ≤ 6 := by
  constructor
  · intro h
    exact ⟨h.1 0 (by omega), h.1 1 (by omega)⟩
  · intro h
    refine ⟨fun i hi => ?_, by omega⟩
    have h0 : i = 0 ∨ i = 1 := by omega
    rcases h0 with rfl | rfl
    · exact h.1
    · exact h.2
theorem cn_nil {w : World} : Cn w none 0 0 0 := ⟨RL.nil_, by omega, by simp [maxLen]⟩
theorem base_zero (w : World) : Calls Tryz.prog 13 #[.agg #[.bool false, .slice none 0 0, .slice none 0 0], .agg #[.bool false, .slice none 0 0, .slice none 0 0]] w fun e w' => e = .returned (.bool true) ∧ Below w.heap.size w w' :=
  fbase_same false none 0 0 0 none 0 0 0 none 0 0 none 0 0 w cn_nil cn_nil cn_nil cn_nil (by omega) (by omega)
theorem str_ne {S t : ByteArray} (h : S ≠ t) : (S.toList == t.toList) = false := by
  rw [beq_eq_false_iff_ne]
  intro e
  rw [Lib.toList_data, Lib.toList_data] at e
  exact h (ba_eq e)
theorem text_size {x : Rat} {L : Nat} (h : Ht x L) (hL : L ≤ 200) : (qtext x).size ≤ 4000 := by
  have e := qtext_list x
  have z : ∀ u, u < B9 ^ L → (BN (asc u)).length ≤ 9 * L + 1 := fun u hu => by
    have h1 : (BN (asc u)).length = (asc u).length := by simp [BN]
    rw [h1, asc_len]
    by_cases h0 : u = 0
    · subst h0
      rw [← asc_len, asc_small (by decide)]
      simp
    · obtain ⟨n, h2, h3, h4⟩ := asc_pow h0
      rw [← asc_len, h4, dec_length]
      rw [pow_B9] at hu
      rcases Nat.lt_or_ge n (9 * L) with h5 | h5
      · omega
      · have := Nat.pow_le_pow_right (show 0 < 10 by decide) h5
        omega
  have z1 := z _ h.1
  have z2 := z _ h.2
  rw [size_list, e, List.length_append, List.length_append]
  have z3 : (if decide (x.num < 0) = true then [45] else [] : List UInt8).length ≤ 1 := by split <;> simp
  have z4 : (if x.den = 1 then [] else 47 :: BN (asc x.den) : List UInt8).length ≤ 9 * L + 2 := by
    split
    · simp
    · simp only [List.length_cons]; omega
  omega
end Go.Proofs.YtgfdeihfinlfoaaGreatDoor
