/- Splitting a text, and the numbers of its groups: the mathematics. -/
import Derived.Test.YtdoknlodnpeeoaaDoorLRPar
namespace Go.Proofs.YtdoknlodnpeeoaaDoor
open Go Go.RowKit Go.Lib

/-- a comma and a space -/
def sepL : List UInt8 := [44, 32]
theorem index_room : ∀ (l : List UInt8) (k : Nat), Lib.index l sepL = (k : Int) → k + 2 ≤ l.length ∧ l = l.take k ++ 44 :: 32 :: l.drop (k + 2)
  | [], k, h => by
    have : Lib.index [] sepL = -1 := rfl
    rw [this] at h; omega
  | b :: l, k, h => by
    unfold Lib.index at h
    split at h
    · rename_i hp
      obtain rfl : k = 0 := by omega
      obtain ⟨t, ht⟩ := List.isPrefixOf_iff_prefix.1 hp
      rw [← ht]
      exact ⟨by simp [sepL], rfl⟩
    · split at h
      · omega
      · rename_i h1
        have hge := Lib.index_ge l sepL
        have hne : Lib.index l sepL ≠ -1 := by simpa using h1
        obtain ⟨j, rfl⟩ : ∃ j, k = j + 1 := ⟨k - 1, by omega⟩
        obtain ⟨i1, i2⟩ := index_room l j (by omega)
        refine ⟨by simp only [List.length_cons]; omega, ?_⟩
        rw [List.take_succ_cons, show j + 1 + 2 = (j + 2) + 1 by omega, List.drop_succ_cons, List.cons_append, ← i2]
/-- the pieces between the separators -/
def splitF : Nat → List UInt8 → List (List UInt8)
  | 0, l => [l]
  | f + 1, l => if Lib.index l sepL < 0 then [l] else l.take (Lib.index l sepL).toNat :: splitF f (l.drop ((Lib.index l sepL).toNat + 2))
def splitL (l : List UInt8) : List (List UInt8) := splitF l.length l
theorem splitF_no {f : Nat} {l : List UInt8} (h : Lib.index l sepL < 0) : splitF f l = [l] := by
  cases f with
  | zero => rfl
  | succ f => unfold splitF; rw [if_pos h]
theorem splitF_yes {f k : Nat} {l : List UInt8} (h : Lib.index l sepL = (k : Int)) : splitF (f + 1) l = l.take k :: splitF f (l.drop (k + 2)) := by
  conv => lhs; unfold splitF
  rw [if_neg (by omega), h, Int.toNat_natCast]
theorem splitF_fuel : ∀ (f g : Nat) (l : List UInt8), l.length ≤ f → l.length ≤ g → splitF f l = splitF g l
  | 0, g, l, h, _ => by
    obtain rfl : l = [] := List.eq_nil_of_length_eq_zero (by omega)
    rw [splitF_no (f := g) (l := []) (by decide)]; rfl
  | f + 1, 0, l, _, h => by
    obtain rfl : l = [] := List.eq_nil_of_length_eq_zero (by omega)
    rw [splitF_no (f := f + 1) (l := []) (by decide)]; rfl
  | f + 1, g + 1, l, h1, h2 => by
    by_cases h : Lib.index l sepL < 0
    · rw [splitF_no h, splitF_no h]
    · obtain ⟨k, hk⟩ : ∃ k : Nat, Lib.index l sepL = (k : Int) := ⟨(Lib.index l sepL).toNat, by omega⟩
      obtain ⟨r1, _⟩ := index_room l k hk
      rw [splitF_yes hk, splitF_yes hk, splitF_fuel f g _ (by rw [List.length_drop]; omega) (by rw [List.length_drop]; omega)]
theorem splitL_no {l : List UInt8} (h : Lib.index l sepL < 0) : splitL l = [l] := splitF_no h
theorem splitL_yes {k : Nat} {l : List UInt8} (h : Lib.index l sepL = (k : Int)) : splitL l = l.take k :: splitL (l.drop (k + 2)) := by
  obtain ⟨r1, _⟩ := index_room l k h
  unfold splitL
  obtain ⟨m, hm⟩ : ∃ m, l.length = m + 1 := ⟨l.length - 1, by omega⟩
  rw [hm, splitF_yes h]
  congr 1
  exact splitF_fuel _ _ _ (by rw [List.length_drop]; omega) (by omega)
/-- the first and the last number of a group -/
def endsL (x : List UInt8) : Option (Int × Int) := match endL (Lib.cut x [45]).1 with
  | none => none
  | some a => match endL (if (Lib.cut x [45]).2.2 = true then (Lib.cut x [45]).2.1 else (Lib.cut x [45]).1) with
    | none => none
    | some b => some (a, b)
/-- the numbers from a to b -/
def uptoL (a : Nat) : Nat → List Nat
  | 0 => []
  | k + 1 => uptoL a k ++ [a + k]
/-- one group more -/
def gstep (st : List Nat × Nat) (x : List UInt8) : Option (List Nat × Nat) := match endsL x with
  | none => none
  | some (a, b) => if (st.2 : Int) ≤ a ∧ a ≤ b ∧ b ≤ 999 then some (st.1 ++ uptoL a.toNat (b.toNat + 1 - a.toNat), b.toNat + 1) else none
def gfold : Option (List Nat × Nat) → List (List UInt8) → Option (List Nat × Nat)
  | st, [] => st
  | none, _ :: _ => none
  | some st, x :: l => gfold (gstep st x) l
theorem gfold_none : ∀ l, gfold none l = none
  | [] => rfl
  | _ :: _ => rfl
theorem gfold_app : ∀ (l m : List (List UInt8)) (st), gfold st (l ++ m) = gfold (gfold st l) m
  | [], _, _ => rfl
  | x :: l, m, none => by rw [gfold_none, gfold_none, gfold_none]
  | x :: l, m, some st => by
    rw [List.cons_append]
    show gfold (gstep st x) (l ++ m) = gfold (gfold (gstep st x) l) m
    exact gfold_app l m _
theorem gfold_snoc (l : List (List UInt8)) (x : List UInt8) (st st') (h : gfold st l = some st') : gfold st (l ++ [x]) = gstep st' x := by
  rw [gfold_app, h]
  show gfold (gstep st' x) [] = _
  cases gstep st' x <;> rfl
/-- all numbers of a text's groups, one by one -/
def numsL (l : List UInt8) : Option (List Nat) := if l = [] then some [] else (gfold (some ([], 1)) (splitL l)).map (·.1)
end Go.Proofs.YtdoknlodnpeeoaaDoor
