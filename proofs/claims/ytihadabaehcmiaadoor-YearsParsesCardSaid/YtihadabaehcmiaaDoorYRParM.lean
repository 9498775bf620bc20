/- The mathematics for the reference's Parse of years. -/
import Derived.Test.YtihadabaehcmiaaDoorYRPars
import Derived.Test.YtihadabaehcmiaaDoorYLaw
import Derived.WalkSpells
namespace Go.Proofs.YtihadabaehcmiaaDoor
open Go Go.RowKit Go.Lib

theorem digF5_len : ∀ (f acc : Nat) (l : List UInt8), (digF5 f acc l).2.length ≤ l.length
  | 0, _, l => Nat.le_refl _
  | _ + 1, _, [] => Nat.le_refl _
  | f + 1, acc, c :: r => by
    simp only [digF5]
    split
    · have := digF5_len f (10 * acc + (c.toNat - 48)) r
      simp only [List.length_cons]
      omega
    · exact Nat.le_refl _
/-- the candidates -/
def cd (a : Int) (i : Nat) : Int := if i = 0 then a else 1 - a
theorem cd_box {a : Int} {i : Nat} (h : i < 2) : (#[Value.int .i64 a, Value.int .i64 (1 - a)] : Array Value)[i]? = some (.int .i64 (cd a i)) := by
  rcases i with _ | _ | i
  · rfl
  · rfl
  · omega
theorem cd_bd {a : Int} {i : Nat} (h0 : 0 ≤ a) (h1 : a < 100000) : -100000 ≤ cd a i ∧ cd a i ≤ 100000 := by
  unfold cd
  split <;> omega
/-- all candidates ahead of (i, k) have failed -/
def Fl (s : ByteArray) (a b : Int) (i k : Nat) : Prop := ∀ i' k' : Nat, (i' < i ∧ k' < 2 ∨ i' = i ∧ k' < k) → okC s (cd a i') (cd b k') = false
theorem Fl.zero (s : ByteArray) (a b : Int) : Fl s a b 0 0 := fun i' k' h => by omega
theorem Fl.next {s : ByteArray} {a b : Int} {i : Nat} (h : Fl s a b i 2) : Fl s a b (i + 1) 0 := fun i' k' h' => h i' k' (by omega)
theorem Fl.step {s : ByteArray} {a b : Int} {i k : Nat} (h : Fl s a b i k) (hk : okC s (cd a i) (cd b k) = false) : Fl s a b i (k + 1) := fun i' k' h' => by
  by_cases e : i' = i ∧ k' = k
  · obtain ⟨rfl, rfl⟩ := e
    exact hk
  · exact h i' k' (by omega)
theorem Fl.none {s : ByteArray} {a b : Int} (ha : (numA s.data.toList : Int) = a) (hb : (numB s.data.toList : Int) = b) (h : Fl s a b 2 0) : prs s.data.toList = (0, 0, 3) :=
  ref_none ha hb (h 0 0 (by omega)) (h 0 1 (by omega)) (h 1 0 (by omega)) (h 1 1 (by omega))
theorem okC_inv {s : ByteArray} {x y : Int} (h : yB x y = false) : okC s x y = false := by unfold okC; rw [h, Bool.false_and]
theorem okC_txt {s : ByteArray} {x y : Int} (h : txt x y ≠ s) : okC s x y = false := by unfold okC; rw [decide_eq_false h, Bool.and_false]
theorem boxD {w W : World} {vs : Array Value} {t : TypeId} (hW : (w.alloc (.cells vs t)).drew = W) : Below w.heap.size w W ∧ Box W w.heap.size vs t := by
  subst hW
  exact ⟨((Below.refl _ _).alloc (Nat.le_refl _) _).drew, Box.new _ _ _⟩
theorem ret_xyz {x y z X Y Z : Int} (h : (x, y, z) = (X, Y, Z)) : Ending.returned (.tuple #[.agg #[.int .i64 X, .int .i64 Y], .int .i64 Z]) = .returned (.tuple #[.agg #[.int .i64 x, .int .i64 y], .int .i64 z]) := by
  injection h with h1 h
  injection h with h2 h3
  rw [h1, h2, h3]
theorem ex_to (m : List UInt8) (k : Nat) : ((strB m).extract 0 k).toList = m.take k := by
  rw [Lib.toList_data, ByteArray.data_extract, Array.toList_extract]
  simp [strB, List.extract_eq_take_drop]
theorem ex_from (m : List UInt8) (k : Nat) : (strB m).extract k (strB m).size = strB (m.drop k) := by
  have h := drop_str (strB m) k
  rw [← h]
  simp [strB]
theorem at_zero (m : List UInt8) (h : 0 < (strB m).size) : m.head? = some ((strB m)[0]) := by
  rcases m with _ | ⟨c, r⟩
  · simp [strB, ByteArray.size] at h
  · rfl
theorem ex_tail (m : List UInt8) : (strB m).extract 1 (strB m).size = strB m.tail := by
  rw [ex_from, List.drop_one]
theorem c0_of {R : ByteArray} {M r : List UInt8} {c : UInt8} (h : R = strB M) (hm : M = c :: r) (hz : 0 < R.size) : R[0] = c := by
  subst h
  subst hm
  rfl
theorem tail_of {R : ByteArray} {M r : List UInt8} {c : UInt8} {Z : Nat} (h : R = strB M) (hm : M = c :: r) (hz : (strB M).size = Z) : (R.extract 1 Z).data.toList = r := by
  subst hz
  subst h
  subst hm
  rw [ex_tail, data_strB]
  rfl
theorem nat_eq45 {c : UInt8} : ((c.toNat : Int) == 45) = true ↔ c = 45 := by
  rw [beq_iff_eq]
  constructor
  · intro h
    exact UInt8.toNat_inj.1 (by show c.toNat = 45; omega)
  · rintro rfl
    rfl
theorem nat_ne45 {c : UInt8} : ((c.toNat : Int) == 45) = false ↔ c ≠ 45 := by
  rw [← Bool.not_eq_true, nat_eq45]
/-- the state after the two numbers -/
theorem numA_of {l : List UInt8} {n : Nat} {m : List UInt8} (h : digF5 5 0 l = (n, m)) : numA l = n := by unfold numA; rw [h]
theorem numB_not {l : List UInt8} {n : Nat} {m : List UInt8} {R : List UInt8} (h : digF5 5 0 l = (n, m)) (hr : restL l = R) (h45 : R.head? ≠ some 45) : numB l = n := by unfold numB; rw [hr, if_neg h45, numA_of h]
theorem numB_hy {l : List UInt8} {R : List UInt8} (hr : restL l = R) (h45 : R.head? = some 45) {n' : Nat} {m' : List UInt8} (h' : digF5 5 0 R.tail = (n', m')) : numB l = n' := by unfold numB; rw [hr, if_pos h45, h']
theorem rest_S {l : List UInt8} {n : Nat} {m : List UInt8} (h : digF5 5 0 l = (n, m)) (hl : m.take 3 ≠ bcL) (h2 : m.take 3 ≠ adL) : restL l = m := by
  unfold restL
  rw [h, if_neg]
  rintro (e | e)
  · exact hl e
  · exact h2 e
theorem rest_B {l : List UInt8} {n : Nat} {m : List UInt8} (h : digF5 5 0 l = (n, m)) (hl : m.take 3 = bcL ∨ m.take 3 = adL) : restL l = m.drop 3 := by
  unfold restL
  rw [h, if_pos hl]
end Go.Proofs.YtihadabaehcmiaaDoor
