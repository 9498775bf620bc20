/- Slices of years, and the library's functions on them. -/
import Derived.Test.YtihadabaehcmiaaDoorShelf
import Derived.Test.YtihadabaehcmiaaDoorYVal
import Derived.Sort.OwnSortedInts
namespace Go.Proofs.YtihadabaehcmiaaDoor
open Go Go.RowKit Go.Lib

def encY (x : Int × Int) : List Value := [.int .i64 x.1, .int .i64 x.2]
def flatY (ys : List (Int × Int)) : List Value := ys.flatMap encY
theorem flatY_nil : flatY [] = [] := rfl
theorem flatY_cons (y : Int × Int) (ys : List (Int × Int)) : flatY (y :: ys) = .int .i64 y.1 :: .int .i64 y.2 :: flatY ys := rfl
theorem flatY_app (xs ys : List (Int × Int)) : flatY (xs ++ ys) = flatY xs ++ flatY ys := List.flatMap_append
theorem flatY_len (ys : List (Int × Int)) : (flatY ys).length = ys.length * 2 := by
  induction ys with
  | nil => rfl
  | cons y ys ih => rw [flatY_cons]; simp [ih]; omega
theorem flatY_at : ∀ (ys : List (Int × Int)) (j : Nat) (y : Int × Int), ys[j]? = some y → (flatY ys)[j * 2]? = some (.int .i64 y.1) ∧ (flatY ys)[j * 2 + 1]? = some (.int .i64 y.2)
  | [], j, y, h => by simp at h
  | x :: xs, 0, y, h => by
    simp at h
    subst h
    exact ⟨rfl, rfl⟩
  | x :: xs, j + 1, y, h => by
    have := flatY_at xs j y (by simpa using h)
    rw [flatY_cons, show (j + 1) * 2 = j * 2 + 1 + 1 from by omega]
    exact ⟨by simpa using this.1, by simpa using this.2⟩
theorem flatY_one (ys : List (Int × Int)) : ∀ u ∈ flatY ys, u.oneCell' = true := by
  intro u hu
  unfold flatY at hu
  rw [List.mem_flatMap] at hu
  obtain ⟨y, _, hy⟩ := hu
  simp [encY] at hy
  rcases hy with rfl | rfl <;> rfl

/-- a slice value of n years that reads as ys -/
def YL (w : World) (A : Option Addr) (n : Nat) (ys : List (Int × Int)) : Prop :=
  ys.length = n ∧ (0 < n → ∃ b o, A = some ⟨b, o, none⟩ ∧ b < w.heap.size ∧ ∀ j u, (flatY ys)[j]? = some u → w.cell? ⟨b, o + j, none⟩ = some u)
theorem YL.keep {w w' : World} {A : Option Addr} {n : Nat} {ys : List (Int × Int)} (h : YL w A n ys) (hb : Below w.heap.size w w') : YL w' A n ys :=
  ⟨h.1, fun hn => by
    obtain ⟨b, o, e, hl, hc⟩ := h.2 hn
    exact ⟨b, o, e, Nat.lt_of_lt_of_le hl hb.size, fun j u hu => (hb.cell (p := ⟨b, o + j, none⟩) hl).trans (hc j u hu)⟩⟩
theorem YL.at_ {w : World} {A : Option Addr} {n : Nat} {ys : List (Int × Int)} (h : YL w A n ys) {j : Nat} (hj : j < n) : ∃ b o y, A = some ⟨b, o, none⟩ ∧ b < w.heap.size ∧ ys[j]? = some y ∧ w.cell? ⟨b, o + j * 2, none⟩ = some (.int .i64 y.1) ∧ w.cell? ⟨b, o + j * 2 + 1, none⟩ = some (.int .i64 y.2) := by
  obtain ⟨b, o, e, hl, hc⟩ := h.2 (by omega)
  have hj' : j < ys.length := by rw [h.1]; exact hj
  have hx : ys[j]? = some ys[j] := List.getElem?_eq_getElem hj'
  have := flatY_at ys j _ hx
  exact ⟨b, o, _, e, hl, hx, hc _ _ this.1, hc _ _ this.2⟩

set_option maxHeartbeats 1000000 in
theorem isInvalid_any (a b : Int) (w : World) (v : Bool) (hv : yB a b = v) :
    Calls Tryd.prog 44 #[.agg #[.int .i64 a, .int .i64 b]] w fun e w' => e = .returned (.bool (!v)) ∧ Below w.heap.size w w' := by
  have HV := hide hv
  clear hv
  go_enter Tryd.func44, Tryd.ntmps44
  go_wp2_with fail
  refine (valid_any a b _ v HV.out).mono ?_
  rintro e w1 ⟨rfl, hb⟩
  go_wp2
  go_ret
  exact ⟨rfl, ((Below.refl _ _).alloc (Nat.le_refl _) _).trans (hb.mono (by simp))⟩

/-- some of them is not valid -/
def badY (ys : List (Int × Int)) : Bool := ys.any fun y => !yB y.1 y.2
theorem invalid_pred (w : World) : PredBelow Tryd.prog 44 #[] (fun x => .agg (encY x).toArray) (fun y => !yB y.1 y.2) w := fun W x hb =>
  (isInvalid_any x.1 x.2 W _ rfl).mono fun _ _ ⟨he, hb'⟩ => ⟨he, hb.trans (hb'.mono hb.size)⟩
theorem invalid_enters : ∀ args w, (callFunc 44 args).run Tryd.prog w = .ok (.enter 44 args) w := enters_of Tryd.func44 (by kernel_rfl) rfl
theorem contains_any (A : Option Addr) (n c : Nat) (ys : List (Int × Int)) (w : World) (hr : YL w A n ys) (hn : 0 < n) (hm : n ≤ maxLen) :
    Calls Tryd.prog 43 #[.slice A n c, .func (.func 44) #[] #[]] w fun e w' => e = .returned (.bool (badY ys)) ∧ Below w.heap.size w w' := by
  obtain ⟨b, o, rfl, hl, hc⟩ := hr.2 hn
  have hcon := AnyQ.slices_ContainsFunc Tryd.contY 2 Tryd.isAgg23 Tryd.sizeOf23 encY (fun _ => rfl) (fun y => !yB y.1 y.2) 44 #[] invalid_enters b o n c ys w (invalid_pred w) (by rw [hr.1]; exact Nat.le_refl _) (by unfold maxLen at hm; omega) hl (fun j hj i v hi => by
    have hx : ys[j]? = some ys[j]! := by rw [getElem!_pos ys j hj]; exact List.getElem?_eq_getElem hj
    have := flatY_at ys j _ hx
    generalize ys[j]! = y at hi this
    match i, hi with
    | 0, hi => simp [encY] at hi; rw [← hi, Nat.add_zero]; exact hc _ _ this.1
    | 1, hi => simp [encY] at hi; rw [← hi, Nat.add_assoc]; exact hc _ _ this.2
    | i + 2, hi => simp [encY] at hi)
  refine Calls.mono hcon ?_
  rintro e w' ⟨rfl, hb⟩
  refine ⟨?_, hb⟩
  rw [List.take_of_length_le (by rw [hr.1]; exact Nat.le_refl _)]
  rfl
theorem contains_v (A : Option Addr) (n c : Nat) (ys : List (Int × Int)) (w : World) (hr : YL w A n ys) (hn : 0 < n) (hm : n ≤ maxLen) (v : Bool) (hv : badY ys = v) :
    Calls Tryd.prog 43 #[.slice A n c, .func (.func 44) #[] #[]] w fun e w' => e = .returned (.bool v) ∧ Below w.heap.size w w' := by
  subst hv
  exact contains_any A n c ys w hr hn hm
end Go.Proofs.YtihadabaehcmiaaDoor
