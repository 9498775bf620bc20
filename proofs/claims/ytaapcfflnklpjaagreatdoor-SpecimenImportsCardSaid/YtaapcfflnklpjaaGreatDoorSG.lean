/- Slices of specimens, and the library's functions on them. -/
import Derived.Test.YtaapcfflnklpjaaGreatDoorSB
import Derived.Test.YtaapcfflnklpjaaGreatDoorShelf
import Derived.Test.YtaapcfflnklpjaaGreatDoorShelf9
import Derived.Sort.OwnSortedInts
import Derived.Laws.AppendOwn
import Derived.Laws.MakeOwn
import Derived.IntWalk
namespace Go.Proofs.YtaapcfflnklpjaaGreatDoor
open Go Go.RowKit Go.Lib
def encS (x : Spc) : List Value := [.int .i64 x.i, .int .i64 x.o, .int .i64 x.r, .int .i64 x.a, .int .i64 x.b, .int .i64 x.h, .int .i64 x.m]
def flatS (ys : List Spc) : List Value := ys.flatMap encS
theorem flatS_nil : flatS [] = [] := rfl
theorem flatS_cons (y : Spc) (ys : List Spc) : flatS (y :: ys) = encS y ++ flatS ys := rfl
theorem flatS_app (xs ys : List Spc) : flatS (xs ++ ys) = flatS xs ++ flatS ys := List.flatMap_append
theorem encS_len (y : Spc) : (encS y).length = 7 := rfl
theorem flatS_len (ys : List Spc) : (flatS ys).length = ys.length * 7 := by
  induction ys with
  | nil => rfl
  | cons y ys ih => rw [flatS_cons, List.length_append, ih, encS_len, List.length_cons]; omega
theorem flatS_get : ∀ (ys : List Spc) (j i : Nat) (y : Spc), ys[j]? = some y → i < 7 → (flatS ys)[j * 7 + i]? = (encS y)[i]?
  | [], j, i, y, h, _ => by simp at h
  | x :: xs, 0, i, y, h, hi => by
    simp at h
    subst h
    rw [flatS_cons, List.getElem?_append_left (by rw [encS_len]; omega)]
    congr 1
    omega
  | x :: xs, j + 1, i, y, h, hi => by
    have := flatS_get xs j i y (by simpa using h) hi
    rw [flatS_cons, List.getElem?_append_right (by rw [encS_len]; omega), encS_len, ← this]
    congr 1
    omega
theorem flatS_one (ys : List Spc) : ∀ u ∈ flatS ys, u.oneCell' = true := by
  intro u hu
  unfold flatS at hu
  rw [List.mem_flatMap] at hu
  obtain ⟨y, _, hy⟩ := hu
  simp [encS] at hy
  rcases hy with rfl | rfl | rfl | rfl | rfl | rfl | rfl <;> rfl
theorem encS_one (y : Spc) : ∀ u ∈ encS y, u.oneCell' = true := fun u hu => by
  simp [encS] at hu
  rcases hu with rfl | rfl | rfl | rfl | rfl | rfl | rfl <;> rfl

/-- a slice value of n specimens that reads as ys -/
def SL (w : World) (A : Option Addr) (n : Nat) (ys : List Spc) : Prop :=
  ys.length = n ∧ (0 < n → ∃ b o, A = some ⟨b, o, none⟩ ∧ b < w.heap.size ∧ ∀ j u, (flatS ys)[j]? = some u → w.cell? ⟨b, o + j, none⟩ = some u)
theorem SL.keep {w w' : World} {A : Option Addr} {n : Nat} {ys : List Spc} (h : SL w A n ys) (hb : Below w.heap.size w w') : SL w' A n ys :=
  ⟨h.1, fun hn => by
    obtain ⟨b, o, e, hl, hc⟩ := h.2 hn
    exact ⟨b, o, e, Nat.lt_of_lt_of_le hl hb.size, fun j u hu => (hb.cell (p := ⟨b, o + j, none⟩) hl).trans (hc j u hu)⟩⟩
theorem SL.nil_ (w : World) (A : Option Addr) : SL w A 0 [] := ⟨rfl, fun h => absurd h (by decide)⟩
theorem SL.zero_ {w : World} {A : Option Addr} {ys : List Spc} (h : SL w A 0 ys) : ys = [] := List.length_eq_zero_iff.1 h.1
/-- the cells of the specimen y at an address -/
def CellsS (w : World) (b o : Nat) (y : Spc) : Prop := w.cell? ⟨b, o, none⟩ = some (.int .i64 y.i) ∧ w.cell? ⟨b, o + 1, none⟩ = some (.int .i64 y.o) ∧ w.cell? ⟨b, o + 2, none⟩ = some (.int .i64 y.r) ∧ w.cell? ⟨b, o + 3, none⟩ = some (.int .i64 y.a) ∧ w.cell? ⟨b, o + 4, none⟩ = some (.int .i64 y.b) ∧ w.cell? ⟨b, o + 5, none⟩ = some (.int .i64 y.h) ∧ w.cell? ⟨b, o + 6, none⟩ = some (.int .i64 y.m)
theorem SL.at_ {w : World} {A : Option Addr} {n : Nat} {ys : List Spc} (h : SL w A n ys) {j : Nat} (hj : j < n) : ∃ b o y, A = some ⟨b, o, none⟩ ∧ b < w.heap.size ∧ ys[j]? = some y ∧ CellsS w b (o + j * 7) y := by
  obtain ⟨b, o, e, hl, hc⟩ := h.2 (by omega)
  have hj' : j < ys.length := by rw [h.1]; exact hj
  have hx : ys[j]? = some ys[j] := List.getElem?_eq_getElem hj'
  have g : ∀ i u, i < 7 → (encS ys[j])[i]? = some u → w.cell? ⟨b, o + j * 7 + i, none⟩ = some u := fun i u hi hu => by
    rw [Nat.add_assoc]
    exact hc _ _ ((flatS_get ys j i _ hx hi).trans hu)
  exact ⟨b, o, _, e, hl, hx, g 0 _ (by decide) rfl, g 1 _ (by decide) rfl, g 2 _ (by decide) rfl, g 3 _ (by decide) rfl, g 4 _ (by decide) rfl, g 5 _ (by decide) rfl, g 6 _ (by decide) rfl⟩
theorem SL.base {w : World} {A : Option Addr} {n : Nat} {ys : List Spc} (h : SL w A n ys) (hn : 0 < n) : ∃ b o, A = some ⟨b, o, none⟩ ∧ b < w.heap.size := by
  obtain ⟨b, o, e, hl, _⟩ := h.2 hn
  exact ⟨b, o, e, hl⟩
theorem SL.cells_ {w : World} {b o n : Nat} {ys : List Spc} (h : SL w (some ⟨b, o, none⟩) n ys) {j : Nat} {y : Spc} (hy : ys[j]? = some y) : CellsS w b (o + j * 7) y := by
  have hj : j < n := by rw [← h.1]; exact (List.getElem?_eq_some_iff.1 hy).1
  obtain ⟨b', o', y', e, _, hy', hc⟩ := h.at_ hj
  injection e with e
  injection e with e1 e2
  subst e1; subst e2
  rw [hy] at hy'
  injection hy' with hy'
  subst hy'
  exact hc
theorem SL.hc {w : World} {b o n : Nat} {zs : List Spc} (h : SL w (some ⟨b, o, none⟩) n zs) : ∀ j, j < zs.length → ∀ i v, (encS zs[j]!)[i]? = some v → w.cell? ⟨b, o + j * 7 + i, none⟩ = some v := fun j hj i v hv => by
  have hx : zs[j]? = some zs[j]! := by rw [getElem!_pos zs j hj]; exact List.getElem?_eq_getElem hj
  have hn : 0 < n := by rw [← h.1]; omega
  have hi : i < 7 := by
    have := (List.getElem?_eq_some_iff.1 hv).1
    rwa [encS_len] at this
  obtain ⟨b', o', e, _, hc⟩ := h.2 hn
  injection e with e
  injection e with e1 e2
  subst e1; subst e2
  rw [Nat.add_assoc]
  exact hc _ _ ((flatS_get zs j i _ hx hi).trans hv)

set_option maxHeartbeats 1000000 in
theorem inv_any (x : Spc) (w : World) (v : Bool) (hv : vS x = v) :
    Calls Tryz.prog 96 #[.agg #[.int .i64 x.i, .int .i64 x.o, .int .i64 x.r, .int .i64 x.a, .int .i64 x.b, .int .i64 x.h, .int .i64 x.m]] w fun e w' => e = .returned (.bool (!v)) ∧ Below w.heap.size w w' := by
  have HV := hide hv
  clear hv
  go_enter Tryz.func96, Tryz.ntmps96
  go_wp2_with fail
  refine (valid9_any x _ v HV.out).mono ?_
  rintro e w1 ⟨rfl, hb⟩
  go_wp2
  go_ret
  exact ⟨rfl, nxt ((Below.refl _ _).alloc (Nat.le_refl _) _) hb⟩
theorem inv_pred (w : World) : PredBelow Tryz.prog 96 #[] (fun x => .agg (encS x).toArray) (fun y => !vS y) w := fun W x hb =>
  (inv_any x W _ rfl).mono fun _ _ ⟨he, hb'⟩ => ⟨he, hb.trans (hb'.mono hb.size)⟩
theorem inv_enters : ∀ args w, (callFunc 96 args).run Tryz.prog w = .ok (.enter 96 args) w := enters_of Tryz.func96 (by kernel_rfl) rfl
/-- some of them is not valid -/
def badS (ys : List Spc) : Bool := ys.any fun y => !vS y
theorem cont_pos (A : Option Addr) (n c : Nat) (ys : List Spc) (w : World) (hr : SL w A n ys) (hn : 0 < n) (hm : n ≤ maxLen) :
    Calls Tryz.prog 95 #[.slice A n c, .func (.func 96) #[] #[]] w fun e w' => e = .returned (.bool (badS ys)) ∧ Below w.heap.size w w' := by
  obtain ⟨b, o, rfl, hl⟩ := hr.base hn
  have hcon := AnyQ.slices_ContainsFunc Tryz.contS 7 Tryz.isAgg23 Tryz.sizeOf23 encS (fun _ => rfl) (fun y => !vS y) 96 #[] inv_enters b o n c ys w (inv_pred w) (by rw [hr.1]; exact Nat.le_refl _) (by unfold maxLen at hm; omega) hl hr.hc
  refine Calls.mono hcon ?_
  rintro e w' ⟨rfl, hb⟩
  refine ⟨?_, hb⟩
  rw [List.take_of_length_le (by rw [hr.1]; exact Nat.le_refl _)]
  rfl
set_option maxHeartbeats 1000000 in
theorem cont_zero (A : Option Addr) (c : Nat) (w : World) :
    Calls Tryz.prog 95 #[.slice A 0 c, .func (.func 96) #[] #[]] w fun e w' => e = .returned (.bool false) ∧ w = w' := by
  have h : Calls Tryz.prog 59 #[.slice A 0 c, .func (.func 96) #[] #[]] w fun e w' => e = .returned (.int .i64 (-1)) ∧ w = w' := by
    go_enter Tryz.func59, Tryz.ntmps59
    go_wp2_with fail
    refine wp_loop_rounds 1 ?_
    rw [rounds_succ]
    go_wp2_with fail
    go_ret
    exact ⟨rfl, rfl⟩
  have H := hide h
  clear h
  go_enter Tryz.func95, Tryz.ntmps95
  go_wp2_with fail
  refine H.out.mono ?_
  rintro e w' ⟨rfl, rfl⟩
  go_wp2
  go_ret
  exact ⟨rfl, rfl⟩
theorem cont_any (A : Option Addr) (n c : Nat) (ys : List Spc) (w : World) (hr : SL w A n ys) (hm : n ≤ maxLen) (v : Bool) (hv : badS ys = v) :
    Calls Tryz.prog 95 #[.slice A n c, .func (.func 96) #[] #[]] w fun e w' => e = .returned (.bool v) ∧ Below w.heap.size w w' := by
  subst hv
  rcases Nat.eq_zero_or_pos n with h | h
  · subst h
    rw [hr.zero_]
    exact (cont_zero A c w).mono fun _ _ ⟨h1, h2⟩ => ⟨h1, h2 ▸ Below.refl _ _⟩
  · exact cont_pos A n c ys w hr h hm
set_option maxHeartbeats 1000000 in
theorem allv_any (A : Option Addr) (n c : Nat) (ys : List Spc) (w : World) (hr : SL w A n ys) (hm : n ≤ maxLen) (v : Bool) (hv : badS ys = v) :
    Calls Tryz.prog 57 #[.slice A n c] w fun e w' => e = .returned (.bool (!v)) ∧ Below w.heap.size w w' := by
  have HV := hide hv
  have HR := hide hr
  clear hv hr
  go_enter Tryz.func57, Tryz.ntmps57
  go_wp2_with fail
  refine (cont_any A n c ys _ HR.out hm v HV.out).mono ?_
  rintro e w1 ⟨rfl, hb⟩
  go_wp2_with fail
  go_ret
  exact ⟨rfl, hb⟩
set_option maxHeartbeats 1000000 in
theorem fp_any (x : Spc) (b : Nat) (k : Int) (w : World) (hb : w.cell? ⟨b, 0, none⟩ = some (.int .i64 k)) (hl : b < w.heap.size) :
    Calls Tryz.prog 60 #[.agg #[.int .i64 x.i, .int .i64 x.o, .int .i64 x.r, .int .i64 x.a, .int .i64 x.b, .int .i64 x.h, .int .i64 x.m], .pointer (some ⟨b, 0, none⟩)] w fun e w' => e = .returned (.bool (decide (x.i = k))) ∧ Below w.heap.size w w' := by
  have hc : (w.alloc (.cells #[.int .i64 x.i, .int .i64 x.o, .int .i64 x.r, .int .i64 x.a, .int .i64 x.b, .int .i64 x.h, .int .i64 x.m] 23)).cell? ⟨b, 0, none⟩ = some (.int .i64 k) := by
    rw [← hb]
    exact ((Below.refl _ w).alloc (Nat.le_refl _) _).cell (p := ⟨b, 0, none⟩) hl
  by_cases h : x.i = k
  · have e0 : (x.i == k) = true := beq_iff_eq.2 h
    have HD := hide (show decide (x.i = k) = true from decide_eq_true h)
    clear h hb
    go_enter Tryz.func60, Tryz.ntmps60
    go_wp2_with fail
    go_ret
    exact ⟨by rw [HD.out]; rfl, ((Below.refl _ _).alloc (Nat.le_refl _) _)⟩
  · have e0 : (x.i == k) = false := beq_eq_false_iff_ne.2 h
    have HD := hide (show decide (x.i = k) = false from decide_eq_false h)
    clear h hb
    go_enter Tryz.func60, Tryz.ntmps60
    go_wp2_with fail
    go_ret
    exact ⟨by rw [HD.out]; rfl, ((Below.refl _ _).alloc (Nat.le_refl _) _)⟩
theorem fp_pred (b : Nat) (k : Int) (w : World) (hb : w.cell? ⟨b, 0, none⟩ = some (.int .i64 k)) (hl : b < w.heap.size) : PredBelow Tryz.prog 60 #[.pointer (some ⟨b, 0, none⟩)] (fun x => .agg (encS x).toArray) (fun y => decide (y.i = k)) w := fun W x h =>
  (fp_any x b k W ((h.cell (p := ⟨b, 0, none⟩) hl).trans hb) (Nat.lt_of_lt_of_le hl h.size)).mono fun _ _ ⟨he, hb'⟩ => ⟨he, h.trans (hb'.mono h.size)⟩
theorem fp_enters : ∀ args w, (callFunc 60 args).run Tryz.prog w = .ok (.enter 60 args) w := enters_of Tryz.func60 (by kernel_rfl) rfl
/-- where the first with the Id is -/
def idxS (l : List Spc) (k : Int) : Int := Lib.idxBy (fun _ y => decide (y.i = k)) l default
theorem idx_any (A : Option Addr) (n c : Nat) (ys : List Spc) (w : World) (hr : SL w A n ys) (hm : n ≤ maxLen) (b : Nat) (k : Int) (hb : w.cell? ⟨b, 0, none⟩ = some (.int .i64 k)) (hl : b < w.heap.size) (r : Int) (hrr : idxS ys k = r) :
    Calls Tryz.prog 59 #[.slice A n c, .func (.func 60) #[] #[.pointer (some ⟨b, 0, none⟩)]] w fun e w' => e = .returned (.int .i64 r) ∧ Below w.heap.size w w' := by
  subst hrr
  rcases Nat.eq_zero_or_pos n with h | h
  · subst h
    rw [hr.zero_]
    clear hr hb hl
    go_enter Tryz.func59, Tryz.ntmps59
    go_wp2_with fail
    refine wp_loop_rounds 1 ?_
    rw [rounds_succ]
    go_wp2_with fail
    go_ret
    exact ⟨rfl, Below.refl _ _⟩
  · obtain ⟨b', o, rfl, hl'⟩ := hr.base h
    have hcon := AnyQ.slices_IndexFunc Tryz.idxS 7 Tryz.isAgg23 Tryz.sizeOf23 encS (fun _ => rfl) (fun y => decide (y.i = k)) 60 #[.pointer (some ⟨b, 0, none⟩)] fp_enters b' o n c ys w (fp_pred b k w hb hl) (by rw [hr.1]; exact Nat.le_refl _) (by unfold maxLen at hm; omega) hl' hr.hc
    refine Calls.mono hcon ?_
    rintro e w' ⟨rfl, hb⟩
    refine ⟨?_, hb⟩
    rw [List.take_of_length_le (by rw [hr.1]; exact Nat.le_refl _)]
    rfl
end Go.Proofs.YtaapcfflnklpjaaGreatDoor
