/- Decisions and marks, the mathematics: lists in the order of their marks. -/
import Derived.Test.YtadmiecoahohiaaIA
namespace Go.Proofs.Ytadmiecoahohiaa
open Go Go.RowKit Go.Lib
/-- a mark -/
structure Mk where
  u : Int
  n : Int
deriving DecidableEq, Inhabited
/-- a decision -/
structure Dec where
  u : Int
  n : Int
  k : Int
  a : Int
  b : Int
deriving DecidableEq, Inhabited
def Dec.mk_ (d : Dec) : Mk := ⟨d.u, d.n⟩
def Mk.key (m : Mk) : Int := m.u * 256 + m.n
def Dec.key (d : Dec) : Int := d.u * 256 + d.n
theorem mk_key (d : Dec) : d.mk_.key = d.key := rfl
/-- a mark is valid -/
def vM (m : Mk) : Bool := decide (0 ≤ m.u ∧ m.u ≤ 7 ∧ 1 ≤ m.n ∧ m.n ≤ 200)
theorem vM_true {m : Mk} : vM m = true ↔ (0 ≤ m.u ∧ m.u ≤ 7 ∧ 1 ≤ m.n ∧ m.n ≤ 200) := by unfold vM; exact decide_eq_true_iff
/-- a decision's kind and parts are valid -/
def vK (d : Dec) : Bool := if d.k = 1 ∨ d.k = 2 then decide (1 ≤ d.a ∧ d.a < d.b ∧ d.b ≤ 999) else if d.k = 3 then decide (1 ≤ d.a ∧ d.a ≤ 9999 ∧ 1 ≤ d.b ∧ d.b ≤ 9999 ∧ d.a ≠ d.b) else if d.k = 4 then decide (1 ≤ d.a ∧ d.a < d.b ∧ d.b ≤ 9999) else false
def vD (d : Dec) : Bool := vM d.mk_ && vK d
theorem vD_vM {d : Dec} (h : vD d = true) : vM d.mk_ = true := by unfold vD at h; rw [Bool.and_eq_true] at h; exact h.1
theorem key_inj {m m' : Mk} (h : vM m = true) (h' : vM m' = true) : m.key = m'.key ↔ m = m' := by
  rw [vM_true] at h h'
  constructor
  · intro e
    unfold Mk.key at e
    cases m; cases m'
    simp only at *
    congr 1 <;> omega
  · rintro rfl; rfl
theorem dkey_inj {d d' : Dec} (h : vD d = true) (h' : vD d' = true) : d.key = d'.key ↔ d.mk_ = d'.mk_ := by
  rw [← mk_key, ← mk_key]; exact key_inj (vD_vM h) (vD_vM h')
section
variable {α : Type} (κ : α → Int)
/-- in strict order -/
def Srt (l : List α) : Prop := l.Pairwise fun x y => κ x < κ y
/-- how many are before -/
def cnt (k : Int) (l : List α) : Nat := l.countP fun x => decide (κ x < k)
/-- put in at its place -/
def ins (x : α) (l : List α) : List α := l.take (cnt κ (κ x) l) ++ x :: l.drop (cnt κ (κ x) l)
variable {κ}
theorem Srt.nil : Srt κ [] := List.Pairwise.nil
theorem srt_cons {x : α} {l : List α} : Srt κ (x :: l) ↔ (∀ y ∈ l, κ x < κ y) ∧ Srt κ l := List.pairwise_cons
theorem Srt.inj {l : List α} (h : Srt κ l) {x y : α} (hx : x ∈ l) (hy : y ∈ l) (e : κ x = κ y) : x = y := by
  induction l with
  | nil => cases hx
  | cons z l ih =>
    rw [srt_cons] at h
    rcases List.mem_cons.1 hx with rfl | hx' <;> rcases List.mem_cons.1 hy with rfl | hy'
    · rfl
    · have := h.1 _ hy'; omega
    · have := h.1 _ hx'; omega
    · exact ih h.2 hx' hy'
theorem cnt_le (k : Int) (l : List α) : cnt κ k l ≤ l.length := List.countP_le_length
theorem cnt_zero {k : Int} {l : List α} (h : ∀ y ∈ l, k ≤ κ y) : cnt κ k l = 0 := by
  unfold cnt
  rw [List.countP_eq_zero]
  intro y hy
  have := h y hy
  simpa using this
theorem Srt.at_cnt {l : List α} (h : Srt κ l) (k : Int) : (∀ j x, j < cnt κ k l → l[j]? = some x → κ x < k) ∧ (∀ j x, cnt κ k l ≤ j → l[j]? = some x → k ≤ κ x) := by
  induction l with
  | nil => exact ⟨fun j x _ e => by simp at e, fun j x _ e => by simp at e⟩
  | cons z l ih =>
    rw [srt_cons] at h
    by_cases hz : κ z < k
    · have e : cnt κ k (z :: l) = cnt κ k l + 1 := by unfold cnt; rw [List.countP_cons_of_pos (by simpa using hz)]
      rw [e]
      refine ⟨fun j x hj hx => ?_, fun j x hj hx => ?_⟩
      · cases j with
        | zero => simp at hx; subst hx; exact hz
        | succ j => exact (ih h.2).1 j x (by omega) (by simpa using hx)
      · cases j with
        | zero => omega
        | succ j => exact (ih h.2).2 j x (by omega) (by simpa using hx)
    · have e : cnt κ k (z :: l) = 0 := cnt_zero fun y hy => by
        rcases List.mem_cons.1 hy with rfl | hy
        · omega
        · have := h.1 y hy; omega
      rw [e]
      refine ⟨fun j x hj _ => by omega, fun j x _ hx => ?_⟩
      have hm := List.mem_of_getElem? hx
      rcases List.mem_cons.1 hm with rfl | hy
      · omega
      · have := h.1 x hy; omega
/-- a place between those before and those not before is the number of those before -/
theorem cnt_is {l : List α} {k : Int} {i : Nat} (hi : i ≤ l.length) (h1 : ∀ j x, j < i → l[j]? = some x → κ x < k) (h2 : ∀ j x, i ≤ j → l[j]? = some x → k ≤ κ x) : i = cnt κ k l := by
  induction l generalizing i with
  | nil => simp at hi; subst hi; rfl
  | cons z l ih =>
    cases i with
    | zero =>
      symm
      exact cnt_zero fun y hy => by
        obtain ⟨j, hj⟩ := List.mem_iff_getElem?.1 hy
        exact h2 j y (by omega) hj
    | succ i =>
      have hz := h1 0 z (by omega) rfl
      have e : cnt κ k (z :: l) = cnt κ k l + 1 := by unfold cnt; rw [List.countP_cons_of_pos (by simpa using hz)]
      rw [e, ih (i := i) (by simpa using hi) (fun j x hj hx => h1 (j + 1) x (by omega) (by simpa using hx)) (fun j x hj hx => h2 (j + 1) x (by omega) (by simpa using hx))]
theorem mem_ins {x y : α} {l : List α} : y ∈ ins κ x l ↔ y = x ∨ y ∈ l := by
  unfold ins
  rw [List.mem_append, List.mem_cons]
  conv => rhs; rw [← List.take_append_drop (cnt κ (κ x) l) l, List.mem_append]
  constructor
  · rintro (h | h | h)
    · exact .inr (.inl h)
    · exact .inl h
    · exact .inr (.inr h)
  · rintro (h | h | h)
    · exact .inr (.inl h)
    · exact .inl h
    · exact .inr (.inr h)
theorem len_ins (x : α) (l : List α) : (ins κ x l).length = l.length + 1 := by
  unfold ins
  rw [List.length_append, List.length_cons, List.length_take, List.length_drop]
  have := cnt_le (κ := κ) (κ x) l
  omega
theorem srt_ins {x : α} {l : List α} (h : Srt κ l) (hn : ∀ y ∈ l, κ y ≠ κ x) : Srt κ (ins κ x l) := by
  unfold ins
  have hc := h.at_cnt (κ x)
  have h0 : Srt κ (l.take (cnt κ (κ x) l) ++ l.drop (cnt κ (κ x) l)) := by rw [List.take_append_drop]; exact h
  unfold Srt at h0 ⊢
  rw [List.pairwise_append] at h0 ⊢
  have ht : ∀ y ∈ l.take (cnt κ (κ x) l), κ y < κ x := fun y hy => by
    obtain ⟨j, hj⟩ := List.mem_iff_getElem?.1 hy
    rw [List.getElem?_take] at hj
    split at hj
    · exact hc.1 j y (by assumption) hj
    · cases hj
  have hd : ∀ y ∈ l.drop (cnt κ (κ x) l), κ x < κ y := fun y hy => by
    have h3 := hn y (List.mem_of_mem_drop hy)
    obtain ⟨j, hj⟩ := List.mem_iff_getElem?.1 hy
    rw [List.getElem?_drop] at hj
    have := hc.2 _ y (Nat.le_add_right _ _) hj
    omega
  refine ⟨h0.1, List.pairwise_cons.2 ⟨hd, h0.2.1⟩, fun a ha b hb => ?_⟩
  rcases List.mem_cons.1 hb with rfl | hb
  · exact ht a ha
  · exact h0.2.2 a ha b hb
theorem srt_ext : ∀ {a b : List α}, Srt κ a → Srt κ b → (∀ x, x ∈ a ↔ x ∈ b) → a = b
  | [], [], _, _, _ => rfl
  | [], y :: b, _, _, h => absurd ((h y).2 (List.mem_cons_self ..)) (by simp)
  | x :: a, [], _, _, h => absurd ((h x).1 (List.mem_cons_self ..)) (by simp)
  | x :: a, y :: b, ha, hb, h => by
    rw [srt_cons] at ha hb
    have hxy : x = y := by
      rcases List.mem_cons.1 ((h x).1 (List.mem_cons_self ..)) with e | e
      · exact e
      · rcases List.mem_cons.1 ((h y).2 (List.mem_cons_self ..)) with e' | e'
        · exact e'.symm
        · have h1 := hb.1 x e
          have h2 := ha.1 y e'
          omega
    subst hxy
    rw [srt_ext ha.2 hb.2 fun z => ?_]
    constructor
    · intro hz
      rcases List.mem_cons.1 ((h z).1 (List.mem_cons_of_mem _ hz)) with rfl | e
      · have := ha.1 z hz; omega
      · exact e
    · intro hz
      rcases List.mem_cons.1 ((h z).2 (List.mem_cons_of_mem _ hz)) with rfl | e
      · have := hb.1 z hz; omega
      · exact e
theorem Srt.filter {l : List α} (h : Srt κ l) (p : α → Bool) : Srt κ (l.filter p) := List.Pairwise.filter p h
theorem Srt.snoc {l : List α} {x : α} (h : Srt κ l) (hx : ∀ y ∈ l, κ y < κ x) : Srt κ (l ++ [x]) := by
  unfold Srt
  rw [List.pairwise_append]
  exact ⟨h, List.pairwise_singleton _ _, fun a ha b hb => by rw [List.mem_singleton] at hb; subst hb; exact hx a ha⟩
/-- one with this key is there -/
theorem Srt.found {l : List α} (h : Srt κ l) (k : Int) : (∃ y ∈ l, κ y = k) ↔ ∃ y, l[cnt κ k l]? = some y ∧ κ y = k := by
  constructor
  · rintro ⟨y, hy, e⟩
    obtain ⟨j, hj⟩ := List.mem_iff_getElem?.1 hy
    have hc := h.at_cnt k
    have h1 : ¬ j < cnt κ k l := fun hlt => by have := hc.1 j y hlt hj; omega
    have hjl := (List.getElem?_eq_some_iff.1 hj).1
    rcases Nat.lt_or_ge (cnt κ k l) j with h2 | h2
    · have hx : l[cnt κ k l]? = some (l[cnt κ k l]'(by omega)) := List.getElem?_eq_getElem _
      have h3 := hc.2 _ _ (Nat.le_refl _) hx
      have h4 : κ (l[cnt κ k l]'(by omega)) < κ l[j] := List.pairwise_iff_getElem.1 h _ _ (by omega) hjl h2
      have h5 : l[j] = y := (List.getElem?_eq_some_iff.1 hj).2
      rw [h5] at h4
      omega
    · obtain rfl : j = cnt κ k l := by omega
      exact ⟨y, hj, e⟩
  · rintro ⟨y, hy, e⟩
    exact ⟨y, List.mem_of_getElem? hy, e⟩
/-- two lists that agree where their keys are the same -/
def Agr (κ : α → Int) (a b : List α) : Prop := ∀ x ∈ a, ∀ y ∈ b, κ x = κ y → x = y
theorem Agr.symm {a b : List α} (h : Agr κ a b) : Agr κ b a := fun x hx y hy e => (h y hy x hx e.symm).symm
variable [DecidableEq α]
/-- put in, if it is not there -/
def put (κ : α → Int) (l : List α) (x : α) : List α := if x ∈ l then l else ins κ x l
theorem mem_put {x y : α} {l : List α} : y ∈ put κ l x ↔ y = x ∨ y ∈ l := by
  unfold put
  split
  · rename_i h
    constructor
    · exact .inr
    · rintro (rfl | h'); exact h; exact h'
  · exact mem_ins
theorem srt_put {x : α} {l : List α} (h : Srt κ l) (hn : ∀ y ∈ l, κ y = κ x → y = x) : Srt κ (put κ l x) := by
  unfold put
  split
  · exact h
  · rename_i hx
    exact srt_ins h fun y hy e => hx (by rw [← hn y hy e]; exact hy)
theorem len_put (x : α) (l : List α) : (put κ l x).length ≤ l.length + 1 := by
  unfold put
  split
  · omega
  · rw [len_ins]; exact Nat.le_refl _
/-- both together -/
def uni (κ : α → Int) (a b : List α) : List α := b.foldl (put κ) a
theorem mem_uni {x : α} : ∀ {b a : List α}, x ∈ uni κ a b ↔ x ∈ a ∨ x ∈ b
  | [], a => by unfold uni; simp
  | y :: b, a => by
    have := mem_uni (x := x) (b := b) (a := put κ a y)
    unfold uni at this ⊢
    rw [List.foldl_cons, this, mem_put, List.mem_cons]
    constructor
    · rintro ((h | h) | h)
      · exact .inr (.inl h)
      · exact .inl h
      · exact .inr (.inr h)
    · rintro (h | h | h)
      · exact .inl (.inr h)
      · exact .inl (.inl h)
      · exact .inr h
theorem srt_uni : ∀ {b a : List α}, Srt κ a → Srt κ b → Agr κ a b → Srt κ (uni κ a b)
  | [], a, h, _, _ => h
  | y :: b, a, h, hb, hg => by
    unfold uni
    rw [List.foldl_cons]
    rw [srt_cons] at hb
    refine srt_uni (srt_put h fun z hz e => hg z hz y (List.mem_cons_self ..) e) hb.2 fun x hx z hz e => ?_
    rcases mem_put.1 hx with rfl | hx
    · have := hb.1 z hz; omega
    · exact hg x hx z (List.mem_cons_of_mem _ hz) e
theorem len_uni : ∀ (b a : List α), (uni κ a b).length ≤ a.length + b.length
  | [], a => by unfold uni; simp
  | y :: b, a => by
    have := len_uni b (put κ a y)
    unfold uni at this ⊢
    have h2 := len_put (κ := κ) y a
    rw [List.foldl_cons, List.length_cons]
    omega
theorem uni_snoc (a b : List α) (x : α) : uni κ a (b ++ [x]) = put κ (uni κ a b) x := by unfold uni; rw [List.foldl_append]; rfl
theorem uni_comm {a b : List α} (ha : Srt κ a) (hb : Srt κ b) (h : Agr κ a b) : uni κ a b = uni κ b a :=
  srt_ext (srt_uni ha hb h) (srt_uni hb ha h.symm) fun x => by rw [mem_uni, mem_uni]; exact Or.comm
theorem uni_sub {a b : List α} (ha : Srt κ a) (hb : Srt κ b) (h : ∀ x ∈ b, x ∈ a) : uni κ a b = a :=
  srt_ext (srt_uni ha hb fun x hx y hy e => ha.inj hx (h y hy) e) ha fun x => by rw [mem_uni]; exact ⟨fun e => e.elim id (h x), .inl⟩
instance (a b : List α) : Decidable (Agr κ a b) := by unfold Agr; infer_instance
end
end Go.Proofs.Ytadmiecoahohiaa
