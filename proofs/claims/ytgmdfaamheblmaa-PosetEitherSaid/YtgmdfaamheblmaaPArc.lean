/- Arcs in memory; digraphs. -/
import Derived.Test.YtgmdfaamheblmaaPSet
namespace Go.Proofs.Ytgmdfaamheblmaa
open Go Go.RowKit PM

def encY (x : Int × Int) : List Value := [.int .i64 x.1, .int .i64 x.2]
def flatY (ys : List (Int × Int)) : List Value := ys.flatMap encY
theorem flatY_nil : flatY [] = [] := rfl
theorem flatY_cons (y : Int × Int) (ys : List (Int × Int)) : flatY (y :: ys) = .int .i64 y.1 :: .int .i64 y.2 :: flatY ys := rfl
theorem flatY_app (xs ys : List (Int × Int)) : flatY (xs ++ ys) = flatY xs ++ flatY ys := List.flatMap_append
theorem flatY_len (ys : List (Int × Int)) : (flatY ys).length = ys.length * 2 := by
  induction ys with
  | nil => rfl
  | cons y ys ih => rw [flatY_cons]; simp [ih]; omega
theorem flatY_at : ∀ (ys : List (Int × Int)) (j : Nat) (y : Int × Int), ys[j]? = some y → (flatY ys)[j * 2]? = some (.int .i64 y.1) ∧ (flatY ys)[j * 2 + 1]? = some (.int .i64 y.2)
  | [], j, y, h => by simp at h
  | x :: xs, 0, y, h => by
    simp at h
    subst h
    exact ⟨rfl, rfl⟩
  | x :: xs, j + 1, y, h => by
    have := flatY_at xs j y (by simpa using h)
    rw [flatY_cons, show (j + 1) * 2 = j * 2 + 1 + 1 from by omega]
    exact ⟨by simpa using this.1, by simpa using this.2⟩
theorem flatY_one (ys : List (Int × Int)) : ∀ u ∈ flatY ys, u.oneCell' = true := by
  intro u hu
  unfold flatY at hu
  rw [List.mem_flatMap] at hu
  obtain ⟨y, _, hy⟩ := hu
  simp [encY] at hy
  rcases hy with rfl | rfl <;> rfl

/-- a slice value of n pairs that reads as ys -/
def YL (w : World) (A : Option Addr) (n : Nat) (ys : List (Int × Int)) : Prop :=
  ys.length = n ∧ (0 < n → ∃ b o, A = some ⟨b, o, none⟩ ∧ b < w.heap.size ∧ ∀ j u, (flatY ys)[j]? = some u → w.cell? ⟨b, o + j, none⟩ = some u)
theorem YL.keep {w w' : World} {A : Option Addr} {n : Nat} {ys : List (Int × Int)} (h : YL w A n ys) (hb : Below w.heap.size w w') : YL w' A n ys :=
  ⟨h.1, fun hn => by
    obtain ⟨b, o, e, hl, hc⟩ := h.2 hn
    exact ⟨b, o, e, Nat.lt_of_lt_of_le hl hb.size, fun j u hu => (hb.cell (p := ⟨b, o + j, none⟩) hl).trans (hc j u hu)⟩⟩
theorem YL.at_ {w : World} {A : Option Addr} {n : Nat} {ys : List (Int × Int)} (h : YL w A n ys) {j : Nat} (hj : j < n) : ∃ b o y, A = some ⟨b, o, none⟩ ∧ b < w.heap.size ∧ ys[j]? = some y ∧ w.cell? ⟨b, o + j * 2, none⟩ = some (.int .i64 y.1) ∧ w.cell? ⟨b, o + j * 2 + 1, none⟩ = some (.int .i64 y.2) := by
  obtain ⟨b, o, e, hl, hc⟩ := h.2 (by omega)
  have hj' : j < ys.length := by rw [h.1]; exact hj
  have hx : ys[j]? = some ys[j] := List.getElem?_eq_getElem hj'
  have := flatY_at ys j _ hx
  exact ⟨b, o, _, e, hl, hx, hc _ _ this.1, hc _ _ this.2⟩

theorem yl_nil (w : World) (A : Option Addr) : YL w A 0 [] := ⟨rfl, fun h => by omega⟩
/-- an arc is good -/
def okA (n : Int) (p : Int × Int) : Bool := decide ((0 ≤ p.1 ∧ p.1 < n) ∧ (0 ≤ p.2 ∧ p.2 < n) ∧ p.1 ≠ p.2)
/-- an arc stands before another one -/
def ltA (p q : Int × Int) : Bool := decide (p.1 < q.1 ∨ (p.1 = q.1 ∧ p.2 < q.2))
/-- from here on the arcs are good and ascend; the arc before them is given -/
def vL (n : Int) : Option (Int × Int) → List (Int × Int) → Bool
  | _, [] => true
  | q, p :: l => okA n p && ((match q with | none => true | some q => ltA q p) && vL n (some p) l)
def vB (n : Int) (l : List (Int × Int)) : Bool := decide (0 ≤ n ∧ n ≤ 24) && vL n none l
/-- the arc before place k -/
def befA (l : List (Int × Int)) : Nat → Option (Int × Int)
  | 0 => none
  | k + 1 => l[k]?
/-- arcs of naturals, as they lie in memory -/
def zA (p : Nat × Nat) : Int × Int := ((p.1 : Int), (p.2 : Int))
def nA (p : Int × Int) : Nat × Nat := (p.1.toNat, p.2.toNat)
/-- a digraph of n vertices -/
structure Dig (n : Nat) (bs : List (Nat × Nat)) : Prop where
  le : n ≤ 24
  fits : ∀ p ∈ bs, p.1 < n ∧ p.2 < n ∧ p.1 ≠ p.2
  asc : bs.Pairwise ltN
/-- its relation -/
def adj (bs : List (Nat × Nat)) : Nat → Nat → Bool := fun i j => bs.contains (i, j)
theorem adj_iff {bs : List (Nat × Nat)} {i j : Nat} : adj bs i j = true ↔ (i, j) ∈ bs := List.contains_iff_mem
theorem Dig.adj {n bs} (h : Dig n bs) : Fits n (adj bs) := fun i j ht => by
  have := h.fits _ (adj_iff.1 ht)
  exact ⟨this.1, this.2.1⟩
theorem Dig.irr {n bs} (h : Dig n bs) (i : Nat) : Go.Proofs.Ytgmdfaamheblmaa.adj bs i i = false := by
  rcases ht : Go.Proofs.Ytgmdfaamheblmaa.adj bs i i with _ | _
  · rfl
  · exact ((h.fits _ (adj_iff.1 ht)).2.2 rfl).elim
theorem ltN_trans {p q r : Nat × Nat} (h : ltN p q) (k : ltN q r) : ltN p r := by
  unfold ltN at *; omega
theorem vL_nat {n : Nat} : ∀ (l : List (Int × Int)) (q : Option (Int × Int)), vL n q l = true → (∀ q', q = some q' → 0 ≤ q'.1 ∧ 0 ≤ q'.2) → (l.map nA).map zA = l ∧ (∀ p ∈ l.map nA, p.1 < n ∧ p.2 < n ∧ p.1 ≠ p.2) ∧ (l.map nA).Pairwise ltN ∧ ∀ q', q = some q' → ∀ p ∈ l.map nA, ltN (nA q') p
  | [], _, _, _ => ⟨rfl, (fun _ h => nomatch h), List.Pairwise.nil, fun _ _ _ h => nomatch h⟩
  | p :: l, q, h, hq => by
    unfold vL at h
    rw [Bool.and_eq_true, Bool.and_eq_true] at h
    obtain ⟨h1, h2, h3⟩ := h
    have h1 := of_decide_eq_true h1
    obtain ⟨i1, i2, i3, i4⟩ := vL_nat l (some p) h3 (fun q' e => by cases e; exact ⟨h1.1.1, h1.2.1.1⟩)
    have i4 := i4 p rfl
    obtain ⟨x, y⟩ := p
    simp only at h1
    have hlt : ∀ q', q = some q' → ltN (nA q') (nA (x, y)) := by
      intro q' e
      subst e
      have h2 := of_decide_eq_true h2
      have hq := hq q' rfl
      obtain ⟨u, v⟩ := q'
      simp only at h2 hq
      unfold ltN nA
      simp only
      omega
    refine ⟨?_, ?_, ?_, ?_⟩
    · rw [List.map_cons, List.map_cons, i1]
      congr 1
      unfold zA nA
      simp only
      congr 1 <;> omega
    · intro p hp
      rw [List.map_cons] at hp
      rcases List.mem_cons.1 hp with rfl | hp
      · unfold nA
        simp only
        omega
      · exact i2 p hp
    · rw [List.map_cons, List.pairwise_cons]
      exact ⟨i4, i3⟩
    · intro q' e p hp
      rw [List.map_cons] at hp
      rcases List.mem_cons.1 hp with rfl | hp
      · exact hlt q' e
      · exact ltN_trans (hlt q' e) (i4 p hp)
theorem vL_of {n : Nat} : ∀ (bs : List (Nat × Nat)) (q : Option (Nat × Nat)), (∀ p ∈ bs, p.1 < n ∧ p.2 < n ∧ p.1 ≠ p.2) → bs.Pairwise ltN → (∀ q', q = some q' → ∀ p ∈ bs, ltN q' p) → vL n (q.map zA) (bs.map zA) = true
  | [], _, _, _, _ => rfl
  | p :: bs, q, h1, h2, h3 => by
    rw [List.pairwise_cons] at h2
    have ih := vL_of bs (some p) (fun r hr => h1 r (List.mem_cons_of_mem _ hr)) h2.2 (fun q' e r hr => by cases e; exact h2.1 r hr)
    have hp := h1 p List.mem_cons_self
    rw [List.map_cons]
    unfold vL
    rw [Bool.and_eq_true, Bool.and_eq_true]
    refine ⟨decide_eq_true ?_, ?_, ih⟩
    · unfold zA; simp only; omega
    · cases q with
      | none => rfl
      | some q' =>
        refine decide_eq_true ?_
        have := h3 q' rfl p List.mem_cons_self
        unfold ltN at this
        unfold zA; simp only; omega
theorem vB_true {n : Int} {l : List (Int × Int)} (h : vB n l = true) : ∃ (N : Nat) (bs : List (Nat × Nat)), n = (N : Int) ∧ l = bs.map zA ∧ Dig N bs := by
  unfold vB at h
  rw [Bool.and_eq_true] at h
  have h1 := of_decide_eq_true h.1
  obtain ⟨N, rfl⟩ : ∃ N : Nat, n = (N : Int) := ⟨n.toNat, by omega⟩
  obtain ⟨i1, i2, i3, _⟩ := vL_nat l none h.2 (fun _ e => nomatch e)
  exact ⟨N, l.map nA, rfl, i1.symm, by omega, i2, i3⟩
theorem vB_of {N : Nat} {bs : List (Nat × Nat)} (h : Dig N bs) : vB N (bs.map zA) = true := by
  unfold vB
  rw [Bool.and_eq_true]
  exact ⟨decide_eq_true ⟨by omega, by have := h.le; omega⟩, vL_of bs none h.fits h.asc (fun _ e => nomatch e)⟩
/-- a digraph has no more arcs than n * n -/
theorem asc_len {n : Nat} : ∀ (bs : List (Nat × Nat)) (b : Nat), (∀ p ∈ bs, p.1 < n ∧ p.2 < n) → (∀ p ∈ bs, b ≤ p.1 * n + p.2) → bs.Pairwise ltN → b ≤ n * n → b + bs.length ≤ n * n
  | [], b, _, _, _, h => h
  | p :: bs, b, h1, h2, h3, h => by
    rw [List.pairwise_cons] at h3
    have hp := h1 p List.mem_cons_self
    have hb := h2 p List.mem_cons_self
    have hk : p.1 * n + p.2 + 1 ≤ n * n := by
      have : (p.1 + 1) * n ≤ n * n := Nat.mul_le_mul_right n hp.1
      rw [Nat.succ_mul] at this
      omega
    have := asc_len bs (p.1 * n + p.2 + 1) (fun q hq => h1 q (List.mem_cons_of_mem _ hq)) (fun q hq => by
      have hlt := h3.1 q hq
      have hq1 := h1 q (List.mem_cons_of_mem _ hq)
      unfold ltN at hlt
      rcases hlt with hlt | ⟨e, hlt⟩
      · have : (p.1 + 1) * n ≤ q.1 * n := Nat.mul_le_mul_right n hlt
        rw [Nat.succ_mul] at this
        omega
      · rw [e]; omega) h3.2 hk
    simp only [List.length_cons]
    omega
theorem Dig.len {n bs} (h : Dig n bs) : bs.length ≤ n * n := by
  have := asc_len bs 0 (fun p hp => ⟨(h.fits p hp).1, (h.fits p hp).2.1⟩) (fun _ _ => Nat.zero_le _) h.asc (Nat.zero_le _)
  omega
theorem Dig.len576 {n bs} (h : Dig n bs) : bs.length ≤ 576 := by
  have h1 := h.len
  have h2 : n * n ≤ 24 * 24 := Nat.mul_le_mul h.le h.le
  omega
theorem zA_at {bs : List (Nat × Nat)} {j : Nat} {y : Int × Int} (h : (bs.map zA)[j]? = some y) : ∃ p, bs[j]? = some p ∧ y = zA p := by
  rw [List.getElem?_map] at h
  obtain ⟨p, h1, h2⟩ := Option.map_eq_some_iff.1 h
  exact ⟨p, h1, h2.symm⟩
end Go.Proofs.Ytgmdfaamheblmaa
