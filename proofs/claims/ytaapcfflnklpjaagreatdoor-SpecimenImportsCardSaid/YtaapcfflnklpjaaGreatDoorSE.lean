/- Texts of specimens and of lists of them, the mathematics. -/
import Derived.Test.YtaapcfflnklpjaaGreatDoorSX
import Derived.Test.YtaapcfflnklpjaaGreatDoorSM
import Derived.Test.YtaapcfflnklpjaaGreatDoorSPC
namespace Go.Proofs.YtaapcfflnklpjaaGreatDoor
open Go Go.RowKit Go.Lib
/-- the bytes of a label -/
theorem labL_ge {s n t : Int} (h : lB s n t = true) : ∀ x ∈ labL s n t, 48 ≤ x.toNat := by
  intro x hx
  obtain ⟨_, _, h0, h9⟩ := lB_true.1 h
  unfold labL at hx
  rw [List.mem_append, List.mem_append] at hx
  rcases hx with (hx | hx) | hx
  · unfold sideL at hx
    split at hx <;> (simp at hx; subst hx; decide)
  · exact (dec_digs _ x hx).1
  · unfold stateL at hx
    split at hx
    · cases hx
    · rw [List.mem_singleton] at hx
      subst hx
      obtain ⟨k, hk⟩ : ∃ k : Nat, t = k := ⟨t.toNat, by omega⟩
      subst hk
      have hk : k ≤ 9 := by omega
      rw [Int.toNat_natCast]
      have : ∀ k : Fin 10, 48 ≤ (UInt8.ofNat (96 + k.val)).toNat := by decide
      exact this ⟨k, by omega⟩
/-- the text of a specimen's pairing -/
def pairL (x : Spc) : List UInt8 := labL 0 x.o x.a ++ 47 :: labL 1 x.r x.b
/-- a specimen's text -/
def spL (x : Spc) : List UInt8 := spP (pairL x) x.i x.h x.m
def spT (x : Spc) : ByteArray := if vS x then strB (spL x) else ⟨#[]⟩
theorem spT_true {x : Spc} (h : vS x = true) : spT x = strB (spL x) := by unfold spT; rw [if_pos h]
theorem spT_false {x : Spc} (h : vS x = false) : spT x = ⟨#[]⟩ := by unfold spT; rw [if_neg (by rw [h]; decide)]
theorem vS_labs {x : Spc} (h : vS x = true) : lB 0 x.o x.a = true ∧ lB 1 x.r x.b = true := by
  obtain ⟨_, h1, h2, h3, h4, _⟩ := vS_true.1 h
  exact ⟨lB_true.2 ⟨.inl rfl, h1, by omega, h3.2⟩, lB_true.2 ⟨.inr rfl, h2, by omega, h4.2⟩⟩
theorem vS_pB {x : Spc} (h : vS x = true) : pB 0 x.o x.a 1 x.r x.b := ⟨(vS_labs h).1, (vS_labs h).2, rfl, rfl⟩
theorem pairL_bytes {x : Spc} (h : vS x = true) : labT 0 x.o x.a ++ ⟨#[47]⟩ ++ labT 1 x.r x.b = strB (pairL x) := by
  obtain ⟨h1, h2⟩ := vS_labs h
  rw [labT_true h1, labT_true h2, show (⟨#[47]⟩ : ByteArray) = strB [47] from rfl, strB_app, strB_app]
  unfold pairL
  rw [List.append_assoc]
  rfl
theorem pairL_ge {x : Spc} (h : vS x = true) : ∀ c ∈ pairL x, 47 ≤ c.toNat := by
  intro c hc
  obtain ⟨h1, h2⟩ := vS_labs h
  unfold pairL at hc
  rcases List.mem_append.1 hc with hc | hc
  · have := labL_ge h1 c hc; omega
  · rcases List.mem_cons.1 hc with hc | hc
    · subst hc; decide
    · have := labL_ge h2 c hc; omega
theorem pairL_no32 {x : Spc} (h : vS x = true) : ∀ c ∈ pairL x, c ≠ 32 := fun c hc e => by
  have := pairL_ge h c hc
  subst e
  revert this
  decide
theorem spL_ge {x : Spc} (h : vS x = true) : ∀ c ∈ spL x, 32 ≤ c.toNat := by
  intro c hc
  have hd : ∀ (n : Nat), c ∈ Lib.decDigits n → 32 ≤ c.toNat := fun n hn => by have := (dec_digs n c hn).1; omega
  unfold spL spP at hc
  rcases List.mem_append.1 hc with hc | hc
  · exact hd _ hc
  rcases List.mem_cons.1 hc with hc | hc
  · subst hc; decide
  rcases List.mem_append.1 hc with hc | hc
  · have := pairL_ge h c hc; omega
  rcases List.mem_cons.1 hc with hc | hc
  · subst hc; decide
  rcases List.mem_append.1 hc with hc | hc
  · rcases List.mem_append.1 hc with hc | hc
    · exact hd _ hc
    · simp at hc; subst hc; decide
  rcases List.mem_cons.1 hc with hc | hc
  · subst hc; decide
  unfold gramL at hc
  rcases List.mem_append.1 hc with hc | hc
  · exact hd _ hc
  rcases List.mem_cons.1 hc with hc | hc
  · subst hc; decide
  · have := (d3_dig (Nat.mod_lt _ (by decide)) c hc).1; omega
theorem spL_no10 {x : Spc} (h : vS x = true) : ∀ c ∈ spL x, c ≠ 10 := fun c hc e => by
  have := spL_ge h c hc
  subst e
  revert this
  decide
theorem gramL_len {m : Nat} (h : m ≤ 200000) : (gramL m).length ≤ 7 ∧ 5 ≤ (gramL m).length := by
  unfold gramL
  have := dec_short3 (u := m / 1000) (by omega)
  have h0 : (Lib.decDigits (m / 1000)).length ≠ 0 := fun h0 => dec_ne (m / 1000) (List.eq_nil_of_length_eq_zero h0)
  rw [List.length_append]
  simp [d3]
  omega
theorem labL_len {s n t : Int} (h : lB s n t = true) : (labL s n t).length ≤ 5 := by
  obtain ⟨_, h1, h0, h9⟩ := lB_true.1 h
  have := dec_short3 (u := n.toNat) (by omega)
  unfold labL
  rw [List.length_append, List.length_append]
  have h1 : (sideL s).length = 1 := by unfold sideL; split <;> rfl
  have h2 : (stateL t).length ≤ 1 := by unfold stateL; split <;> simp
  omega
theorem spL_len {x : Spc} (h : vS x = true) : (spL x).length ≤ 28 ∧ 3 ≤ (spL x).length := by
  obtain ⟨hi, _, _, _, _, hh, hm⟩ := vS_true.1 h
  obtain ⟨h1, h2⟩ := vS_labs h
  have g := gramL_len (m := x.m.toNat) (by omega)
  have l1 := labL_len h1
  have l2 := labL_len h2
  have d1 := dec_short (u := x.i.toNat) (by omega)
  have d2 : (Lib.decDigits (hourN x.h)).length ≤ 2 := by
    unfold hourN
    split
    · decide +kernel
    · by_cases h9 : x.h.toNat < 10
      · rw [dec_less h9]; simp
      · rw [dec_more (by omega), dec_less (by omega)]; simp
  unfold spL spP pairL
  simp only [List.length_append, List.length_cons, List.length_nil]
  omega
theorem spT_size (x : Spc) : (spT x).size ≤ 28 := by
  cases h : vS x
  · rw [spT_false h]; exact Nat.zero_le _
  · rw [spT_true h, strB_size]; exact (spL_len h).1
/-- l is the text of the specimen x -/
def IsSp (l : List UInt8) (x : Spc) : Prop := vS x = true ∧ spL x = l
/-- what a text's parts say of it -/
theorem IsSp.parts {l : List UInt8} {x : Spc} (h : IsSp l x) : ∃ a b c d, Lib.splitK [32] 0 3 l = [a, b, c, d] ∧ wordsL l = [a, b, c, d] ∧ endL a = some x.i ∧ ppR b = ((0, x.o, x.a), (1, x.r, x.b), 0) ∧
    (∃ h : Int, endL (Lib.trimSuffix c [104]) = some h ∧ h.tmod 12 = x.h) ∧ endL (Lib.replace d [46] [] 1) = some x.m ∧
    (numS 7 0 a : Int) = x.i ∧ ((numS 7 0 c : Nat) : Int).tmod 12 = x.h ∧ (numS 7 0 d : Int) = x.m := by
  obtain ⟨hv, rfl⟩ := h
  obtain ⟨hi, _, _, _, _, hh, hm⟩ := vS_true.1 hv
  obtain ⟨r1, r2, r3, r4⟩ := read_text hi hh hm
  obtain ⟨n1, n2, n3⟩ := num_text hi hh hm
  refine ⟨_, _, _, _, split_text (pairL_no32 hv) _ _ _, words_text (pairL_no32 hv) _ _ _, r1, ?_, ⟨_, r2, r3⟩, r4, n1, n2, n3⟩
  have := ppR_text (vS_pB hv)
  rwa [pairL_bytes hv, data_strB] at this
theorem IsSp.uniq {l : List UInt8} {x y : Spc} (hx : IsSp l x) (hy : IsSp l y) : x = y := by
  obtain ⟨a, b, c, d, e1, _, e2, e3, ⟨h, e4, e5⟩, e6, _⟩ := hx.parts
  obtain ⟨a', b', c', d', f1, _, f2, f3, ⟨h', f4, f5⟩, f6, _⟩ := hy.parts
  rw [e1] at f1
  injection f1 with g1 f1
  injection f1 with g2 f1
  injection f1 with g3 f1
  injection f1 with g4 _
  subst g1; subst g2; subst g3; subst g4
  rw [e2] at f2
  rw [e3] at f3
  rw [e4] at f4
  rw [e6] at f6
  injection f2 with f2
  injection f4 with f4
  injection f6 with f6
  subst f4
  simp only [Prod.mk.injEq] at f3
  obtain ⟨⟨_, k1, k2⟩, ⟨_, k3, k4⟩, _⟩ := f3
  cases x; cases y
  simp only at *
  subst f2; subst f6; subst k1; subst k2; subst k3; subst k4
  rw [← e5, ← f5]
/-- what Parse answers -/
def PR (l : List UInt8) (x : Spc) (e : Int) : Prop := (e = 0 ∧ IsSp l x) ∨ (e = 3 ∧ x = Spc.zero ∧ ∀ y, ¬IsSp l y)
theorem PR.uniq {l : List UInt8} {x y : Spc} {e f : Int} (h : PR l x e) (h' : PR l y f) : x = y ∧ e = f := by
  rcases h with ⟨h1, h2⟩ | ⟨h1, h2, h3⟩ <;> rcases h' with ⟨k1, k2⟩ | ⟨k1, k2, k3⟩
  · exact ⟨h2.uniq k2, h1.trans k1.symm⟩
  · exact absurd h2 (k3 _)
  · exact absurd k2 (h3 _)
  · exact ⟨h2.trans k2.symm, h1.trans k1.symm⟩
theorem PR.ex (l : List UInt8) : ∃ x e, PR l x e := by
  by_cases h : ∃ x, IsSp l x
  · obtain ⟨x, hx⟩ := h
    exact ⟨x, 0, .inl ⟨rfl, hx⟩⟩
  · exact ⟨Spc.zero, 3, .inr ⟨rfl, rfl, fun y hy => h ⟨y, hy⟩⟩⟩
theorem PR.text {l : List UInt8} {x : Spc} (h : PR l x 0) : spT x = strB l := by
  rcases h with ⟨_, h1, h2⟩ | ⟨h1, _⟩
  · rw [spT_true h1, h2]
  · cases h1
theorem PR.of_text {x : Spc} (h : vS x = true) {y : Spc} {e : Int} (hp : PR (spT x).data.toList y e) : y = x ∧ e = 0 := by
  have : IsSp (spT x).data.toList x := ⟨h, by rw [spT_true h, data_strB]⟩
  exact hp.uniq (.inl ⟨rfl, this⟩)
theorem PR.nil {y : Spc} {e : Int} (hp : PR [] y e) : y = Spc.zero ∧ e = 3 := by
  rcases hp with ⟨_, h1, h2⟩ | ⟨h1, h2, _⟩
  · have := spL_len h1
    rw [h2] at this
    simp at this
  · exact ⟨h2, h1⟩

/-- the lines of an export -/
def expL (xs : List Spc) : List UInt8 := (xs.map fun x => spL x ++ [10]).flatten
theorem expL_cons (x : Spc) (xs : List Spc) : expL (x :: xs) = spL x ++ 10 :: expL xs := by simp [expL]
theorem expL_snoc (xs : List Spc) (x : Spc) : expL (xs ++ [x]) = expL xs ++ (spL x ++ [10]) := by simp [expL]
theorem expL_len : ∀ {xs : List Spc}, (∀ x ∈ xs, vS x = true) → (expL xs).length ≤ 29 * xs.length
  | [], _ => Nat.le_refl _
  | x :: xs, h => by
    have := expL_len (xs := xs) fun y hy => h y (List.mem_cons_of_mem _ hy)
    have := (spL_len (h x List.mem_cons_self)).1
    rw [expL_cons, List.length_append, List.length_cons, List.length_cons]
    omega
/-- the lines of a text, with their ends -/
def linesF : List UInt8 → List UInt8 → List (List UInt8)
  | cur, [] => if cur = [] then [] else [cur]
  | cur, c :: l => if c = 10 then (cur ++ [10]) :: linesF [] l else linesF (cur ++ [c]) l
def linesL (l : List UInt8) : List (List UInt8) := linesF [] l
theorem linesF_at : ∀ (a cur r : List UInt8), (∀ x ∈ a, x ≠ 10) → linesF cur (a ++ 10 :: r) = (cur ++ a ++ [10]) :: linesF [] r
  | [], cur, r, _ => by simp [linesF]
  | c :: a, cur, r, h => by
    rw [List.cons_append]
    conv => lhs; unfold linesF
    rw [if_neg (h c List.mem_cons_self), linesF_at a _ r fun x hx => h x (List.mem_cons_of_mem _ hx)]
    simp
theorem linesL_at {a r : List UInt8} (h : ∀ x ∈ a, x ≠ 10) : linesL (a ++ 10 :: r) = (a ++ [10]) :: linesL r := by
  unfold linesL; rw [linesF_at a [] r h]; rfl
theorem linesF_no : ∀ (a cur : List UInt8), (∀ x ∈ a, x ≠ 10) → linesF cur a = if cur ++ a = [] then [] else [cur ++ a]
  | [], cur, _ => by simp [linesF]
  | c :: a, cur, h => by
    conv => lhs; unfold linesF
    rw [if_neg (h c List.mem_cons_self), linesF_no a _ fun x hx => h x (List.mem_cons_of_mem _ hx)]
    simp
theorem linesL_no {a : List UInt8} (h : ∀ x ∈ a, x ≠ 10) (hne : a ≠ []) : linesL a = [a] := by
  unfold linesL; rw [linesF_no a [] h, if_neg (by simpa using hne)]; rfl
theorem linesL_nil : linesL [] = [] := rfl
theorem lines_exp : ∀ {xs : List Spc}, (∀ x ∈ xs, vS x = true) → linesL (expL xs) = xs.map fun x => spL x ++ [10]
  | [], _ => rfl
  | x :: xs, h => by
    rw [expL_cons, linesL_at (spL_no10 (h x List.mem_cons_self)), lines_exp fun y hy => h y (List.mem_cons_of_mem _ hy)]
    rfl
/-- the reference's lines: what stands ahead of each end -/
def rlinesF : List UInt8 → List UInt8 → List (List UInt8)
  | _, [] => []
  | cur, c :: l => if c = 10 then cur :: rlinesF [] l else rlinesF (cur ++ [c]) l
theorem rlinesF_at : ∀ (a cur r : List UInt8), (∀ x ∈ a, x ≠ 10) → rlinesF cur (a ++ 10 :: r) = (cur ++ a) :: rlinesF [] r
  | [], cur, r, _ => by simp [rlinesF]
  | c :: a, cur, r, h => by
    rw [List.cons_append]
    conv => lhs; unfold rlinesF
    rw [if_neg (h c List.mem_cons_self), rlinesF_at a _ r fun x hx => h x (List.mem_cons_of_mem _ hx)]
    simp
theorem rlines_exp : ∀ {xs : List Spc}, (∀ x ∈ xs, vS x = true) → rlinesF [] (expL xs) = xs.map spL
  | [], _ => rfl
  | x :: xs, h => by
    rw [expL_cons, rlinesF_at _ _ _ (spL_no10 (h x List.mem_cons_self)), rlines_exp fun y hy => h y (List.mem_cons_of_mem _ hy)]
    rfl
/-- l is the export of the list xs -/
def IsExp (l : List UInt8) (xs : List Spc) : Prop := chk xs = 0 ∧ Str xs ∧ expL xs = l
/-- what the lines are read as: xs, if each is a specimen's text -/
def Reads : List (List UInt8) → List Spc → Prop
  | [], [] => True
  | l :: ls, x :: xs => IsSp l x ∧ Reads ls xs
  | _, _ => False
theorem Reads.uniq : ∀ {ls : List (List UInt8)} {xs ys : List Spc}, Reads ls xs → Reads ls ys → xs = ys
  | [], [], [], _, _ => rfl
  | [], [], _ :: _, _, h => h.elim
  | [], _ :: _, _, h, _ => h.elim
  | _ :: _, [], _, h, _ => h.elim
  | _ :: _, _ :: _, [], _, h => h.elim
  | l :: ls, x :: xs, y :: ys, h, h' => by rw [h.1.uniq h'.1, h.2.uniq h'.2]
theorem Reads.snoc : ∀ {ls : List (List UInt8)} {xs : List Spc} {l : List UInt8} {x : Spc}, Reads ls xs → IsSp l x → Reads (ls ++ [l]) (xs ++ [x])
  | [], [], _, _, _, h => ⟨h, trivial⟩
  | [], _ :: _, _, _, h, _ => h.elim
  | _ :: _, [], _, _, h, _ => h.elim
  | _ :: _, _ :: _, _, _, h, h' => ⟨h.1, h.2.snoc h'⟩
theorem Reads.all : ∀ {ls : List (List UInt8)} {xs : List Spc}, Reads ls xs → ∀ l ∈ ls, ∃ x, IsSp l x
  | [], _, _, l, h => by cases h
  | _ :: _, [], h, _, _ => h.elim
  | m :: ls, x :: xs, h, l, hl => by
    rcases List.mem_cons.1 hl with rfl | hl
    · exact ⟨x, h.1⟩
    · exact h.2.all l hl
theorem reads_map : ∀ {ys : List Spc}, (∀ x ∈ ys, vS x = true) → Reads (ys.map spL) ys
  | [], _ => trivial
  | x :: _, h => ⟨⟨h x List.mem_cons_self, rfl⟩, reads_map fun y hy => h y (List.mem_cons_of_mem _ hy)⟩
/-- the trimmed lines -/
def trims (l : List UInt8) : List (List UInt8) := (linesL l).map fun x => Lib.trimSuffix x [10]
theorem IsExp.trims {l : List UInt8} {xs : List Spc} (h : IsExp l xs) : Reads (trims l) xs := by
  have hv := (chk_ok.1 h.1).2.1
  unfold Go.Proofs.YtaapcfflnklpjaaGreatDoor.trims
  rw [← h.2.2, lines_exp hv, List.map_map]
  have : (xs.map ((fun x => Lib.trimSuffix x [10]) ∘ fun x => spL x ++ [10])) = xs.map spL := List.map_congr_left fun x _ => trim_at _ _
  rw [this]
  exact reads_map hv
/-- what the reference reads of its lines: a text's specimen, or zero -/
def Takes : List (List UInt8) → List Spc → Prop
  | [], [] => True
  | l :: ls, x :: xs => (∃ e, PR l x e) ∧ Takes ls xs
  | _, _ => False
theorem Takes.uniq : ∀ {ls : List (List UInt8)} {xs ys : List Spc}, Takes ls xs → Takes ls ys → xs = ys
  | [], [], [], _, _ => rfl
  | [], [], _ :: _, _, h => h.elim
  | [], _ :: _, _, h, _ => h.elim
  | _ :: _, [], _, h, _ => h.elim
  | _ :: _, _ :: _, [], _, h => h.elim
  | l :: ls, x :: xs, y :: ys, h, h' => by
    obtain ⟨e, h1⟩ := h.1
    obtain ⟨f, h2⟩ := h'.1
    rw [(h1.uniq h2).1, h.2.uniq h'.2]
theorem Takes.snoc : ∀ {ls : List (List UInt8)} {xs : List Spc} {l : List UInt8} {x : Spc} {e : Int}, Takes ls xs → PR l x e → Takes (ls ++ [l]) (xs ++ [x])
  | [], [], _, _, _, _, h => ⟨⟨_, h⟩, trivial⟩
  | [], _ :: _, _, _, _, h, _ => h.elim
  | _ :: _, [], _, _, _, h, _ => h.elim
  | _ :: _, _ :: _, _, _, _, h, h' => ⟨h.1, h.2.snoc h'⟩
theorem Reads.takes : ∀ {ls : List (List UInt8)} {xs : List Spc}, Reads ls xs → Takes ls xs
  | [], [], _ => trivial
  | [], _ :: _, h => h.elim
  | _ :: _, [], h => h.elim
  | _ :: _, _ :: _, h => ⟨⟨0, .inl ⟨rfl, h.1⟩⟩, h.2.takes⟩
theorem IsExp.rtakes {l : List UInt8} {xs : List Spc} (h : IsExp l xs) : Takes (rlinesF [] l) xs := by
  have hv := (chk_ok.1 h.1).2.1
  rw [← h.2.2, rlines_exp hv]
  exact (reads_map hv).takes
theorem IsExp.uniq {l : List UInt8} {xs ys : List Spc} (h : IsExp l xs) (h' : IsExp l ys) : xs = ys := h.trims.uniq h'.trims
/-- what Import answers -/
def IR9 (l : List UInt8) (xs : List Spc) (e : Int) : Prop := (l.length ≤ 4096 ∧ e = 0 ∧ IsExp l xs) ∨ (l.length ≤ 4096 ∧ e = 3 ∧ xs = [] ∧ ∀ ys, ¬IsExp l ys) ∨ (4096 < l.length ∧ e = 6 ∧ xs = [])
theorem IR9.uniq {l : List UInt8} {xs ys : List Spc} {e f : Int} (h : IR9 l xs e) (h' : IR9 l ys f) : xs = ys ∧ e = f := by
  rcases h with ⟨_, h1, h2⟩ | ⟨_, h1, h2, h3⟩ | ⟨h1, h2, h3⟩ <;> rcases h' with ⟨_, k1, k2⟩ | ⟨_, k1, k2, k3⟩ | ⟨k1, k2, k3⟩
  · exact ⟨h2.uniq k2, h1.trans k1.symm⟩
  · exact absurd h2 (k3 _)
  · omega
  · exact absurd k2 (h3 _)
  · exact ⟨h2.trans k2.symm, h1.trans k1.symm⟩
  · omega
  · omega
  · omega
  · exact ⟨h3.trans k3.symm, h2.trans k2.symm⟩
/-- what Export answers -/
def ER9 (ys : List Spc) (t : ByteArray) (e : Int) : Prop := e = chk ys ∧ (e = 0 → ∃ zs, Srt ys zs ∧ t = strB (expL zs)) ∧ (e ≠ 0 → t = ⟨#[]⟩)
theorem ER9.uniq {ys : List Spc} {t u : ByteArray} {e f : Int} (h : ER9 ys t e) (h' : ER9 ys u f) : t = u ∧ e = f := by
  have e1 : e = f := h.1.trans h'.1.symm
  subst e1
  refine ⟨?_, rfl⟩
  by_cases h0 : e = 0
  · obtain ⟨z, hz, e1⟩ := h.2.1 h0
    obtain ⟨y, hy, e2⟩ := h'.2.1 h0
    rw [e1, e2, hz.uniq hy]
  · rw [h.2.2 h0, h'.2.2 h0]
theorem strB_inj {a b : List UInt8} (h : strB a = strB b) : a = b := by rw [← data_strB a, h, data_strB]
/-- the program's last test: the list that was read, xs, is exported as the text -/
theorem import_yes {l : List UInt8} {xs : List Spc} {t : ByteArray} {e : Int} (hl : l.length ≤ 4096) (hr : Reads (trims l) xs) (h : ER9 xs t e) :
    (e = 0 ∧ t = strB l → IR9 l xs 0) ∧ (¬(e = 0 ∧ t = strB l) → IR9 l [] 3) := by
  constructor
  · rintro ⟨rfl, rfl⟩
    obtain ⟨zs, hz, ht⟩ := h.2.1 rfl
    have he : IsExp l zs := ⟨hz.chk h.1.symm, hz.2, (strB_inj ht).symm⟩
    have := he.trims.uniq hr
    subst this
    exact .inl ⟨hl, rfl, he⟩
  · intro hn
    refine .inr (.inl ⟨hl, rfl, rfl, fun ys hy => hn ?_⟩)
    have := hy.trims.uniq hr
    subst this
    have he : e = 0 := h.1.trans hy.1
    obtain ⟨zs, hz, ht⟩ := h.2.1 he
    have : zs = ys := hz.uniq (srt_self hy.2.1)
    subst this
    exact ⟨he, by rw [ht, hy.2.2]⟩
theorem import_no {l : List UInt8} (hl : l.length ≤ 4096) {x : List UInt8} (hx : x ∈ trims l) (h : ∀ y, ¬IsSp x y) : IR9 l [] 3 :=
  .inr (.inl ⟨hl, rfl, rfl, fun ys hy => by
    obtain ⟨y, hy⟩ := hy.trims.all x hx
    exact h y hy⟩)
theorem rimport {l : List UInt8} {xs : List Spc} {t : ByteArray} {e : Int} (hl : l.length ≤ 4096) (hr : Takes (rlinesF [] l) xs) (h : ER9 xs t e) :
    (e = 0 ∧ t = strB l → IR9 l xs 0) ∧ (¬(e = 0 ∧ t = strB l) → IR9 l [] 3) := by
  constructor
  · rintro ⟨rfl, rfl⟩
    obtain ⟨zs, hz, ht⟩ := h.2.1 rfl
    have he : IsExp l zs := ⟨hz.chk h.1.symm, hz.2, (strB_inj ht).symm⟩
    have := he.rtakes.uniq hr
    subst this
    exact .inl ⟨hl, rfl, he⟩
  · intro hn
    refine .inr (.inl ⟨hl, rfl, rfl, fun ys hy => hn ?_⟩)
    have := hy.rtakes.uniq hr
    subst this
    have he : e = 0 := h.1.trans hy.1
    obtain ⟨zs, hz, ht⟩ := h.2.1 he
    have : zs = ys := hz.uniq (srt_self hy.2.1)
    subst this
    exact ⟨he, by rw [ht, hy.2.2]⟩
/-- an export is imported again -/
theorem exp_imp {ys zs : List Spc} {t : ByteArray} (h : ER9 ys t 0) (hz : Srt ys zs) {xs : List Spc} {e : Int} (hi : IR9 t.data.toList xs e) : e = 0 ∧ xs = zs := by
  obtain ⟨us, hu, ht⟩ := h.2.1 rfl
  have := hu.uniq hz
  subst this
  have hc := hu.chk h.1.symm
  have he : IsExp t.data.toList us := ⟨hc, hu.2, by rw [ht, data_strB]⟩
  have hl : t.data.toList.length ≤ 4096 := by
    rw [ht, data_strB]
    have := expL_len (chk_ok.1 hc).2.1
    have := (chk_ok.1 hc).1
    omega
  have := hi.uniq (.inl ⟨hl, rfl, he⟩)
  exact ⟨this.2, this.1⟩
/-- and an import is exported again -/
theorem imp_exp {l : List UInt8} {xs : List Spc} (hi : IR9 l xs 0) {t : ByteArray} {g : Int} (h : ER9 xs t g) : g = 0 ∧ t = strB l := by
  rcases hi with ⟨_, _, h1⟩ | ⟨_, h1, _⟩ | ⟨_, h1, _⟩
  · have hg : g = 0 := h.1.trans h1.1
    obtain ⟨zs, hz, ht⟩ := h.2.1 hg
    have := hz.uniq (srt_self h1.2.1)
    subst this
    exact ⟨hg, by rw [ht, h1.2.2]⟩
  · cases h1
  · cases h1
end Go.Proofs.YtaapcfflnklpjaaGreatDoor
