/- Splitting a text, and the numbers of its groups: the mathematics. -/
import Derived.Test.YtaapcfflnklpjaaGreatDoorLRPar
import Derived.Test.YtaapcfflnklpjaaGreatDoorRf
import Derived.Test.YtaapcfflnklpjaaGreatDoorShelf6
import Derived.Laws.AppendOwn
import Derived.Laws.MakeOwn
namespace Go.Proofs.YtaapcfflnklpjaaGreatDoor
open Go Go.RowKit Go.Lib

/-- a comma and a space -/
def sepL : List UInt8 := [44, 32]
theorem index_room : ∀ (l : List UInt8) (k : Nat), Lib.index l sepL = (k : Int) → k + 2 ≤ l.length ∧ l = l.take k ++ 44 :: 32 :: l.drop (k + 2)
  | [], k, h => by
    have : Lib.index [] sepL = -1 := rfl
    rw [this] at h; omega
  | b :: l, k, h => by
    unfold Lib.index at h
    split at h
    · rename_i hp
      obtain rfl : k = 0 := by omega
      obtain ⟨t, ht⟩ := List.isPrefixOf_iff_prefix.1 hp
      rw [← ht]
      exact ⟨by simp [sepL], rfl⟩
    · split at h
      · omega
      · rename_i h1
        have hge := Lib.index_ge l sepL
        have hne : Lib.index l sepL ≠ -1 := by simpa using h1
        obtain ⟨j, rfl⟩ : ∃ j, k = j + 1 := ⟨k - 1, by omega⟩
        obtain ⟨i1, i2⟩ := index_room l j (by omega)
        refine ⟨by simp only [List.length_cons]; omega, ?_⟩
        rw [List.take_succ_cons, show j + 1 + 2 = (j + 2) + 1 by omega, List.drop_succ_cons, List.cons_append, ← i2]
/-- the pieces between the separators -/
def splitF : Nat → List UInt8 → List (List UInt8)
  | 0, l => [l]
  | f + 1, l => if Lib.index l sepL < 0 then [l] else l.take (Lib.index l sepL).toNat :: splitF f (l.drop ((Lib.index l sepL).toNat + 2))
def splitL (l : List UInt8) : List (List UInt8) := splitF l.length l
theorem splitF_no {f : Nat} {l : List UInt8} (h : Lib.index l sepL < 0) : splitF f l = [l] := by
  cases f with
  | zero => rfl
  | succ f => unfold splitF; rw [if_pos h]
theorem splitF_yes {f k : Nat} {l : List UInt8} (h : Lib.index l sepL = (k : Int)) : splitF (f + 1) l = l.take k :: splitF f (l.drop (k + 2)) := by
  conv => lhs; unfold splitF
  rw [if_neg (by omega), h, Int.toNat_natCast]
theorem splitF_fuel : ∀ (f g : Nat) (l : List UInt8), l.length ≤ f → l.length ≤ g → splitF f l = splitF g l
  | 0, g, l, h, _ => by
    obtain rfl : l = [] := List.eq_nil_of_length_eq_zero (by omega)
    rw [splitF_no (f := g) (l := []) (by decide)]; rfl
  | f + 1, 0, l, _, h => by
    obtain rfl : l = [] := List.eq_nil_of_length_eq_zero (by omega)
    rw [splitF_no (f := f + 1) (l := []) (by decide)]; rfl
  | f + 1, g + 1, l, h1, h2 => by
    by_cases h : Lib.index l sepL < 0
    · rw [splitF_no h, splitF_no h]
    · obtain ⟨k, hk⟩ : ∃ k : Nat, Lib.index l sepL = (k : Int) := ⟨(Lib.index l sepL).toNat, by omega⟩
      obtain ⟨r1, _⟩ := index_room l k hk
      rw [splitF_yes hk, splitF_yes hk, splitF_fuel f g _ (by rw [List.length_drop]; omega) (by rw [List.length_drop]; omega)]
theorem splitL_no {l : List UInt8} (h : Lib.index l sepL < 0) : splitL l = [l] := splitF_no h
theorem splitL_yes {k : Nat} {l : List UInt8} (h : Lib.index l sepL = (k : Int)) : splitL l = l.take k :: splitL (l.drop (k + 2)) := by
  obtain ⟨r1, _⟩ := index_room l k h
  unfold splitL
  obtain ⟨m, hm⟩ : ∃ m, l.length = m + 1 := ⟨l.length - 1, by omega⟩
  rw [hm, splitF_yes h]
  congr 1
  exact splitF_fuel _ _ _ (by rw [List.length_drop]; omega) (by omega)
/-- the first and the last number of a group -/
def endsL (x : List UInt8) : Option (Int × Int) := match endL (Lib.cut x [45]).1 with
  | none => none
  | some a => match endL (if (Lib.cut x [45]).2.2 = true then (Lib.cut x [45]).2.1 else (Lib.cut x [45]).1) with
    | none => none
    | some b => some (a, b)
/-- the numbers from a to b -/
def uptoL (a : Nat) : Nat → List Nat
  | 0 => []
  | k + 1 => uptoL a k ++ [a + k]
/-- one group more -/
def gstep (st : List Nat × Nat) (x : List UInt8) : Option (List Nat × Nat) := match endsL x with
  | none => none
  | some (a, b) => if (st.2 : Int) ≤ a ∧ a ≤ b ∧ b ≤ 999 then some (st.1 ++ uptoL a.toNat (b.toNat + 1 - a.toNat), b.toNat + 1) else none
def gfold : Option (List Nat × Nat) → List (List UInt8) → Option (List Nat × Nat)
  | st, [] => st
  | none, _ :: _ => none
  | some st, x :: l => gfold (gstep st x) l
theorem gfold_none : ∀ l, gfold none l = none
  | [] => rfl
  | _ :: _ => rfl
theorem gfold_app : ∀ (l m : List (List UInt8)) (st), gfold st (l ++ m) = gfold (gfold st l) m
  | [], _, _ => rfl
  | x :: l, m, none => by rw [gfold_none, gfold_none, gfold_none]
  | x :: l, m, some st => by
    rw [List.cons_append]
    show gfold (gstep st x) (l ++ m) = gfold (gfold (gstep st x) l) m
    exact gfold_app l m _
theorem gfold_snoc (l : List (List UInt8)) (x : List UInt8) (st st') (h : gfold st l = some st') : gfold st (l ++ [x]) = gstep st' x := by
  rw [gfold_app, h]
  show gfold (gstep st' x) [] = _
  cases gstep st' x <;> rfl
/-- all numbers of a text's groups, one by one -/
def numsL (l : List UInt8) : Option (List Nat) := if l = [] then some [] else (gfold (some ([], 1)) (splitL l)).map (·.1)
end Go.Proofs.YtaapcfflnklpjaaGreatDoor

/- strings.SplitSeq. -/
namespace Go.Proofs.YtaapcfflnklpjaaGreatDoor
open Go Go.RowKit Go.Lib Go.Shelf
attribute [local go_sem] Oper.semAt_some

/-- a piece -/
abbrev Piece := { x : ByteArray // x.size ≤ 5000 }
def encP (x : Piece) : Array Value := #[.string x.1]
def lst (xs : List Piece) : List (List UInt8) := xs.map fun x => x.1.data.toList
/-- the library's variable is there -/
def Big (A : World) : Prop := ∃ m : Int, A.cell? ⟨2, 0, none⟩ = some (.int .i64 m)
theorem sindex_any (s : ByteArray) (W : World) (hs : s.size ≤ 5000) (hb : Big W) (r : Int) (hr : Lib.index s.data.toList sepL = r) :
    Calls Tryz.prog 88 #[.string s, .string ⟨#[44, 32]⟩] W fun e w' => e = .returned (.int .i64 r) ∧ w' = W := by
  obtain ⟨m, hm⟩ := hb
  refine (Tryz.strings_Index s ⟨#[44, 32]⟩ m W (by omega) hm).mono ?_
  rintro e w' ⟨rfl, rfl⟩
  exact ⟨by rw [← hr]; rfl, rfl⟩
def strAt (b : Nat) (w : World) : Nat := match w.cell? ⟨b, 0, none⟩ with
  | some (.string r) => r.size
  | _ => 0
theorem strAt_eq {w : World} {b : Nat} {r : ByteArray} (h : w.cell? ⟨b, 0, none⟩ = some (.string r)) : strAt b w = r.size := by unfold strAt; rw [h]
theorem Box.lie {lo hi b : Nat} {A B : World} {vs : Array Value} {t : TypeId} (h : Box A b vs t) (hl : Lie lo hi A B) (h1 : lo ≤ b) (h2 : b < hi) : Box B b vs t := (hl b h1 h2).trans h
end Go.Proofs.YtaapcfflnklpjaaGreatDoor

/- Rows of ints of the call's own: append, make. -/
namespace Go.Proofs.YtaapcfflnklpjaaGreatDoor
open Go Go.RowKit

/-- every cell is an int -/
def AllI (cs : Array Value) : Prop := ∀ (j : Nat) (v : Value), cs[j]? = some v → ∃ x : Int, v = .int .i64 x
/-- a row of the call's own: nil, or the head of a block of slices, from base on -/
def IR (w : World) (base : Nat) (A : Option Addr) (n c : Nat) (us : List Nat) : Prop :=
  us.length = n ∧ ((A = none ∧ n = 0 ∧ c = 0) ∨ ∃ g cur, A = some ⟨g, 0, none⟩ ∧ base ≤ g ∧ w.heap[g]? = some (.cells cur 3 (0, 0)) ∧ n ≤ c ∧ c ≤ maxLen ∧ cur.size = c ∧ AllI cur ∧
    ∀ (j u : Nat), us[j]? = some u → cur[j]? = some (.int .i64 (u : Int)))
section
variable {w w' : World} {base n c : Nat} {A : Option Addr} {us : List Nat}
theorem IR.nil_ : IR w base none 0 0 [] := ⟨rfl, .inl ⟨rfl, rfl, rfl⟩⟩
theorem IR.len (h : IR w base A n c us) : us.length = n := h.1
theorem IR.le (h : IR w base A n c us) : n ≤ c ∧ c ≤ maxLen := by
  rcases h.2 with ⟨_, h1, h2⟩ | ⟨g, cur, _, _, _, h1, h2, _⟩
  · subst h1; subst h2; exact ⟨Nat.le_refl _, by simp [maxLen]⟩
  · exact ⟨h1, h2⟩
theorem IR.lt (h : IR w base A n c us) : ∀ b o, A = some ⟨b, o, none⟩ → base ≤ b ∧ b < w.heap.size := by
  intro b o e
  rcases h.2 with ⟨h0, _⟩ | ⟨g, cur, h0, hb, hg, _⟩
  · rw [h0] at e; cases e
  · rw [h0] at e; injection e with e; injection e with e1 e2
    subst e1
    exact ⟨hb, (Array.getElem?_eq_some_iff.1 hg).1⟩
theorem IR.rl (h : IR w base A n c us) : RL w .i64 A n us := by
  refine ⟨h.1, fun hn => ?_⟩
  rcases h.2 with ⟨_, h1, _⟩ | ⟨g, cur, h0, hb, hg, _, _, _, _, hu⟩
  · omega
  · refine ⟨g, 0, h0, fun j u hj => ?_⟩
    rw [Nat.zero_add, cell_of_row w g j cur _ (0, 0) hg]
    exact hu j u hj
theorem IR.grow {B : Nat} (h : IR w base A n c us) (hB : ∀ b o, A = some ⟨b, o, none⟩ → b < B) (hg : Grow B w w') : IR w' base A n c us := by
  refine ⟨h.1, ?_⟩
  rcases h.2 with h0 | ⟨g, cur, e, hb, hgg, h1, h2, h3, h4, hu⟩
  · exact .inl h0
  · exact .inr ⟨g, cur, e, hb, (hg.1.block g (hB g 0 e)).trans hgg, h1, h2, h3, h4, hu⟩
theorem IR.far (h : IR w base A n c us) {k i : Nat} (hne : ∀ b o, A = some ⟨b, o, none⟩ → b ≠ k) (v : Value) : IR (w.setCell ⟨k, i, none⟩ v) base A n c us := by
  refine ⟨h.1, ?_⟩
  rcases h.2 with h0 | ⟨g, cur, e, hb, hgg, h1, h2, h3, h4, hu⟩
  · exact .inl h0
  · exact .inr ⟨g, cur, e, hb, (Below.heap_setCell w ⟨k, i, none⟩ v g (hne g 0 e)).trans hgg, h1, h2, h3, h4, hu⟩
theorem IR.below (h : IR w base A n c us) (hb : Below w.heap.size w w') : IR w' base A n c us := h.grow (fun b o e => (h.lt b o e).2) (Grow.of hb (Nat.le_refl _))
theorem IR.low (h : IR w base A n c us) {b' : Nat} (hb : b' ≤ base) : IR w b' A n c us := by
  refine ⟨h.1, ?_⟩
  rcases h.2 with h0 | ⟨g, cur, e, hb2, r⟩
  · exact .inl h0
  · exact .inr ⟨g, cur, e, by omega, r⟩
end
theorem rl_farI {w : World} {S : Option Addr} {m g : Nat} {xs : List Nat} {cur : Array Value} {t : TypeId} {fr : Nat × Nat} (h : RL w .u32 S m xs) (hg : w.heap[g]? = some (.cells cur t fr)) (hs : AllI cur) : Sp S m g := by
  intro hn b o e
  rintro rfl
  subst e
  obtain ⟨x, _, hc⟩ := h.cell hn
  rw [cell_of_row w b _ _ t fr hg] at hc
  obtain ⟨y, e2⟩ := hs _ _ hc
  injection e2 with e3 _
  cases e3
/-- what has grown: nothing below a bound has turned, words read as before, boxes other than the row's block stay -/
def GrowI (B : Nat) (A : Option Addr) (w w' : World) : Prop := Below B w w' ∧ w.heap.size ≤ w'.heap.size ∧ (∀ A n xs, RL w .u32 A n xs → RL w' .u32 A n xs) ∧ ∀ h vs t, Box w h vs t → (∀ b o, A = some ⟨b, o, none⟩ → b ≠ h) → Box w' h vs t
theorem GrowI.of {w w' : World} (h : Below w.heap.size w w') {B : Nat} (hB : B ≤ w.heap.size) {A : Option Addr} : GrowI B A w w' := ⟨h.mono hB, h.size, fun _ _ _ hc => hc.below h, fun _ _ _ hb _ => hb.below' h⟩
theorem AllI.app {a b : Array Value} (ha : AllI a) (hb : AllI b) : AllI (a ++ b) := by
  intro j v e
  rw [Array.getElem?_append] at e
  split at e
  · exact ha _ _ e
  · exact hb _ _ e
theorem AllI.one (x : Int) : AllI [Value.int .i64 x].toArray := by
  intro j v e
  rcases j with _ | j
  · simp at e; exact ⟨x, e.symm⟩
  · simp at e
theorem AllI.take_ {cur : Array Value} (h : AllI cur) (n : Nat) : AllI (cur.toList.take n).toArray := by
  intro j v e
  rw [List.getElem?_toArray, List.getElem?_take] at e
  split at e
  · exact h j v (by simpa using e)
  · cases e
theorem AllI.drop_ {cur : Array Value} (h : AllI cur) (n : Nat) : AllI (cur.toList.drop n).toArray := by
  intro j v e
  rw [List.getElem?_toArray, List.getElem?_drop] at e
  exact h (n + j) v (by simpa using e)
theorem AllI.zeros (n : Nat) : AllI (Builtin.zeroCells (Value.int .i64 0).cells n) := by
  intro j v e
  have ec : (Value.int IntKind.i64 0).cells = #[Value.int .i64 0] := rfl
  rw [ec] at e
  unfold Builtin.zeroCells at e
  rw [Array.getElem?_map] at e
  obtain ⟨i, -, e2⟩ := Option.map_eq_some_iff.1 e
  have e3 : (#[Value.int IntKind.i64 0] : Array Value).size = 1 := rfl
  rw [e3, Nat.mod_one] at e2
  exact ⟨0, e2.symm⟩
theorem elems_appI {us : List Nat} {xs : List Value} {n u : Nat} (hl : us.length = n) (hx : xs.length = n) (h : ∀ (j u' : Nat), us[j]? = some u' → xs[j]? = some (Value.int .i64 (u' : Int))) (rest : List Value) :
    ∀ (j u' : Nat), (us ++ [u])[j]? = some u' → (xs ++ Value.int .i64 (u : Int) :: rest)[j]? = some (Value.int .i64 (u' : Int)) := by
  intro j u' e
  rcases Nat.lt_or_ge j n with hj | hj
  · rw [List.getElem?_append_left (by omega)] at e
    rw [List.getElem?_append_left (by omega)]
    exact h j u' e
  · rw [List.getElem?_append_right (by omega), hl] at e
    rw [List.getElem?_append_right (by omega), hx]
    rcases hk : j - n with _ | k
    · rw [hk] at e
      simp at e
      subst e
      rfl
    · rw [hk] at e
      simp at e
/-- 'append(s, x)': s the call's own row of naturals, x a natural in a cell. -/
theorem run_append_ir {P : Program} (w : World) (t ty : TypeId) (bytes : Nat) (ht : P.underlying t = some (.slice 3))
    (h2 : (P.info? 3).map (fun i => (i.zero, i.size, i.bytes)) = some (some (.int .i64 0), 1, bytes))
    {base n c : Nat} {A : Option Addr} {us : List Nat} (h : IR w base A n c us) (b o cc : Nat) {u : Nat} (hx : w.cell? ⟨b, o, none⟩ = some (.int .i64 (u : Int))) (hby : bytes ≤ 24) (hN : n + 1 ≤ 100000) (hbase : base ≤ w.heap.size) :
    ∃ A' c' w', (Builtin.append_ #[t, t] ty #[.slice A n c, .slice (some ⟨b, o, none⟩) 1 cc]).run P w = .ok (.slice A' (n + 1) c') w' ∧ IR w' base A' (n + 1) c' (us ++ [u]) ∧ GrowI base A w w' := by
  obtain ⟨i, hi, hz, hs, hb⟩ := info_parts h2
  have hml : (100000 : Nat) ≤ maxLen := by simp [maxLen]
  have hnews : ∀ j v, ([.int .i64 (u : Int)] : List Value)[j]? = some v → w.cell? ((⟨b, o, none⟩ : Addr).add j) = some v := by
    intro j v e
    rcases j with _ | j
    · simp at e; subst e
      have h0 : (⟨b, o, none⟩ : Addr).add 0 = ⟨b, o, none⟩ := by unfold Addr.add; split <;> simp_all
      rw [h0]; exact hx
    · simp at e
  have new : ∀ (xs rest : List Value) (cap : Nat), xs.length = n → AllI xs.toArray → AllI rest.toArray → (xs ++ Value.int .i64 (u : Int) :: rest).length = cap → n + 1 ≤ cap → cap ≤ maxLen → (∀ (j u' : Nat), us[j]? = some u' → xs[j]? = some (Value.int .i64 (u' : Int))) →
      IR (w.drew.alloc (.cells (xs ++ Value.int .i64 (u : Int) :: rest).toArray 3)) base (some ⟨w.heap.size, 0, none⟩) (n + 1) cap (us ++ [u]) ∧ GrowI base A w (w.drew.alloc (.cells (xs ++ Value.int .i64 (u : Int) :: rest).toArray 3)) := by
    intro xs rest cap h1 h2 h3 h4 h5 h6 h7
    have hB : Below w.heap.size w (w.drew.alloc (.cells (xs ++ Value.int .i64 (u : Int) :: rest).toArray 3)) := (Below.refl _ _).drew.alloc (Nat.le_refl _) _
    have hall : AllI (xs ++ Value.int .i64 (u : Int) :: rest).toArray := by
      have := (h2.app (AllI.one (u : Int))).app h3
      simpa using this
    refine ⟨⟨by simp [h.1], .inr ⟨w.heap.size, _, rfl, hbase, heap_alloc_new w.drew _, h5, h6, by simpa using h4, hall, fun j u' hj => ?_⟩⟩, GrowI.of hB hbase⟩
    rw [List.getElem?_toArray]
    exact elems_appI h.1 h1 h7 rest j u' hj
  rcases h.2 with ⟨rfl, rfl, rfl⟩ | ⟨g, cur, rfl, hbg, hg, hnc, hcm, hcs, hall, hu⟩
  · have hus : us = [] := List.eq_nil_of_length_eq_zero h.1
    subst hus
    have hr := run_append_nil (P := P) w t ty _ i _ ht hi hz ⟨b, o, none⟩ 1 cc [.int .i64 (u : Int)] (by rw [hs]; rfl) hnews (by omega) (by omega) (by rw [hb]; omega)
    have hge := grownCap_ge w 1 0 3
    have hle := grownCap_le_maxLen w 1 0 3 (by omega)
    obtain ⟨k1, k2⟩ := new [] (Builtin.zeroCells (Value.int .i64 0).cells (grownCap w 1 0 3 - 1)).toList (grownCap w 1 0 3) rfl (fun j v e => by simp at e) (by simpa using AllI.zeros _) (by simp [size_zeroCells, Value.cells]; omega) hge hle (fun j u' e => by simp at e)
    have e0 : (([] : List Value) ++ Value.int .i64 (u : Int) :: (Builtin.zeroCells (Value.int .i64 0).cells (grownCap w 1 0 3 - 1)).toList).toArray = [Value.int .i64 (u : Int)].toArray ++ Builtin.zeroCells (Value.int .i64 0).cells (grownCap w 1 0 3 - 1) := by
      apply Array.ext'
      simp
    rw [e0] at k1 k2
    exact ⟨_, _, _, hr, k1, k2⟩
  · have hcl : cur.toList.length = c := by rw [Array.length_toList, hcs]
    have htl : (cur.toList.take n).length = n := by rw [List.length_take]; omega
    have hxs : ∀ (j u' : Nat), us[j]? = some u' → (cur.toList.take n)[j]? = some (Value.int .i64 (u' : Int)) := by
      intro j u' e
      have e1 := hu j u' e
      have hj : j < n := by rw [← h.1]; exact (List.getElem?_eq_some_iff.1 e).1
      rw [List.getElem?_take_of_lt hj]; simpa using e1
    by_cases hroom : n + 1 ≤ c
    · have hr := run_append_room (P := P) w t ty _ i ht hi g n c cur hg ⟨b, o, none⟩ 1 cc [.int .i64 (u : Int)] (by rw [hs]; rfl) hnews (by intro v hv; simp at hv; subst hv; rfl) hroom (by rw [hs]; simp; omega)
      rw [hs, Nat.mul_one] at hr
      have hrest : AllI (cur.toList.drop (n + 1)).toArray := hall.drop_ _
      generalize hcs2 : (cur.toList.take n ++ [Value.int .i64 (u : Int)] ++ cur.toList.drop (n + [Value.int .i64 (u : Int)].length)).toArray = cs at hr
      have hall2 : AllI cs := by
        rw [← hcs2]
        have := ((hall.take_ n).app (AllI.one (u : Int))).app hrest
        simpa using this
      have hsz2 : cs.size = c := by rw [← hcs2]; simp; omega
      have hgr : w.grownBy (w.setRow g cs) (some g) := ⟨rfl, rfl, rfl, by simp, fun k _ hk => setRow_other w g k _ (fun e => hk (by rw [e]))⟩
      have hkeep : ∀ A n xs, RL w .u32 A n xs → RL (w.setRow g cs) .u32 A n xs := fun _ _ _ hq => hq.grown hgr (rl_farI hq hg hall)
      have hbox : ∀ h vs t, Box w h vs t → (∀ b o, (some ⟨g, 0, none⟩ : Option Addr) = some ⟨b, o, none⟩ → b ≠ h) → Box (w.setRow g cs) h vs t := fun h vs t hb hne => (hgr.block h hb.lt (by simpa using fun e => hne g 0 rfl e.symm)).trans hb
      refine ⟨_, _, _, hr, ⟨by simp [h.1], .inr ⟨g, cs, rfl, hbg, setRow_heap w g cur cs _ (0, 0) hg, hroom, hcm, hsz2, hall2, fun j u' hj => ?_⟩⟩, ⟨⟨rfl, rfl, rfl, by simp, fun k hk => setRow_other w g k _ (by omega)⟩, by simp, hkeep, hbox⟩⟩
      have e := elems_appI h.1 htl hxs (cur.toList.drop (n + 1)) j u' hj
      rw [← hcs2, List.getElem?_toArray, List.append_assoc]
      exact e
    · have hholds : ∀ j v, (cur.toList.take n)[j]? = some v → w.cell? ((⟨g, 0, none⟩ : Addr).add j) = some v := by
        intro j v e
        have hadd : (⟨g, 0, none⟩ : Addr).add j = ⟨g, j, none⟩ := by unfold Addr.add; split <;> simp_all
        rw [hadd, cell_of_row w g j cur _ (0, 0) hg]
        rw [List.getElem?_take] at e
        split at e
        · simpa using e
        · cases e
      have hr := run_append_grow (P := P) w t ty _ i _ ht hi hz ⟨g, 0, none⟩ n c (cur.toList.take n) (by rw [hs, htl, Nat.mul_one]) hholds ⟨b, o, none⟩ 1 cc [.int .i64 (u : Int)] (by rw [hs]; rfl) hnews (by omega) (by omega) (growslice_fits (by omega) (by rw [hb]; have : (n + 1) * bytes ≤ 100000 * 24 := Nat.mul_le_mul hN hby; omega))
      have hge := grownCap_ge w (n + 1) c 3
      have hle := grownCap_le_maxLen w (n + 1) c 3 (by omega)
      obtain ⟨k1, k2⟩ := new (cur.toList.take n) (Builtin.zeroCells (Value.int .i64 0).cells (grownCap w (n + 1) c 3 - (n + 1))).toList (grownCap w (n + 1) c 3) htl (hall.take_ n) (by simpa using AllI.zeros _) (by simp only [List.length_append, htl, List.length_cons, Array.length_toList, size_zeroCells]; simp [Value.cells]; omega) hge hle hxs
      have e0 : (cur.toList.take n ++ Value.int .i64 (u : Int) :: (Builtin.zeroCells (Value.int .i64 0).cells (grownCap w (n + 1) c 3 - (n + 1))).toList).toArray = (cur.toList.take n).toArray ++ [Value.int .i64 (u : Int)].toArray ++ Builtin.zeroCells (Value.int .i64 0).cells (grownCap w (n + 1) c 3 - (n + 1)) := by
        apply Array.ext'
        simp
      rw [e0] at k1 k2
      exact ⟨_, _, _, hr, k1, k2⟩
section
variable {P : Program} {w : World} {ops : Array Oper} {rest : List Oper} {o : Oper} {a : Act} {Q : Exit → Act → World → Prop}
theorem wp_append_ir {K : Act → World → Prop} (s x : Operand) (t : TypeId)
    (ho : o.op = .call { callee := .builtin .append, args := #[s, x], argTypes := #[t, t] }) (bytes : Nat) (ht : P.underlying t = some (.slice 3))
    (h2 : (P.info? 3).map (fun i => (i.zero, i.size, i.bytes)) = some (some (.int .i64 0), 1, bytes))
    (base : Nat) (A : Option Addr) (n c : Nat) (us : List Nat) (hs : a.eval s = .slice A n c) (h : IR w base A n c us) (b b2 cc : Nat) (u : Nat) (hxe : a.eval x = .slice (some ⟨b, b2, none⟩) 1 cc) (hx : w.cell? ⟨b, b2, none⟩ = some (.int .i64 (u : Int))) (hby : bytes ≤ 24) (p : Nat) (hp : p = n + 1) (hN : p ≤ 100000) (hbase : base ≤ w.heap.size)
    (hK : ∀ A' c' w', IR w' base A' p c' (us ++ [u]) → GrowI base A w w' → K (a.put o.dst (.slice A' p c')) w') : o.wp P a w K Q := by
  subst hp
  obtain ⟨A', c', w', hrun, h3, h4⟩ := run_append_ir (P := P) w t o.type bytes ht h2 h b b2 cc hx hby hN hbase
  unfold Oper.wp execOp
  simp only [ho, resolve, invoke, builtin, Sem.run_bind, Sem.run_pure, Result.andThen_ok, List.map_toArray, List.map_cons, List.map_nil, hs, hxe, hrun]
  exact hK _ _ _ h3 h4
theorem wpList_append_ir (hgd : o.guard = none) (s x : Operand) (t : TypeId)
    (ho : o.op = .call { callee := .builtin .append, args := #[s, x], argTypes := #[t, t] }) (bytes : Nat) (ht : P.underlying t = some (.slice 3))
    (h2 : (P.info? 3).map (fun i => (i.zero, i.size, i.bytes)) = some (some (.int .i64 0), 1, bytes))
    (base : Nat) (A : Option Addr) (n c : Nat) (us : List Nat) (hs : a.eval s = .slice A n c) (h : IR w base A n c us) (b b2 cc : Nat) (u : Nat) (hxe : a.eval x = .slice (some ⟨b, b2, none⟩) 1 cc) (hx : w.cell? ⟨b, b2, none⟩ = some (.int .i64 (u : Int))) (hby : bytes ≤ 24) (p : Nat) (hp : p = n + 1) (hN : p ≤ 100000) (hbase : base ≤ w.heap.size)
    (hK : ∀ A' c' w', IR w' base A' p c' (us ++ [u]) → GrowI base A w w' → wpList P ops Q rest (a.put o.dst (.slice A' p c')) w') : wpList P ops Q (o :: rest) a w :=
  wpList_plain hgd fun _ hk => wp_append_ir s x t ho bytes ht h2 base A n c us hs h b b2 cc u hxe hx hby p hp hN hbase fun A' c' w' h3 h4 => hk _ _ (hK A' c' w' h3 h4)
theorem step_append_ir {K : Act → World → Prop} {E : Prop} (hgd : o.guard = none) (s x : Operand) (t : TypeId)
    (ho : o.op = .call { callee := .builtin .append, args := #[s, x], argTypes := #[t, t] }) (bytes : Nat) (ht : P.underlying t = some (.slice 3))
    (h2 : (P.info? 3).map (fun i => (i.zero, i.size, i.bytes)) = some (some (.int .i64 0), 1, bytes))
    (base : Nat) (A : Option Addr) (n c : Nat) (us : List Nat) (hs : a.eval s = .slice A n c) (h : IR w base A n c us) (b b2 cc : Nat) (u : Nat) (hxe : a.eval x = .slice (some ⟨b, b2, none⟩) 1 cc) (hx : w.cell? ⟨b, b2, none⟩ = some (.int .i64 (u : Int))) (hby : bytes ≤ 24) (p : Nat) (hp : p = n + 1) (hN : p ≤ 100000) (hbase : base ≤ w.heap.size)
    (hK : ∀ A' c' w', IR w' base A' p c' (us ++ [u]) → GrowI base A w w' → K (a.put o.dst (.slice A' p c')) w') :
    if Region.wanted o (yielded ops a.tmps) = true then Oper.wp P o a w K Q else E := by
  have hw : Region.wanted o (yielded ops a.tmps) = true := by simp [Region.wanted, hgd]
  rw [if_pos hw]
  exact wp_append_ir s x t ho bytes ht h2 base A n c us hs h b b2 cc u hxe hx hby p hp hN hbase hK
end

theorem madeI (w : World) (n base : Nat) (hb : base ≤ w.heap.size) (hn : n ≤ maxLen) : IR (w.alloc (.cells (madeCells #[.int .i64 0] n) 3)) base (some ⟨w.heap.size, 0, none⟩) 0 n [] := by
  refine ⟨rfl, .inr ⟨w.heap.size, _, rfl, hb, heap_alloc_new w _, Nat.zero_le _, hn, size_madeCells _ _, ?_, fun j u h => by simp at h⟩⟩
  intro j v e
  unfold madeCells at e
  rw [Array.getElem?_map] at e
  obtain ⟨i, -, e2⟩ := Option.map_eq_some_iff.1 e
  have e3 : (#[Value.int IntKind.i64 0] : Array Value).size = 1 := rfl
  rw [e3, Nat.mod_one] at e2
  exact ⟨0, e2.symm⟩
/-- 'make([]int, 0, n)' -/
theorem wpList_make_ir {P : Program} (w : World) {ops : Array Oper} {rest : List Oper} {o : Oper} {a : Act} {Q : Exit → Act → World → Prop}
    (hg : o.guard = none) (l c : Operand) (t : TypeId) (hop : o.op = Op.makeSlice t l c)
    (bytes : Nat) (h1 : P.underlying t = some (.slice 3)) (h2 : (P.info? 3).map (fun i => (i.zero, i.size, i.bytes)) = some (some (.int .i64 0), 1, bytes))
    (kl kc : IntKind) (C : Int) (n : Nat) (hl : a.eval l = .int kl 0) (hc : a.eval c = .int kc C) (hC : C = (n : Int)) (hby : bytes ≤ 24) (hn : n ≤ 100000)
    (hK : ∀ (g : Nat) (w' : World), w.heap.size ≤ g → IR w' w.heap.size (some ⟨g, 0, none⟩) 0 n [] → Below w.heap.size w w' → wpList P ops Q rest (a.put o.dst (.slice (some ⟨g, 0, none⟩) 0 n)) w') :
    wpList P ops Q (o :: rest) a w := by
  refine wpList_plain hg fun K hK' => ?_
  obtain ⟨i, hi, hz, hs, hb⟩ := info_parts h2
  have hbb : (i.bytes : Int) * (n : Int) ≤ 281474976710656 := by
    have h : i.bytes * n ≤ 24 * 100000 := Nat.mul_le_mul (by omega) hn
    have h' : ((i.bytes * n : Nat) : Int) ≤ 281474976710656 := by omega
    rwa [Int.natCast_mul] at h'
  have hr := run_make (P := P) w t _ i _ h1 hi hz kl kc 0 (n : Int) (by omega) (by omega) hbb (by omega)
  simp only [Int.toNat_natCast, hs, Nat.mul_one] at hr
  have ec : (Value.int IntKind.i64 0).cells = #[Value.int .i64 0] := rfl
  rw [ec] at hr
  subst hC
  unfold Oper.wp
  simp [execOp, hop, hl, hc, hr, Result.andThen]
  exact hK' _ _ (hK _ _ (Nat.le_refl _) (madeI w n _ (Nat.le_refl _) (by unfold maxLen; omega)) ((Below.refl _ _).alloc (Nat.le_refl _) _))
theorem int_info : (Tryz.prog.info? 3).map (fun i => (i.zero, i.size, i.bytes)) = some (some (.int .i64 0), 1, 8) := by kernel_rfl
theorem IR.lie {w w' : World} {base n c : Nat} {A : Option Addr} {us : List Nat} (h : IR w base A n c us) (hl : ∀ g, base ≤ g → w'.heap[g]? = w.heap[g]?) : IR w' base A n c us := by
  refine ⟨h.1, ?_⟩
  rcases h.2 with h0 | ⟨g, cur, e, hb, hgg, h1, h2, h3, h4, hu⟩
  · exact .inl h0
  · exact .inr ⟨g, cur, e, hb, (hl g hb).trans hgg, h1, h2, h3, h4, hu⟩
section
variable {P : Program} {w : World} {ops : Array Oper} {rest : List Oper} {o : Oper} {a : Act} {Q : Exit → Act → World → Prop} {F : Fence} {m : Nat}
/-- the same in a round -/
theorem wpListIn_append_ir (hgd : o.guard = none) (s x : Operand) (t : TypeId)
    (ho : o.op = .call { callee := .builtin .append, args := #[s, x], argTypes := #[t, t] }) (bytes : Nat) (ht : P.underlying t = some (.slice 3))
    (h2 : (P.info? 3).map (fun i => (i.zero, i.size, i.bytes)) = some (some (.int .i64 0), 1, bytes))
    (base : Nat) (A : Option Addr) (n c : Nat) (us : List Nat) (hs : a.eval s = .slice A n c) (h : IR w base A n c us) (b b2 cc : Nat) (u : Nat) (hxe : a.eval x = .slice (some ⟨b, b2, none⟩) 1 cc) (hx : w.cell? ⟨b, b2, none⟩ = some (.int .i64 (u : Int))) (hby : bytes ≤ 24) (p : Nat) (hp : p = n + 1) (hN : p ≤ 100000) (hbase : base ≤ w.heap.size)
    (hK : ∀ A' c' w', IR w' base A' p c' (us ++ [u]) → GrowI base A w w' → wpListIn F m P ops Q rest (a.put o.dst (.slice A' p c')) w') : wpListIn F m P ops Q (o :: rest) a w := by
  subst hp
  obtain ⟨A', c', w', hrun, h3, h4⟩ := run_append_ir (P := P) w t o.type bytes ht h2 h b b2 cc hx hby hN hbase
  refine wpListIn_plain hgd fun K hK' => ?_
  unfold Oper.wpIn
  refine ⟨?_, ?_⟩
  · simp [Oper.about, ho, resolve, Target.leads, Sem.run_pure]
  · rw [Oper.semAt_plain F _ _ (by rw [ho]; intro d hd; cases hd)]
    simp only [execOp, ho, resolve, invoke, builtin, Sem.run_bind, Sem.run_pure, Result.andThen_ok, List.map_toArray, List.map_cons, List.map_nil, hs, hxe, hrun]
    exact hK' _ _ (hK _ _ _ h3 h4)
end
end Go.Proofs.YtaapcfflnklpjaaGreatDoor
