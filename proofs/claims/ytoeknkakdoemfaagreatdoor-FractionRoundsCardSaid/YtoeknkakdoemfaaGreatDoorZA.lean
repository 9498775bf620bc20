/- The mathematics of fractions' texts: how a text is parted, and which number it is read as. -/
import Derived.Test.YtoeknkakdoemfaaGreatDoorFRat
import Derived.Test.YtoeknkakdoemfaaGreatDoorBaseF
import Derived.Lib.IndexMore
import Derived.Lib.Strings
import Derived.Test.YtoeknkakdoemfaaGreatDoorBaseK
import Derived.Test.YtoeknkakdoemfaaGreatDoorShelf
import Derived.WalkSpells
import Derived.Test.YtoeknkakdoemfaaGreatDoorBaseI
import Derived.Test.YtoeknkakdoemfaaGreatDoorRText
import Derived.Deep.RegionHeld3
import Derived.Test.YtoeknkakdoemfaaGreatDoorRParse
namespace Go.Proofs.YtoeknkakdoemfaaGreatDoor
open Go Go.RowKit

/-- the bytes as numbers -/
def NB (l : List UInt8) : List Nat := l.map UInt8.toNat
theorem bytesOf_NB (s : ByteArray) : bytesOf s = NB s.data.toList := rfl
def BN (l : List Nat) : List UInt8 := l.map UInt8.ofNat
theorem strN_list (l : List Nat) : (strN l).data.toList = BN l := by simp [strN, BN]
theorem NB_BN {l : List Nat} (h : ∀ x ∈ l, x < 256) : NB (BN l) = l := by
  rw [← strN_list, ← bytesOf_NB]
  exact bytesOf_strN h
theorem ba_eq {s t : ByteArray} (h : s.data.toList = t.data.toList) : s = t := by
  apply ByteArray.ext
  exact Array.toList_inj.1 h
theorem ba_app (s t : ByteArray) : (s ++ t).data.toList = s.data.toList ++ t.data.toList := by
  rw [ByteArray.data_append, Array.toList_append]
def mkS (l : List UInt8) : ByteArray := ⟨l.toArray⟩
theorem mkS_list (l : List UInt8) : (mkS l).data.toList = l := by simp [mkS]
theorem mkS_size (l : List UInt8) : (mkS l).size = l.length := by simp [mkS, ByteArray.size]
theorem mkS_data (s : ByteArray) : mkS s.data.toList = s := ba_eq (mkS_list _)
theorem size_list (s : ByteArray) : s.size = s.data.toList.length := by rw [Array.length_toList]; rfl

/-! ### the parts of a text -/
def sgnL (l : List UInt8) : Bool := Lib.hasPrefix l [45]
def bodL (l : List UInt8) : List UInt8 := Lib.trimPrefix l [45]
def abv (c : UInt8) (l : List UInt8) : List UInt8 := l.takeWhile (· != c)
def blw (c : UInt8) (d l : List UInt8) : List UInt8 := match l.dropWhile (· != c) with
  | [] => d
  | _ :: m => m
def has (c : UInt8) (l : List UInt8) : Bool := l.contains c
theorem has_iff {c : UInt8} {l : List UInt8} : has c l = true ↔ c ∈ l := by simp [has]
theorem sgn_cons (l : List UInt8) : sgnL (45 :: l) = true ∧ bodL (45 :: l) = l := by
  have h : Lib.hasPrefix (45 :: l) [45] = true := by simp [Lib.hasPrefix]
  exact ⟨h, by unfold bodL Lib.trimPrefix; rw [h]; rfl⟩
theorem sgn_not {l : List UInt8} (h : l.head? ≠ some 45) : sgnL l = false ∧ bodL l = l := by
  have h : Lib.hasPrefix l [45] = false := by
    rcases l with _ | ⟨c, r⟩
    · rfl
    · simp only [List.head?_cons, ne_eq, Option.some.injEq] at h
      simp only [Lib.hasPrefix, List.isPrefixOf, Bool.and_true, beq_eq_false_iff_ne]
      exact fun e => h e.symm
  exact ⟨h, by unfold bodL Lib.trimPrefix; rw [h]; rfl⟩
theorem idx1 (c : UInt8) : ∀ (l m : List UInt8), c ∉ l → Lib.index (l ++ c :: m) [c] = l.length
  | [], m, _ => by simp [Lib.index, List.isPrefixOf]
  | b :: l, m, h => by
    have hb : c ≠ b := fun e => h (by rw [e]; exact List.mem_cons_self)
    have ih := idx1 c l m (fun e => h (List.mem_cons_of_mem _ e))
    have hn : ([c].isPrefixOf (b :: (l ++ c :: m))) = false := by simp [List.isPrefixOf, hb]
    simp only [List.cons_append, Lib.index, hn, ih]
    have : (((l.length : Nat) : Int) == -1) = false := by rw [beq_eq_false_iff_ne]; omega
    simp [this]
theorem idx0 (c : UInt8) : ∀ (l : List UInt8), c ∉ l → Lib.index l [c] = -1
  | [], _ => by simp [Lib.index]
  | b :: l, h => by
    have hb : c ≠ b := fun e => h (by rw [e]; exact List.mem_cons_self)
    have ih := idx0 c l (fun e => h (List.mem_cons_of_mem _ e))
    have hn : ([c].isPrefixOf (b :: l)) = false := by simp [List.isPrefixOf, hb]
    simp [Lib.index, hn, ih]
theorem cut1 (c : UInt8) (l m : List UInt8) (h : c ∉ l) : Lib.cut (l ++ c :: m) [c] = (l, m, true) := by
  unfold Lib.cut
  rw [idx1 c l m h, if_pos (by omega)]
  simp
theorem cut0 (c : UInt8) (l : List UInt8) (h : c ∉ l) : Lib.cut l [c] = (l, [], false) := by
  unfold Lib.cut
  rw [idx0 c l h, if_neg (by omega)]
theorem part_at (c : UInt8) : ∀ (l : List UInt8), c ∈ l → ∃ a b, l = a ++ c :: b ∧ c ∉ a
  | [], h => by simp at h
  | x :: l, h => by
    by_cases e : c = x
    · exact ⟨[], l, by rw [e]; rfl, by simp⟩
    · obtain ⟨a, b, h1, h2⟩ := part_at c l (by simpa [e] using h)
      exact ⟨x :: a, b, by rw [h1]; rfl, by simp [e, h2]⟩
theorem abv1 (c : UInt8) (d : List UInt8) : ∀ (l m : List UInt8), c ∉ l → abv c (l ++ c :: m) = l ∧ blw c d (l ++ c :: m) = m
  | [], m, _ => by simp [abv, blw]
  | b :: l, m, h => by
    have hb : (b != c) = true := by simp; exact fun e => h (by rw [e]; exact List.mem_cons_self)
    have ih := abv1 c d l m (fun e => h (List.mem_cons_of_mem _ e))
    unfold abv blw at *
    simp only [List.cons_append, List.takeWhile_cons, List.dropWhile_cons, hb, if_true]
    exact ⟨by rw [ih.1], ih.2⟩
theorem abv0 (c : UInt8) (d : List UInt8) : ∀ (l : List UInt8), c ∉ l → abv c l = l ∧ blw c d l = d
  | [], _ => ⟨rfl, rfl⟩
  | b :: l, h => by
    have hb : (b != c) = true := by simp; exact fun e => h (by rw [e]; exact List.mem_cons_self)
    have ih := abv0 c d l (fun e => h (List.mem_cons_of_mem _ e))
    unfold abv blw at *
    simp only [List.takeWhile_cons, List.dropWhile_cons, hb, if_true]
    exact ⟨by rw [ih.1], ih.2⟩
theorem abv_len (c : UInt8) (d l : List UInt8) : (abv c l).length ≤ l.length ∧ (blw c d l).length ≤ l.length + d.length := by
  by_cases h : c ∈ l
  · obtain ⟨a, b, rfl, h2⟩ := part_at c l h
    obtain ⟨e1, e2⟩ := abv1 c d a b h2
    rw [e1, e2]
    simp only [List.length_append, List.length_cons]
    omega
  · obtain ⟨e1, e2⟩ := abv0 c d l h
    rw [e1, e2]
    omega
theorem bod_len (l : List UInt8) : (bodL l).length ≤ l.length := by
  by_cases h : l.head? = some 45
  · rcases l with _ | ⟨c, r⟩
    · cases h
    · simp only [List.head?_cons, Option.some.injEq] at h
      subst h
      rw [(sgn_cons r).2]
      simp
  · rw [(sgn_not h).2]
    omega

/-! ### the number of a text -/
/-- the number that a text's parts make -/
def ratL (l : List UInt8) : Rat := qv (sgnL l) (decV (NB (abv 47 (bodL l)))) (decV (NB (blw 47 [49] (bodL l))))
def okL (l : List UInt8) : Prop := IsT (NB (abv 47 (bodL l))) ∧ IsT (NB (blw 47 [49] (bodL l)))
theorem asc_no (c : UInt8) (hc : c.toNat < 48 ∨ 57 < c.toNat) (u : Nat) : c ∉ BN (asc u) := fun h => by
  unfold BN at h
  obtain ⟨x, hx, e⟩ := List.mem_map.1 h
  have hd := asc_digits u x hx
  have : c.toNat = x := by rw [← e]; simp; omega
  omega
theorem qtext_list (r : Rat) : (qtext r).data.toList = (if decide (r.num < 0) then [45] else []) ++ (BN (asc r.num.natAbs) ++ if r.den = 1 then [] else 47 :: BN (asc r.den)) := by
  unfold qtext qbody
  split <;> split <;> simp only [ba_app, strN_list, List.nil_append, List.append_nil] <;> rfl
theorem asc_head (u : Nat) (m : List UInt8) : (BN (asc u) ++ m).head? ≠ some 45 := fun h => by
  rcases hb : BN (asc u) with _ | ⟨c, r⟩
  · have h1 := asc_pos u
    have h2 : (BN (asc u)).length = (asc u).length := by simp [BN]
    rw [hb] at h2
    simp at h2
    omega
  · rw [hb] at h
    simp only [List.cons_append, List.head?_cons, Option.some.injEq] at h
    apply asc_no 45 (by decide) u
    rw [hb, h]
    exact List.mem_cons_self
theorem text_parts (r : Rat) : sgnL (qtext r).data.toList = decide (r.num < 0) ∧ bodL (qtext r).data.toList = BN (asc r.num.natAbs) ++ (if r.den = 1 then [] else 47 :: BN (asc r.den)) := by
  rw [qtext_list]
  by_cases h : r.num < 0
  · rw [decide_eq_true h, if_pos rfl]
    exact sgn_cons _
  · rw [decide_eq_false h, if_neg (by decide), List.nil_append]
    exact sgn_not (asc_head _ _)
theorem text_ok (r : Rat) : okL (qtext r).data.toList ∧ ratL (qtext r).data.toList = r := by
  obtain ⟨h1, h2⟩ := text_parts r
  have hn := NB_BN (asc_digits r.num.natAbs).lt256
  have hd := NB_BN (asc_digits r.den).lt256
  unfold okL ratL
  rw [h1, h2]
  by_cases e : r.den = 1
  · obtain ⟨a1, a2⟩ := abv0 47 [49] (BN (asc r.num.natAbs)) (asc_no 47 (by decide) _)
    have e1 : NB [49] = asc r.den := by rw [e, asc_small (by decide)]; rfl
    rw [if_pos e, List.append_nil, a1, a2, hn, e1, decV_asc, decV_asc]
    exact ⟨⟨isT_asc _, isT_asc _⟩, qv_parts r⟩
  · obtain ⟨a1, a2⟩ := abv1 47 [49] (BN (asc r.num.natAbs)) (BN (asc r.den)) (asc_no 47 (by decide) _)
    rw [if_neg e, a1, a2, hn, hd, decV_asc, decV_asc]
    exact ⟨⟨isT_asc _, isT_asc _⟩, qv_parts r⟩
theorem text_inj {x y : Rat} (h : qtext x = qtext y) : x = y := by rw [← (text_ok x).2, ← (text_ok y).2, h]
/-- the text of 0 has no denominator -/
theorem zero_text {l : List UInt8} (h0 : decV (NB (blw 47 [49] (bodL l))) = 0) : qtext (ratL l) ≠ mkS l := fun e => by
  have hr : ratL l = 0 := by unfold ratL; rw [h0, qv_zero]
  rw [hr] at e
  have el : l = (qtext 0).data.toList := by rw [e, mkS_list]
  have h1 := text_parts 0
  rw [← el] at h1
  have hb : bodL l = BN (asc 0) := by rw [h1.2, if_pos (by rfl), List.append_nil]; rfl
  rw [hb, (abv0 47 [49] _ (asc_no 47 (by decide) 0)).2] at h0
  revert h0
  decide
theorem decV_size {l : List UInt8} (h : IsT (NB l)) {L : Nat} (hl : l.length ≤ 9 * L) : decV (NB l) < B9 ^ L := by
  have h1 := decV_lt (NB l) h.1
  have h2 : (NB l).length = l.length := by simp [NB]
  rw [h2] at h1
  rw [pow_B9]
  exact Nat.lt_of_lt_of_le h1 (Nat.pow_le_pow_right (by decide) hl)
end Go.Proofs.YtoeknkakdoemfaaGreatDoor

/- What the laws of fractions' texts ask of a world; the contracts of strings.CutPrefix, strings.Cut, canonicalText, Parse in the words of texts. -/
namespace Go.Proofs.YtoeknkakdoemfaaGreatDoor
open Go Go.RowKit

/-- the library's variables -/
structure Zw (w : World) : Prop where
  tab : Tab w
  big : ∃ m : Int, w.cell? ⟨0, 0, none⟩ = some (.int .i64 m)
theorem Zw.below {w w' : World} (h : Zw w) (hb : Below w.heap.size w w') : Zw w' := by
  obtain ⟨h1, m, h2⟩ := h
  exact ⟨h1.below hb, m, (hb.cell (p := ⟨0, 0, none⟩) (World.block_lt_of_cell? w _ h2)).trans h2⟩
theorem cutPre (s : ByteArray) (w : World) (D : ByteArray) (g : Bool) (hD : mkS (bodL s.data.toList) = D) (hg : sgnL s.data.toList = g) :
    Calls Tryz.prog 32 #[.string s, .string ⟨#[45]⟩] w fun e w' => e = .returned (.tuple #[.string D, .bool g]) ∧ w = w' := by
  subst hD
  subst hg
  refine Calls.mono (Tryz.strings_CutPrefix s ⟨#[45]⟩ w) ?_
  rintro e w' ⟨rfl, rfl⟩
  exact ⟨rfl, rfl⟩
theorem cutHas (c : UInt8) (s : ByteArray) (w : World) (hT : Zw w) (hs : s.size ≤ 5000) (h : c ∈ s.data.toList) (A B : ByteArray) (d : List UInt8) (hA : mkS (abv c s.data.toList) = A) (hB : mkS (blw c d s.data.toList) = B) :
    Calls Tryz.prog 33 #[.string s, .string ⟨#[c]⟩] w fun e w' => e = .returned (.tuple #[.string A, .string B, .bool true]) ∧ Below w.heap.size w w' := by
  obtain ⟨-, m, h2⟩ := hT
  obtain ⟨a, b, hl, hn⟩ := part_at c _ h
  have e1 : Lib.cut s.data.toList [c] = (a, b, true) := by rw [hl]; exact cut1 c a b hn
  have e2 := abv1 c d a b hn
  rw [← hl] at e2
  rw [e2.1] at hA
  rw [e2.2] at hB
  refine Calls.mono (Tryz.strings_Cut s ⟨#[c]⟩ m w (by omega) h2) ?_
  rintro e w' ⟨rfl, n, rfl⟩
  refine ⟨?_, below_drewN (Below.refl _ _) _⟩
  show Ending.returned (.tuple #[.string ⟨(Lib.cut s.data.toList [c]).1.toArray⟩, .string ⟨(Lib.cut s.data.toList [c]).2.1.toArray⟩, .bool (Lib.cut s.data.toList [c]).2.2]) = _
  rw [e1, ← hA, ← hB]
  rfl
theorem cutNot (c : UInt8) (s : ByteArray) (w : World) (hT : Zw w) (hs : s.size ≤ 5000) (h : c ∉ s.data.toList) :
    Calls Tryz.prog 33 #[.string s, .string ⟨#[c]⟩] w fun e w' => e = .returned (.tuple #[.string s, .string ⟨#[]⟩, .bool false]) ∧ Below w.heap.size w w' := by
  obtain ⟨-, m, h2⟩ := hT
  have e1 : Lib.cut s.data.toList [c] = (s.data.toList, [], false) := cut0 c _ h
  refine Calls.mono (Tryz.strings_Cut s ⟨#[c]⟩ m w (by omega) h2) ?_
  rintro e w' ⟨rfl, n, rfl⟩
  refine ⟨?_, below_drewN (Below.refl _ _) _⟩
  show Ending.returned (.tuple #[.string ⟨(Lib.cut s.data.toList [c]).1.toArray⟩, .string ⟨(Lib.cut s.data.toList [c]).2.1.toArray⟩, .bool (Lib.cut s.data.toList [c]).2.2]) = _
  rw [e1, Array.toArray_toList]
/-- canonicalText of the canonical fraction -/
theorem ctext_f {w : World} {L : Nat} {p : Bool} {A : Option Addr} {n c : Nat} {B : Option Addr} {m d : Nat} {x : Rat} (hx : Fc w p A n c B m d x) (hh : Ht x L) (hL : L ≤ 10000) (hT : Tab w) (S : ByteArray) (hS : qtext x = S) :
    Calls Tryz.prog 31 #[.agg #[.bool p, .slice A n c, .slice B m d]] w fun e w' => e = .returned (.string S) ∧ Below w.heap.size w w' := by
  obtain ⟨rfl, h1, i1⟩ := hx
  have z1 := size_le (upB hh.1 (by omega : L ≤ L + 2)) hL
  have z2 := size_le (upB hh.2 (by omega : L ≤ L + 2)) hL
  have ln := len_le h1.1.len hh.1
  have lm := len_le i1.1.len hh.2
  rw [← hS]
  by_cases h1d : x.den = 1
  · rw [h1d] at i1
    have hq : qbody x = strN (asc x.num.natAbs) := if_pos h1d
    unfold qtext
    rw [hq]
    exact canonText_whole _ A n c _ B m d _ h1 i1 (by omega) hT _ rfl z1
  · have hq : qbody x = strN (asc x.num.natAbs) ++ (strN [47] ++ strN (asc x.den)) := if_neg h1d
    unfold qtext
    rw [hq]
    exact canonText_frac _ A n c _ B m d _ h1 _ h1d i1 (by omega) (by omega) hT _ rfl z1 _ rfl z2
/-- natural.Parse of a string of at most 4000 bytes -/
theorem np_yes (s : ByteArray) (w : World) (hs : s.size ≤ 4000) (h : IsT (NB s.data.toList)) (V : Nat) (hV : decV (NB s.data.toList) = V) : Calls Tryz.prog 34 #[.string s] w (GivesNE V 0 w) := parse_ok s w hs h V hV
theorem np_no (s : ByteArray) (w : World) (hs : s.size ≤ 4000) (h : ¬ IsT (NB s.data.toList)) : Calls Tryz.prog 34 #[.string s] w (GivesNE 0 3 w) := parse_form s w hs h
theorem np_any (s : ByteArray) (hs : s.size ≤ 4000) : ∃ (V : Nat) (er : Int), ∀ w, Calls Tryz.prog 34 #[.string s] w (GivesNE V er w) := by
  by_cases h : IsT (NB s.data.toList)
  · exact ⟨_, 0, fun w => np_yes s w hs h _ rfl⟩
  · exact ⟨0, 3, fun w => np_no s w hs h⟩
end Go.Proofs.YtoeknkakdoemfaaGreatDoor

/- fraction.Parse: the walks, under the contracts of what it calls. -/
namespace Go.Proofs.YtoeknkakdoemfaaGreatDoor
open Go Go.RowKit

theorem frMk' {w : World} {L : Nat} {p : Bool} {A : Option Addr} {n c u : Nat} {B : Option Addr} {m d v : Nat} {x : Rat} (h1 : Nt w L A n c u) (h2 : Nt w L B m d v) (h3 : qv p u v = x) : Fr w L p A n c B m d x := ⟨u, v, h1, h2, h3⟩
theorem qv_ht {p : Bool} {u v L : Nat} {r : Rat} (hu : u < B9 ^ L) (hv : v < B9 ^ L) (hr : qv p u v = r) : Ht r (L + 1) := by
  subst hr
  have h := qv_le p u v
  have h4 : 1 ≤ B9 ^ L := Nat.pow_pos (by decide)
  have h3 : B9 ^ L * 2 ≤ B9 ^ (L + 1) := by rw [Nat.pow_succ]; exact Nat.mul_le_mul_left _ (by decide)
  exact ⟨by omega, by omega⟩
set_option maxHeartbeats 2000000 in
set_option maxRecDepth 100000 in
theorem fp_yE1 (s D SA SB : ByteArray) (g : Bool) (u v : Nat) (er : Int) (w : World) (hT : Zw w) (hs : s.size ≤ 4000)
    (c1 : ∀ W : World, Calls Tryz.prog 32 #[.string s, .string ⟨#[45]⟩] W fun e w' => e = .returned (.tuple #[.string D, .bool g]) ∧ W = w') (c2 : ∀ W : World, Zw W → Calls Tryz.prog 33 #[.string D, .string ⟨#[47]⟩] W fun e w' => e = .returned (.tuple #[.string SA, .string SB, .bool true]) ∧ Below W.heap.size W w')
    (p1 : ∀ W : World, Calls Tryz.prog 34 #[.string SA] W (GivesNE u 3 W)) (p2 : ∀ W : World, Calls Tryz.prog 34 #[.string SB] W (GivesNE v er W)) :
    Calls Tryz.prog 11 #[.string s] w (fun e w' => e = .returned (.tuple #[.agg #[.bool false, .slice none 0 0, .slice none 0 0], .int .i64 3]) ∧ Below w.heap.size w w') := by
  have HT := hide hT
  have C1 := hide c1
  have C2 := hide c2
  have P1 := hide p1
  have P2 := hide p2
  have d0 : decide (4000 < (s.size : Int)) = false := by simp; omega
  clear hT c1 c2 p1 p2
  go_enter Tryz.func11, Tryz.ntmps11
  go_wp2_with fail
  generalize hW : w.alloc _ = W
  obtain ⟨B, bR, -⟩ := boxesA1 hW
  clear hW
  refine (C1.out _).mono ?_
  rintro e w1 ⟨rfl, rfl⟩
  go_wp2_with fail
  refine (C2.out _ (HT.out.below B)).mono ?_
  rintro e w2 ⟨rfl, hb⟩
  have bR := bR.below' hb
  have B := B.trans (hb.mono B.size)
  clear hb
  go_wp2_with fail
  refine (P1.out _).mono ?_
  rintro e w3 hg
  obtain ⟨A3, n3, c3, rfl, a3, hb⟩ := hg.cn
  have bR := bR.below' hb
  have B := B.trans (hb.mono B.size)
  clear hb hg
  go_wp2_with fail
  generalize hW : w3.alloc _ = W3
  obtain ⟨hb, bn, -⟩ := boxesA1 hW
  clear hW
  have bR := bR.below' hb
  have a3 := a3.below hb
  have B := B.trans (hb.mono B.size)
  clear hb
  generalize w3.heap.size = gn at *
  refine (P2.out _).mono ?_
  rintro e w4 hg
  obtain ⟨A4, n4, c4, rfl, a4, hb⟩ := hg.cn
  have bR := bR.below' hb
  have bn := bn.below' hb
  have a3 := a3.below hb
  have B := B.trans (hb.mono B.size)
  clear hb hg
  have g0 : w4.cell? ⟨w.heap.size, 0, none⟩ = some (.bool false) := bR.at_ 0
  have g1 : w4.cell? ⟨w.heap.size, 1, none⟩ = some (.slice none 0 0) := bR.at_ 1
  have g2 : w4.cell? ⟨w.heap.size, 2, none⟩ = some (.slice none 0 0) := bR.at_ 2
  have f0 := bR.frozen 0
  have f1 := bR.frozen 1
  have f2 := bR.frozen 2
  have gz := bR.lt
  go_wp2_with fail
  clear g0 g1 g2 f0 f1 f2
  generalize hW3 : ((World.setCell _ _ _).setCell _ _).setCell _ _ = W3
  obtain ⟨b3, -, C3, B4, -⟩ := put3 bR hW3
  clear hW3
  have B := B4 _ _ B (Nat.le_refl _)
  generalize hW : W3.alloc _ = W5
  obtain ⟨hb, -, -⟩ := boxesA1 hW
  clear hW
  have b3 := b3.below' hb
  have B := B.trans (hb.mono B.size)
  have k0 : W5.cell? ⟨w.heap.size, 0, none⟩ = some (.bool false) := b3.at_ 0
  have k1 : W5.cell? ⟨w.heap.size, 1, none⟩ = some (.slice none 0 0) := b3.at_ 1
  have k2 : W5.cell? ⟨w.heap.size, 2, none⟩ = some (.slice none 0 0) := b3.at_ 2
  refine bodyPost_ret (v := .tuple #[.agg #[.bool false, .slice none 0 0, .slice none 0 0], .int .i64 3]) (by simp [results, Tryz.results11, go_sem, k0, k1, k2]) rfl ?_
  exact ⟨rfl, B⟩
set_option maxHeartbeats 2000000 in
set_option maxRecDepth 100000 in
theorem fp_yE2 (s D SA SB : ByteArray) (g : Bool) (u v : Nat) (w : World) (hT : Zw w) (hs : s.size ≤ 4000)
    (c1 : ∀ W : World, Calls Tryz.prog 32 #[.string s, .string ⟨#[45]⟩] W fun e w' => e = .returned (.tuple #[.string D, .bool g]) ∧ W = w') (c2 : ∀ W : World, Zw W → Calls Tryz.prog 33 #[.string D, .string ⟨#[47]⟩] W fun e w' => e = .returned (.tuple #[.string SA, .string SB, .bool true]) ∧ Below W.heap.size W w')
    (p1 : ∀ W : World, Calls Tryz.prog 34 #[.string SA] W (GivesNE u 0 W)) (p2 : ∀ W : World, Calls Tryz.prog 34 #[.string SB] W (GivesNE v 3 W)) :
    Calls Tryz.prog 11 #[.string s] w (fun e w' => e = .returned (.tuple #[.agg #[.bool false, .slice none 0 0, .slice none 0 0], .int .i64 3]) ∧ Below w.heap.size w w') := by
  have HT := hide hT
  have C1 := hide c1
  have C2 := hide c2
  have P1 := hide p1
  have P2 := hide p2
  have d0 : decide (4000 < (s.size : Int)) = false := by simp; omega
  clear hT c1 c2 p1 p2
  go_enter Tryz.func11, Tryz.ntmps11
  go_wp2_with fail
  generalize hW : w.alloc _ = W
  obtain ⟨B, bR, -⟩ := boxesA1 hW
  clear hW
  refine (C1.out _).mono ?_
  rintro e w1 ⟨rfl, rfl⟩
  go_wp2_with fail
  refine (C2.out _ (HT.out.below B)).mono ?_
  rintro e w2 ⟨rfl, hb⟩
  have bR := bR.below' hb
  have B := B.trans (hb.mono B.size)
  clear hb
  go_wp2_with fail
  refine (P1.out _).mono ?_
  rintro e w3 hg
  obtain ⟨A3, n3, c3, rfl, a3, hb⟩ := hg.cn
  have bR := bR.below' hb
  have B := B.trans (hb.mono B.size)
  clear hb hg
  go_wp2_with fail
  generalize hW : w3.alloc _ = W3
  obtain ⟨hb, bn, -⟩ := boxesA1 hW
  clear hW
  have bR := bR.below' hb
  have a3 := a3.below hb
  have B := B.trans (hb.mono B.size)
  clear hb
  generalize w3.heap.size = gn at *
  refine (P2.out _).mono ?_
  rintro e w4 hg
  obtain ⟨A4, n4, c4, rfl, a4, hb⟩ := hg.cn
  have bR := bR.below' hb
  have bn := bn.below' hb
  have a3 := a3.below hb
  have B := B.trans (hb.mono B.size)
  clear hb hg
  have g0 : w4.cell? ⟨w.heap.size, 0, none⟩ = some (.bool false) := bR.at_ 0
  have g1 : w4.cell? ⟨w.heap.size, 1, none⟩ = some (.slice none 0 0) := bR.at_ 1
  have g2 : w4.cell? ⟨w.heap.size, 2, none⟩ = some (.slice none 0 0) := bR.at_ 2
  have f0 := bR.frozen 0
  have f1 := bR.frozen 1
  have f2 := bR.frozen 2
  have gz := bR.lt
  go_wp2_with fail
  clear g0 g1 g2 f0 f1 f2
  generalize hW3 : ((World.setCell _ _ _).setCell _ _).setCell _ _ = W3
  obtain ⟨b3, -, C3, B4, -⟩ := put3 bR hW3
  clear hW3
  have B := B4 _ _ B (Nat.le_refl _)
  generalize hW : W3.alloc _ = W5
  obtain ⟨hb, -, -⟩ := boxesA1 hW
  clear hW
  have b3 := b3.below' hb
  have B := B.trans (hb.mono B.size)
  have k0 : W5.cell? ⟨w.heap.size, 0, none⟩ = some (.bool false) := b3.at_ 0
  have k1 : W5.cell? ⟨w.heap.size, 1, none⟩ = some (.slice none 0 0) := b3.at_ 1
  have k2 : W5.cell? ⟨w.heap.size, 2, none⟩ = some (.slice none 0 0) := b3.at_ 2
  refine bodyPost_ret (v := .tuple #[.agg #[.bool false, .slice none 0 0, .slice none 0 0], .int .i64 3]) (by simp [results, Tryz.results11, go_sem, k0, k1, k2]) rfl ?_
  exact ⟨rfl, B⟩
set_option maxHeartbeats 2000000 in
set_option maxRecDepth 100000 in
theorem fp_yT (s D SA SB : ByteArray) (g : Bool) (u v : Nat) (w : World) (hT : Zw w) (hs : s.size ≤ 4000)
    (c1 : ∀ W : World, Calls Tryz.prog 32 #[.string s, .string ⟨#[45]⟩] W fun e w' => e = .returned (.tuple #[.string D, .bool g]) ∧ W = w') (c2 : ∀ W : World, Zw W → Calls Tryz.prog 33 #[.string D, .string ⟨#[47]⟩] W fun e w' => e = .returned (.tuple #[.string SA, .string SB, .bool true]) ∧ Below W.heap.size W w')
    (p1 : ∀ W : World, Calls Tryz.prog 34 #[.string SA] W (GivesNE u 0 W)) (p2 : ∀ W : World, Calls Tryz.prog 34 #[.string SB] W (GivesNE v 0 W)) (hu : u < B9 ^ 445) (hv : v < B9 ^ 445) (r : Rat) (hr : qv g u v = r) (hS : qtext r = s) :
    Calls Tryz.prog 11 #[.string s] w (GivesFE r 0 w) := by
  have HT := hide hT
  have C1 := hide c1
  have C2 := hide c2
  have P1 := hide p1
  have P2 := hide p2
  have d0 : decide (4000 < (s.size : Int)) = false := by simp; omega
  have HR := hide hr
  have HS := hide hS
  have HU := hide hu
  have HV := hide hv
  clear hT c1 c2 p1 p2 hr hS hu hv
  go_enter Tryz.func11, Tryz.ntmps11
  go_wp2_with fail
  generalize hW : w.alloc _ = W
  obtain ⟨B, bR, -⟩ := boxesA1 hW
  clear hW
  refine (C1.out _).mono ?_
  rintro e w1 ⟨rfl, rfl⟩
  go_wp2_with fail
  refine (C2.out _ (HT.out.below B)).mono ?_
  rintro e w2 ⟨rfl, hb⟩
  have bR := bR.below' hb
  have B := B.trans (hb.mono B.size)
  clear hb
  go_wp2_with fail
  refine (P1.out _).mono ?_
  rintro e w3 hg
  obtain ⟨A3, n3, c3, rfl, a3, hb⟩ := hg.cn
  have bR := bR.below' hb
  have B := B.trans (hb.mono B.size)
  clear hb hg
  go_wp2_with fail
  generalize hW : w3.alloc _ = W3
  obtain ⟨hb, bn, -⟩ := boxesA1 hW
  clear hW
  have bR := bR.below' hb
  have a3 := a3.below hb
  have B := B.trans (hb.mono B.size)
  clear hb
  generalize w3.heap.size = gn at *
  refine (P2.out _).mono ?_
  rintro e w4 hg
  obtain ⟨A4, n4, c4, rfl, a4, hb⟩ := hg.cn
  have bR := bR.below' hb
  have bn := bn.below' hb
  have a3 := a3.below hb
  have B := B.trans (hb.mono B.size)
  clear hb hg
  have q0 := bn.cell
  have zn := bn.lt
  go_wp2_with fail
  clear q0 zn
  generalize hW : w4.alloc _ = W4
  obtain ⟨hb, bd, -⟩ := boxesA1 hW
  clear hW
  have bR := bR.below' hb
  have bn := bn.below' hb
  have a3 := a3.below hb
  have a4 := a4.below hb
  have B := B.trans (hb.mono B.size)
  clear hb
  generalize w4.heap.size = gd at *
  refine (fnorm_f (L := 445) (frMk' (a3.nt HU.out) (a4.nt HV.out) HR.out) (by omega) (by omega)).mono ?_
  rintro e w5 ⟨p5, A5, n5, c5, B5, m5, d5, rfl, x5, hb⟩
  have bR := bR.below' hb
  have B := B.trans (hb.mono B.size)
  clear hb bn bd a3 a4
  go_wp2_with fail
  generalize hW : w5.alloc _ = W5
  obtain ⟨hb, bx, -⟩ := boxesA1 hW
  clear hW
  have bR := bR.below' hb
  have x5 := x5.below hb
  have B := B.trans (hb.mono B.size)
  clear hb
  generalize w5.heap.size = gx at *
  refine (ctext_f (L := 446) x5 (qv_ht HU.out HV.out HR.out) (by omega) (HT.out.below B).tab _ HS.out).mono ?_
  rintro e w6 ⟨rfl, hb⟩
  have bR := bR.below' hb
  have bx := bx.below' hb
  have x5 := x5.below hb
  have B := B.trans (hb.mono B.size)
  clear hb
  have q0 : w6.cell? ⟨gx, 0, none⟩ = some (.bool p5) := bx.at_ 0
  have q1 : w6.cell? ⟨gx, 1, none⟩ = some (.slice A5 n5 c5) := bx.at_ 1
  have q2 : w6.cell? ⟨gx, 2, none⟩ = some (.slice B5 m5 d5) := bx.at_ 2
  have g0 : w6.cell? ⟨w.heap.size, 0, none⟩ = some (.bool false) := bR.at_ 0
  have g1 : w6.cell? ⟨w.heap.size, 1, none⟩ = some (.slice none 0 0) := bR.at_ 1
  have g2 : w6.cell? ⟨w.heap.size, 2, none⟩ = some (.slice none 0 0) := bR.at_ 2
  have f0 := bR.frozen 0
  have f1 := bR.frozen 1
  have f2 := bR.frozen 2
  have gz := bR.lt
  go_wp2_with fail
  clear g0 g1 g2 f0 f1 f2 q0 q1 q2
  generalize hW3 : ((w6.setCell _ _).setCell _ _).setCell _ _ = W3
  obtain ⟨b3, -, C3, B4, -⟩ := put3 bR hW3
  clear hW3
  have k0 : W3.cell? ⟨w.heap.size, 0, none⟩ = some (.bool p5) := b3.at_ 0
  have k1 : W3.cell? ⟨w.heap.size, 1, none⟩ = some (.slice A5 n5 c5) := b3.at_ 1
  have k2 : W3.cell? ⟨w.heap.size, 2, none⟩ = some (.slice B5 m5 d5) := b3.at_ 2
  refine bodyPost_ret (v := .tuple #[.agg #[.bool p5, .slice A5 n5 c5, .slice B5 m5 d5], .int .i64 0]) (by simp [results, Tryz.results11, go_sem, k0, k1, k2]) rfl ?_
  exact ⟨p5, A5, n5, c5, B5, m5, d5, rfl, ⟨x5.1, C3 _ _ _ _ x5.2.1, C3 _ _ _ _ x5.2.2⟩, B4 _ _ B (by omega)⟩
set_option maxHeartbeats 2000000 in
set_option maxRecDepth 100000 in
theorem fp_yD (s D SA SB : ByteArray) (g : Bool) (u v : Nat) (w : World) (hT : Zw w) (hs : s.size ≤ 4000)
    (c1 : ∀ W : World, Calls Tryz.prog 32 #[.string s, .string ⟨#[45]⟩] W fun e w' => e = .returned (.tuple #[.string D, .bool g]) ∧ W = w') (c2 : ∀ W : World, Zw W → Calls Tryz.prog 33 #[.string D, .string ⟨#[47]⟩] W fun e w' => e = .returned (.tuple #[.string SA, .string SB, .bool true]) ∧ Below W.heap.size W w')
    (p1 : ∀ W : World, Calls Tryz.prog 34 #[.string SA] W (GivesNE u 0 W)) (p2 : ∀ W : World, Calls Tryz.prog 34 #[.string SB] W (GivesNE v 0 W)) (hu : u < B9 ^ 445) (hv : v < B9 ^ 445) (r : Rat) (hr : qv g u v = r) (S : ByteArray) (hS : qtext r = S) (hne : S ≠ s) :
    Calls Tryz.prog 11 #[.string s] w (fun e w' => e = .returned (.tuple #[.agg #[.bool false, .slice none 0 0, .slice none 0 0], .int .i64 3]) ∧ Below w.heap.size w w') := by
  have HT := hide hT
  have C1 := hide c1
  have C2 := hide c2
  have P1 := hide p1
  have P2 := hide p2
  have d0 : decide (4000 < (s.size : Int)) = false := by simp; omega
  have HR := hide hr
  have HS := hide hS
  have HU := hide hu
  have HV := hide hv
  have hse : (S.toList == s.toList) = false := by rw [beq_eq_false_iff_ne]; intro h; rw [Lib.toList_data, Lib.toList_data] at h; exact hne (ba_eq h)
  clear hT c1 c2 p1 p2 hr hS hu hv hne
  go_enter Tryz.func11, Tryz.ntmps11
  go_wp2_with fail
  generalize hW : w.alloc _ = W
  obtain ⟨B, bR, -⟩ := boxesA1 hW
  clear hW
  refine (C1.out _).mono ?_
  rintro e w1 ⟨rfl, rfl⟩
  go_wp2_with fail
  refine (C2.out _ (HT.out.below B)).mono ?_
  rintro e w2 ⟨rfl, hb⟩
  have bR := bR.below' hb
  have B := B.trans (hb.mono B.size)
  clear hb
  go_wp2_with fail
  refine (P1.out _).mono ?_
  rintro e w3 hg
  obtain ⟨A3, n3, c3, rfl, a3, hb⟩ := hg.cn
  have bR := bR.below' hb
  have B := B.trans (hb.mono B.size)
  clear hb hg
  go_wp2_with fail
  generalize hW : w3.alloc _ = W3
  obtain ⟨hb, bn, -⟩ := boxesA1 hW
  clear hW
  have bR := bR.below' hb
  have a3 := a3.below hb
  have B := B.trans (hb.mono B.size)
  clear hb
  generalize w3.heap.size = gn at *
  refine (P2.out _).mono ?_
  rintro e w4 hg
  obtain ⟨A4, n4, c4, rfl, a4, hb⟩ := hg.cn
  have bR := bR.below' hb
  have bn := bn.below' hb
  have a3 := a3.below hb
  have B := B.trans (hb.mono B.size)
  clear hb hg
  have q0 := bn.cell
  have zn := bn.lt
  go_wp2_with fail
  clear q0 zn
  generalize hW : w4.alloc _ = W4
  obtain ⟨hb, bd, -⟩ := boxesA1 hW
  clear hW
  have bR := bR.below' hb
  have bn := bn.below' hb
  have a3 := a3.below hb
  have a4 := a4.below hb
  have B := B.trans (hb.mono B.size)
  clear hb
  generalize w4.heap.size = gd at *
  refine (fnorm_f (L := 445) (frMk' (a3.nt HU.out) (a4.nt HV.out) HR.out) (by omega) (by omega)).mono ?_
  rintro e w5 ⟨p5, A5, n5, c5, B5, m5, d5, rfl, x5, hb⟩
  have bR := bR.below' hb
  have B := B.trans (hb.mono B.size)
  clear hb bn bd a3 a4
  go_wp2_with fail
  generalize hW : w5.alloc _ = W5
  obtain ⟨hb, bx, -⟩ := boxesA1 hW
  clear hW
  have bR := bR.below' hb
  have x5 := x5.below hb
  have B := B.trans (hb.mono B.size)
  clear hb
  generalize w5.heap.size = gx at *
  refine (ctext_f (L := 446) x5 (qv_ht HU.out HV.out HR.out) (by omega) (HT.out.below B).tab _ HS.out).mono ?_
  rintro e w6 ⟨rfl, hb⟩
  have bR := bR.below' hb
  have bx := bx.below' hb
  have x5 := x5.below hb
  have B := B.trans (hb.mono B.size)
  clear hb
  have q0 : w6.cell? ⟨gx, 0, none⟩ = some (.bool p5) := bx.at_ 0
  have q1 : w6.cell? ⟨gx, 1, none⟩ = some (.slice A5 n5 c5) := bx.at_ 1
  have q2 : w6.cell? ⟨gx, 2, none⟩ = some (.slice B5 m5 d5) := bx.at_ 2
  have g0 : w6.cell? ⟨w.heap.size, 0, none⟩ = some (.bool false) := bR.at_ 0
  have g1 : w6.cell? ⟨w.heap.size, 1, none⟩ = some (.slice none 0 0) := bR.at_ 1
  have g2 : w6.cell? ⟨w.heap.size, 2, none⟩ = some (.slice none 0 0) := bR.at_ 2
  have f0 := bR.frozen 0
  have f1 := bR.frozen 1
  have f2 := bR.frozen 2
  have gz := bR.lt
  go_wp2_with fail
  clear q0 q1 q2
  clear g0 g1 g2 f0 f1 f2
  generalize hW3 : ((World.setCell _ _ _).setCell _ _).setCell _ _ = W3
  obtain ⟨b3, -, C3, B4, -⟩ := put3 bR hW3
  clear hW3
  have k0 : W3.cell? ⟨w.heap.size, 0, none⟩ = some (.bool false) := b3.at_ 0
  have k1 : W3.cell? ⟨w.heap.size, 1, none⟩ = some (.slice none 0 0) := b3.at_ 1
  have k2 : W3.cell? ⟨w.heap.size, 2, none⟩ = some (.slice none 0 0) := b3.at_ 2
  refine bodyPost_ret (v := .tuple #[.agg #[.bool false, .slice none 0 0, .slice none 0 0], .int .i64 3]) (by simp [results, Tryz.results11, go_sem, k0, k1, k2]) rfl ?_
  exact ⟨rfl, B4 _ _ B (by omega)⟩
set_option maxHeartbeats 2000000 in
set_option maxRecDepth 100000 in
theorem fp_nE1 (s D SA : ByteArray) (g : Bool) (u v : Nat) (er : Int) (w : World) (hT : Zw w) (hs : s.size ≤ 4000)
    (c1 : ∀ W : World, Calls Tryz.prog 32 #[.string s, .string ⟨#[45]⟩] W fun e w' => e = .returned (.tuple #[.string D, .bool g]) ∧ W = w') (c2 : ∀ W : World, Zw W → Calls Tryz.prog 33 #[.string D, .string ⟨#[47]⟩] W fun e w' => e = .returned (.tuple #[.string SA, .string ⟨#[]⟩, .bool false]) ∧ Below W.heap.size W w')
    (p1 : ∀ W : World, Calls Tryz.prog 34 #[.string SA] W (GivesNE u 3 W)) (p2 : ∀ W : World, Calls Tryz.prog 34 #[.string ⟨#[49]⟩] W (GivesNE v er W)) :
    Calls Tryz.prog 11 #[.string s] w (fun e w' => e = .returned (.tuple #[.agg #[.bool false, .slice none 0 0, .slice none 0 0], .int .i64 3]) ∧ Below w.heap.size w w') := by
  have HT := hide hT
  have C1 := hide c1
  have C2 := hide c2
  have P1 := hide p1
  have P2 := hide p2
  have d0 : decide (4000 < (s.size : Int)) = false := by simp; omega
  clear hT c1 c2 p1 p2
  go_enter Tryz.func11, Tryz.ntmps11
  go_wp2_with fail
  generalize hW : w.alloc _ = W
  obtain ⟨B, bR, -⟩ := boxesA1 hW
  clear hW
  refine (C1.out _).mono ?_
  rintro e w1 ⟨rfl, rfl⟩
  go_wp2_with fail
  refine (C2.out _ (HT.out.below B)).mono ?_
  rintro e w2 ⟨rfl, hb⟩
  have bR := bR.below' hb
  have B := B.trans (hb.mono B.size)
  clear hb
  go_wp2_with fail
  refine (P1.out _).mono ?_
  rintro e w3 hg
  obtain ⟨A3, n3, c3, rfl, a3, hb⟩ := hg.cn
  have bR := bR.below' hb
  have B := B.trans (hb.mono B.size)
  clear hb hg
  go_wp2_with fail
  generalize hW : w3.alloc _ = W3
  obtain ⟨hb, bn, -⟩ := boxesA1 hW
  clear hW
  have bR := bR.below' hb
  have a3 := a3.below hb
  have B := B.trans (hb.mono B.size)
  clear hb
  generalize w3.heap.size = gn at *
  refine (P2.out _).mono ?_
  rintro e w4 hg
  obtain ⟨A4, n4, c4, rfl, a4, hb⟩ := hg.cn
  have bR := bR.below' hb
  have bn := bn.below' hb
  have a3 := a3.below hb
  have B := B.trans (hb.mono B.size)
  clear hb hg
  have g0 : w4.cell? ⟨w.heap.size, 0, none⟩ = some (.bool false) := bR.at_ 0
  have g1 : w4.cell? ⟨w.heap.size, 1, none⟩ = some (.slice none 0 0) := bR.at_ 1
  have g2 : w4.cell? ⟨w.heap.size, 2, none⟩ = some (.slice none 0 0) := bR.at_ 2
  have f0 := bR.frozen 0
  have f1 := bR.frozen 1
  have f2 := bR.frozen 2
  have gz := bR.lt
  go_wp2_with fail
  clear g0 g1 g2 f0 f1 f2
  generalize hW3 : ((World.setCell _ _ _).setCell _ _).setCell _ _ = W3
  obtain ⟨b3, -, C3, B4, -⟩ := put3 bR hW3
  clear hW3
  have B := B4 _ _ B (Nat.le_refl _)
  generalize hW : W3.alloc _ = W5
  obtain ⟨hb, -, -⟩ := boxesA1 hW
  clear hW
  have b3 := b3.below' hb
  have B := B.trans (hb.mono B.size)
  have k0 : W5.cell? ⟨w.heap.size, 0, none⟩ = some (.bool false) := b3.at_ 0
  have k1 : W5.cell? ⟨w.heap.size, 1, none⟩ = some (.slice none 0 0) := b3.at_ 1
  have k2 : W5.cell? ⟨w.heap.size, 2, none⟩ = some (.slice none 0 0) := b3.at_ 2
  refine bodyPost_ret (v := .tuple #[.agg #[.bool false, .slice none 0 0, .slice none 0 0], .int .i64 3]) (by simp [results, Tryz.results11, go_sem, k0, k1, k2]) rfl ?_
  exact ⟨rfl, B⟩
set_option maxHeartbeats 2000000 in
set_option maxRecDepth 100000 in
theorem fp_nE2 (s D SA : ByteArray) (g : Bool) (u v : Nat) (w : World) (hT : Zw w) (hs : s.size ≤ 4000)
    (c1 : ∀ W : World, Calls Tryz.prog 32 #[.string s, .string ⟨#[45]⟩] W fun e w' => e = .returned (.tuple #[.string D, .bool g]) ∧ W = w') (c2 : ∀ W : World, Zw W → Calls Tryz.prog 33 #[.string D, .string ⟨#[47]⟩] W fun e w' => e = .returned (.tuple #[.string SA, .string ⟨#[]⟩, .bool false]) ∧ Below W.heap.size W w')
    (p1 : ∀ W : World, Calls Tryz.prog 34 #[.string SA] W (GivesNE u 0 W)) (p2 : ∀ W : World, Calls Tryz.prog 34 #[.string ⟨#[49]⟩] W (GivesNE v 3 W)) :
    Calls Tryz.prog 11 #[.string s] w (fun e w' => e = .returned (.tuple #[.agg #[.bool false, .slice none 0 0, .slice none 0 0], .int .i64 3]) ∧ Below w.heap.size w w') := by
  have HT := hide hT
  have C1 := hide c1
  have C2 := hide c2
  have P1 := hide p1
  have P2 := hide p2
  have d0 : decide (4000 < (s.size : Int)) = false := by simp; omega
  clear hT c1 c2 p1 p2
  go_enter Tryz.func11, Tryz.ntmps11
  go_wp2_with fail
  generalize hW : w.alloc _ = W
  obtain ⟨B, bR, -⟩ := boxesA1 hW
  clear hW
  refine (C1.out _).mono ?_
  rintro e w1 ⟨rfl, rfl⟩
  go_wp2_with fail
  refine (C2.out _ (HT.out.below B)).mono ?_
  rintro e w2 ⟨rfl, hb⟩
  have bR := bR.below' hb
  have B := B.trans (hb.mono B.size)
  clear hb
  go_wp2_with fail
  refine (P1.out _).mono ?_
  rintro e w3 hg
  obtain ⟨A3, n3, c3, rfl, a3, hb⟩ := hg.cn
  have bR := bR.below' hb
  have B := B.trans (hb.mono B.size)
  clear hb hg
  go_wp2_with fail
  generalize hW : w3.alloc _ = W3
  obtain ⟨hb, bn, -⟩ := boxesA1 hW
  clear hW
  have bR := bR.below' hb
  have a3 := a3.below hb
  have B := B.trans (hb.mono B.size)
  clear hb
  generalize w3.heap.size = gn at *
  refine (P2.out _).mono ?_
  rintro e w4 hg
  obtain ⟨A4, n4, c4, rfl, a4, hb⟩ := hg.cn
  have bR := bR.below' hb
  have bn := bn.below' hb
  have a3 := a3.below hb
  have B := B.trans (hb.mono B.size)
  clear hb hg
  have g0 : w4.cell? ⟨w.heap.size, 0, none⟩ = some (.bool false) := bR.at_ 0
  have g1 : w4.cell? ⟨w.heap.size, 1, none⟩ = some (.slice none 0 0) := bR.at_ 1
  have g2 : w4.cell? ⟨w.heap.size, 2, none⟩ = some (.slice none 0 0) := bR.at_ 2
  have f0 := bR.frozen 0
  have f1 := bR.frozen 1
  have f2 := bR.frozen 2
  have gz := bR.lt
  go_wp2_with fail
  clear g0 g1 g2 f0 f1 f2
  generalize hW3 : ((World.setCell _ _ _).setCell _ _).setCell _ _ = W3
  obtain ⟨b3, -, C3, B4, -⟩ := put3 bR hW3
  clear hW3
  have B := B4 _ _ B (Nat.le_refl _)
  generalize hW : W3.alloc _ = W5
  obtain ⟨hb, -, -⟩ := boxesA1 hW
  clear hW
  have b3 := b3.below' hb
  have B := B.trans (hb.mono B.size)
  have k0 : W5.cell? ⟨w.heap.size, 0, none⟩ = some (.bool false) := b3.at_ 0
  have k1 : W5.cell? ⟨w.heap.size, 1, none⟩ = some (.slice none 0 0) := b3.at_ 1
  have k2 : W5.cell? ⟨w.heap.size, 2, none⟩ = some (.slice none 0 0) := b3.at_ 2
  refine bodyPost_ret (v := .tuple #[.agg #[.bool false, .slice none 0 0, .slice none 0 0], .int .i64 3]) (by simp [results, Tryz.results11, go_sem, k0, k1, k2]) rfl ?_
  exact ⟨rfl, B⟩
set_option maxHeartbeats 2000000 in
set_option maxRecDepth 100000 in
theorem fp_nT (s D SA : ByteArray) (g : Bool) (u v : Nat) (w : World) (hT : Zw w) (hs : s.size ≤ 4000)
    (c1 : ∀ W : World, Calls Tryz.prog 32 #[.string s, .string ⟨#[45]⟩] W fun e w' => e = .returned (.tuple #[.string D, .bool g]) ∧ W = w') (c2 : ∀ W : World, Zw W → Calls Tryz.prog 33 #[.string D, .string ⟨#[47]⟩] W fun e w' => e = .returned (.tuple #[.string SA, .string ⟨#[]⟩, .bool false]) ∧ Below W.heap.size W w')
    (p1 : ∀ W : World, Calls Tryz.prog 34 #[.string SA] W (GivesNE u 0 W)) (p2 : ∀ W : World, Calls Tryz.prog 34 #[.string ⟨#[49]⟩] W (GivesNE v 0 W)) (hu : u < B9 ^ 445) (hv : v < B9 ^ 445) (r : Rat) (hr : qv g u v = r) (hS : qtext r = s) :
    Calls Tryz.prog 11 #[.string s] w (GivesFE r 0 w) := by
  have HT := hide hT
  have C1 := hide c1
  have C2 := hide c2
  have P1 := hide p1
  have P2 := hide p2
  have d0 : decide (4000 < (s.size : Int)) = false := by simp; omega
  have HR := hide hr
  have HS := hide hS
  have HU := hide hu
  have HV := hide hv
  clear hT c1 c2 p1 p2 hr hS hu hv
  go_enter Tryz.func11, Tryz.ntmps11
  go_wp2_with fail
  generalize hW : w.alloc _ = W
  obtain ⟨B, bR, -⟩ := boxesA1 hW
  clear hW
  refine (C1.out _).mono ?_
  rintro e w1 ⟨rfl, rfl⟩
  go_wp2_with fail
  refine (C2.out _ (HT.out.below B)).mono ?_
  rintro e w2 ⟨rfl, hb⟩
  have bR := bR.below' hb
  have B := B.trans (hb.mono B.size)
  clear hb
  go_wp2_with fail
  refine (P1.out _).mono ?_
  rintro e w3 hg
  obtain ⟨A3, n3, c3, rfl, a3, hb⟩ := hg.cn
  have bR := bR.below' hb
  have B := B.trans (hb.mono B.size)
  clear hb hg
  go_wp2_with fail
  generalize hW : w3.alloc _ = W3
  obtain ⟨hb, bn, -⟩ := boxesA1 hW
  clear hW
  have bR := bR.below' hb
  have a3 := a3.below hb
  have B := B.trans (hb.mono B.size)
  clear hb
  generalize w3.heap.size = gn at *
  refine (P2.out _).mono ?_
  rintro e w4 hg
  obtain ⟨A4, n4, c4, rfl, a4, hb⟩ := hg.cn
  have bR := bR.below' hb
  have bn := bn.below' hb
  have a3 := a3.below hb
  have B := B.trans (hb.mono B.size)
  clear hb hg
  have q0 := bn.cell
  have zn := bn.lt
  go_wp2_with fail
  clear q0 zn
  generalize hW : w4.alloc _ = W4
  obtain ⟨hb, bd, -⟩ := boxesA1 hW
  clear hW
  have bR := bR.below' hb
  have bn := bn.below' hb
  have a3 := a3.below hb
  have a4 := a4.below hb
  have B := B.trans (hb.mono B.size)
  clear hb
  generalize w4.heap.size = gd at *
  refine (fnorm_f (L := 445) (frMk' (a3.nt HU.out) (a4.nt HV.out) HR.out) (by omega) (by omega)).mono ?_
  rintro e w5 ⟨p5, A5, n5, c5, B5, m5, d5, rfl, x5, hb⟩
  have bR := bR.below' hb
  have B := B.trans (hb.mono B.size)
  clear hb bn bd a3 a4
  go_wp2_with fail
  generalize hW : w5.alloc _ = W5
  obtain ⟨hb, bx, -⟩ := boxesA1 hW
  clear hW
  have bR := bR.below' hb
  have x5 := x5.below hb
  have B := B.trans (hb.mono B.size)
  clear hb
  generalize w5.heap.size = gx at *
  refine (ctext_f (L := 446) x5 (qv_ht HU.out HV.out HR.out) (by omega) (HT.out.below B).tab _ HS.out).mono ?_
  rintro e w6 ⟨rfl, hb⟩
  have bR := bR.below' hb
  have bx := bx.below' hb
  have x5 := x5.below hb
  have B := B.trans (hb.mono B.size)
  clear hb
  have q0 : w6.cell? ⟨gx, 0, none⟩ = some (.bool p5) := bx.at_ 0
  have q1 : w6.cell? ⟨gx, 1, none⟩ = some (.slice A5 n5 c5) := bx.at_ 1
  have q2 : w6.cell? ⟨gx, 2, none⟩ = some (.slice B5 m5 d5) := bx.at_ 2
  have g0 : w6.cell? ⟨w.heap.size, 0, none⟩ = some (.bool false) := bR.at_ 0
  have g1 : w6.cell? ⟨w.heap.size, 1, none⟩ = some (.slice none 0 0) := bR.at_ 1
  have g2 : w6.cell? ⟨w.heap.size, 2, none⟩ = some (.slice none 0 0) := bR.at_ 2
  have f0 := bR.frozen 0
  have f1 := bR.frozen 1
  have f2 := bR.frozen 2
  have gz := bR.lt
  go_wp2_with fail
  clear g0 g1 g2 f0 f1 f2 q0 q1 q2
  generalize hW3 : ((w6.setCell _ _).setCell _ _).setCell _ _ = W3
  obtain ⟨b3, -, C3, B4, -⟩ := put3 bR hW3
  clear hW3
  have k0 : W3.cell? ⟨w.heap.size, 0, none⟩ = some (.bool p5) := b3.at_ 0
  have k1 : W3.cell? ⟨w.heap.size, 1, none⟩ = some (.slice A5 n5 c5) := b3.at_ 1
  have k2 : W3.cell? ⟨w.heap.size, 2, none⟩ = some (.slice B5 m5 d5) := b3.at_ 2
  refine bodyPost_ret (v := .tuple #[.agg #[.bool p5, .slice A5 n5 c5, .slice B5 m5 d5], .int .i64 0]) (by simp [results, Tryz.results11, go_sem, k0, k1, k2]) rfl ?_
  exact ⟨p5, A5, n5, c5, B5, m5, d5, rfl, ⟨x5.1, C3 _ _ _ _ x5.2.1, C3 _ _ _ _ x5.2.2⟩, B4 _ _ B (by omega)⟩
set_option maxHeartbeats 2000000 in
set_option maxRecDepth 100000 in
theorem fp_nD (s D SA : ByteArray) (g : Bool) (u v : Nat) (w : World) (hT : Zw w) (hs : s.size ≤ 4000)
    (c1 : ∀ W : World, Calls Tryz.prog 32 #[.string s, .string ⟨#[45]⟩] W fun e w' => e = .returned (.tuple #[.string D, .bool g]) ∧ W = w') (c2 : ∀ W : World, Zw W → Calls Tryz.prog 33 #[.string D, .string ⟨#[47]⟩] W fun e w' => e = .returned (.tuple #[.string SA, .string ⟨#[]⟩, .bool false]) ∧ Below W.heap.size W w')
    (p1 : ∀ W : World, Calls Tryz.prog 34 #[.string SA] W (GivesNE u 0 W)) (p2 : ∀ W : World, Calls Tryz.prog 34 #[.string ⟨#[49]⟩] W (GivesNE v 0 W)) (hu : u < B9 ^ 445) (hv : v < B9 ^ 445) (r : Rat) (hr : qv g u v = r) (S : ByteArray) (hS : qtext r = S) (hne : S ≠ s) :
    Calls Tryz.prog 11 #[.string s] w (fun e w' => e = .returned (.tuple #[.agg #[.bool false, .slice none 0 0, .slice none 0 0], .int .i64 3]) ∧ Below w.heap.size w w') := by
  have HT := hide hT
  have C1 := hide c1
  have C2 := hide c2
  have P1 := hide p1
  have P2 := hide p2
  have d0 : decide (4000 < (s.size : Int)) = false := by simp; omega
  have HR := hide hr
  have HS := hide hS
  have HU := hide hu
  have HV := hide hv
  have hse : (S.toList == s.toList) = false := by rw [beq_eq_false_iff_ne]; intro h; rw [Lib.toList_data, Lib.toList_data] at h; exact hne (ba_eq h)
  clear hT c1 c2 p1 p2 hr hS hu hv hne
  go_enter Tryz.func11, Tryz.ntmps11
  go_wp2_with fail
  generalize hW : w.alloc _ = W
  obtain ⟨B, bR, -⟩ := boxesA1 hW
  clear hW
  refine (C1.out _).mono ?_
  rintro e w1 ⟨rfl, rfl⟩
  go_wp2_with fail
  refine (C2.out _ (HT.out.below B)).mono ?_
  rintro e w2 ⟨rfl, hb⟩
  have bR := bR.below' hb
  have B := B.trans (hb.mono B.size)
  clear hb
  go_wp2_with fail
  refine (P1.out _).mono ?_
  rintro e w3 hg
  obtain ⟨A3, n3, c3, rfl, a3, hb⟩ := hg.cn
  have bR := bR.below' hb
  have B := B.trans (hb.mono B.size)
  clear hb hg
  go_wp2_with fail
  generalize hW : w3.alloc _ = W3
  obtain ⟨hb, bn, -⟩ := boxesA1 hW
  clear hW
  have bR := bR.below' hb
  have a3 := a3.below hb
  have B := B.trans (hb.mono B.size)
  clear hb
  generalize w3.heap.size = gn at *
  refine (P2.out _).mono ?_
  rintro e w4 hg
  obtain ⟨A4, n4, c4, rfl, a4, hb⟩ := hg.cn
  have bR := bR.below' hb
  have bn := bn.below' hb
  have a3 := a3.below hb
  have B := B.trans (hb.mono B.size)
  clear hb hg
  have q0 := bn.cell
  have zn := bn.lt
  go_wp2_with fail
  clear q0 zn
  generalize hW : w4.alloc _ = W4
  obtain ⟨hb, bd, -⟩ := boxesA1 hW
  clear hW
  have bR := bR.below' hb
  have bn := bn.below' hb
  have a3 := a3.below hb
  have a4 := a4.below hb
  have B := B.trans (hb.mono B.size)
  clear hb
  generalize w4.heap.size = gd at *
  refine (fnorm_f (L := 445) (frMk' (a3.nt HU.out) (a4.nt HV.out) HR.out) (by omega) (by omega)).mono ?_
  rintro e w5 ⟨p5, A5, n5, c5, B5, m5, d5, rfl, x5, hb⟩
  have bR := bR.below' hb
  have B := B.trans (hb.mono B.size)
  clear hb bn bd a3 a4
  go_wp2_with fail
  generalize hW : w5.alloc _ = W5
  obtain ⟨hb, bx, -⟩ := boxesA1 hW
  clear hW
  have bR := bR.below' hb
  have x5 := x5.below hb
  have B := B.trans (hb.mono B.size)
  clear hb
  generalize w5.heap.size = gx at *
  refine (ctext_f (L := 446) x5 (qv_ht HU.out HV.out HR.out) (by omega) (HT.out.below B).tab _ HS.out).mono ?_
  rintro e w6 ⟨rfl, hb⟩
  have bR := bR.below' hb
  have bx := bx.below' hb
  have x5 := x5.below hb
  have B := B.trans (hb.mono B.size)
  clear hb
  have q0 : w6.cell? ⟨gx, 0, none⟩ = some (.bool p5) := bx.at_ 0
  have q1 : w6.cell? ⟨gx, 1, none⟩ = some (.slice A5 n5 c5) := bx.at_ 1
  have q2 : w6.cell? ⟨gx, 2, none⟩ = some (.slice B5 m5 d5) := bx.at_ 2
  have g0 : w6.cell? ⟨w.heap.size, 0, none⟩ = some (.bool false) := bR.at_ 0
  have g1 : w6.cell? ⟨w.heap.size, 1, none⟩ = some (.slice none 0 0) := bR.at_ 1
  have g2 : w6.cell? ⟨w.heap.size, 2, none⟩ = some (.slice none 0 0) := bR.at_ 2
  have f0 := bR.frozen 0
  have f1 := bR.frozen 1
  have f2 := bR.frozen 2
  have gz := bR.lt
  go_wp2_with fail
  clear q0 q1 q2
  clear g0 g1 g2 f0 f1 f2
  generalize hW3 : ((World.setCell _ _ _).setCell _ _).setCell _ _ = W3
  obtain ⟨b3, -, C3, B4, -⟩ := put3 bR hW3
  clear hW3
  have k0 : W3.cell? ⟨w.heap.size, 0, none⟩ = some (.bool false) := b3.at_ 0
  have k1 : W3.cell? ⟨w.heap.size, 1, none⟩ = some (.slice none 0 0) := b3.at_ 1
  have k2 : W3.cell? ⟨w.heap.size, 2, none⟩ = some (.slice none 0 0) := b3.at_ 2
  refine bodyPost_ret (v := .tuple #[.agg #[.bool false, .slice none 0 0, .slice none 0 0], .int .i64 3]) (by simp [results, Tryz.results11, go_sem, k0, k1, k2]) rfl ?_
  exact ⟨rfl, B4 _ _ B (by omega)⟩
end Go.Proofs.YtoeknkakdoemfaaGreatDoor

/- The contract of the reference's Text of fractions. -/
namespace Go.Proofs.YtoeknkakdoemfaaGreatDoor
open Go Go.RowKit

theorem add_str (X Y : ByteArray) (h : X.size + Y.size ≤ 9000000) (W : World) : (Op.stringOp .add X Y).run Tryz.prog W = .ok (.string (X ++ Y)) W := by
  simp [Op.stringOp, go_sem]
  try omega
theorem ret_st {a b : ByteArray} (h : a = b) : Ending.returned (.string a) = .returned (.string b) := by rw [h]
theorem cmp_den {v : Nat} (h0 : v ≠ 0) (h : v ≠ 1) : cmpI v 1 = 1 := cmpI_gt (by omega)
theorem rtext_c {w : World} {A : Option Addr} {n c u : Nat} (h : Cn w A n c u) (hn : n ≤ 100000) (S : ByteArray) (hS : strN (asc u) = S) :
    Calls Tryz.prog 36 #[.agg #[.slice A n c]] w fun e w' => e = .returned (.string S) ∧ Below w.heap.size w w' :=
  rtext_g A n c _ w h.1 h.2.1 h.2.2 hn (dig_u32 u) u (vd u) S hS
set_option maxHeartbeats 4000000 in
set_option maxRecDepth 100000 in
theorem gtext_fn {w : World} {L : Nat} {p : Bool} {A : Option Addr} {n c : Nat} {B : Option Addr} {m d : Nat} {x : Rat} (hx : Fr w L p A n c B m d x) (h1L : 1 ≤ L) (hL : L ≤ 1000) (hd : x.den ≠ 1) (hn : decide (x.num < 0) = true) (S : ByteArray) (hS : qtext x = S) :
    Calls Tryz.prog 12 #[.agg #[.bool p, .slice A n c, .slice B m d]] w fun e w' => e = .returned (.string S) ∧ Below w.heap.size w w' := by
  have HH := hide hx.ht
  have HD := hide hd
  have hl := hx.ht
  obtain ⟨X, hX⟩ : ∃ X, strN (asc x.num.natAbs) = X := ⟨_, rfl⟩
  have zX : X.size ≤ 1000000 := by rw [← hX]; exact size_le (upB hl.1 (by omega : L + 1 ≤ L + 2)) (by omega)
  obtain ⟨Y, hY⟩ : ∃ Y, strN (asc x.den) = Y := ⟨_, rfl⟩
  have zY : Y.size ≤ 1000000 := by rw [← hY]; exact size_le (upB hl.2 (by omega : L + 1 ≤ L + 2)) (by omega)
  have A1 := fun (W : World) => add_str ⟨#[47]⟩ Y (by show 1 + _ ≤ _; omega) W
  have A2 := fun (W : World) => add_str X (⟨#[47]⟩ ++ Y) (by rw [ByteArray.size_append]; show _ + (1 + _) ≤ _; omega) W
  have A3 := fun (W : World) => add_str ⟨#[45]⟩ (X ++ (⟨#[47]⟩ ++ Y)) (by simp only [ByteArray.size_append]; show 1 + (_ + (1 + _)) ≤ _; omega) W
  have HS := hide (show ⟨#[45]⟩ ++ (X ++ (⟨#[47]⟩ ++ Y)) = S from by
    rw [← hS, ← hX, ← hY]
    unfold qtext qbody
    rw [hn, if_neg hd, if_pos rfl]
    rfl)
  have HX := hide hX
  have HY := hide hY
  have hp1 : x.num.natAbs < B9 ^ (L + 1) := hl.1
  have hp2 : x.den < B9 ^ (L + 1) := hl.2
  have HP1 := hide hp1
  have HP2 := hide hp2
  clear hS hX hY hl hd hp1 hp2
  go_enter Tryz.func12, Tryz.ntmps12
  go_wp2_with fail
  generalize hW : w.alloc _ = W
  obtain ⟨B, b0, -⟩ := boxesA1 hW
  clear hW
  refine (gnorm_f (hx.below B) h1L (by omega) _ rfl).mono ?_
  rintro e w1 ⟨p1, A1', n1, c1, B1, m1, d1, rfl, ⟨hp, h1, i1⟩, hb⟩
  have b0 := b0.below' hb
  have B := B.trans (hb.mono B.size)
  clear hb hx
  rw [hn] at hp
  subst hp
  have g0 : w1.cell? ⟨w.heap.size, 0, none⟩ = some (.bool p) := b0.at_ 0
  have g1 : w1.cell? ⟨w.heap.size, 1, none⟩ = some (.slice A n c) := b0.at_ 1
  have g2 : w1.cell? ⟨w.heap.size, 2, none⟩ = some (.slice _ m d) := b0.at_ 2
  have f0 := b0.frozen 0
  have f1 := b0.frozen 1
  have f2 := b0.frozen 2
  go_wp2_with fail
  clear g0 g1 g2 f0 f1 f2
  generalize hW3 : ((w1.setCell _ _).setCell _ _).setCell _ _ = W3
  obtain ⟨b3, -, C3, B4, -⟩ := put3 b0 hW3
  clear hW3 b0
  have B := B4 _ _ B (Nat.le_refl _)
  have h1 := C3 _ _ _ _ h1
  have i1 := C3 _ _ _ _ i1
  clear C3 B4
  have l1 := len_le h1.1.len HP1.out
  have l2 := len_le i1.1.len HP2.out
  refine (rtext_c h1 (by omega) _ HX.out).mono ?_
  rintro e w4 ⟨rfl, hb⟩
  have b3 := b3.below' hb
  have i1 := i1.below hb
  have B := B.trans (hb.mono B.size)
  clear hb h1
  have fb0 : w4.cell? ⟨w.heap.size, 0, none⟩ = some (.bool true) := b3.at_ 0
  have fb2 : w4.cell? ⟨w.heap.size, 2, none⟩ = some (.slice B1 m1 d1) := b3.at_ 2
  have zb : w.heap.size < w4.heap.size := b3.lt
  go_wp2_with fail
  have KS : Hid (∀ w', Below w4.heap.size w4 w' → w'.cell? ⟨w.heap.size, 2, none⟩ = some (.slice B1 m1 d1)) := fun w' h => (b3.below' h).at_ 2
  have P0 : Below w4.heap.size w4 w4.drew := (Below.refl _ _).drew
  have CC : Hid (∀ (W : World), Below w4.heap.size w4 W → ∀ (A' : Option Addr) (n' c' : Nat), Cn W A' n' c' 1 → Calls Tryz.prog 37 #[.agg #[.slice B1 m1 d1], .agg #[.slice A' n' c']] W fun e w' => e = .returned (.int .i64 1) ∧ Below W.heap.size W w') := fun W hW A' n' c' h =>
    rcmp_n (L := L + 1) ((i1.below hW).nt HP2.out) (h.nt (one_lt_B (by omega))) (by omega) _ (cmp_den x.den_nz HD.out)
  go_region_held3 (fun w' => w'.cell? ⟨w.heap.size, 2, none⟩ = some (.slice B1 m1 d1))
    (first | with_reducible exact KS.out _ E2 | with_reducible exact KS.out _ E1 | with_reducible exact KS.out _ P0 | with_reducible exact KS.out _ (Below.refl _ _))
    (first
      | (go_at_call 38; (with_reducible refine (gof_one _).mono ?_); rintro e u1 hg; obtain ⟨A9, n9, c9, rfl, a9, hx1⟩ := hg.cn; have E1 : Below w4.heap.size w4 u1 := P0.trans (hx1.mono P0.size))
      | (go_at_call 37; (with_reducible refine (CC.out _ E1 _ _ _ a9).mono ?_); rintro e u2 ⟨rfl, hx2⟩; have E2 : Below w4.heap.size w4 u2 := E1.trans (hx2.mono E1.size)))
  have B := B.trans (E2.mono B.size)
  have b3 := b3.below' E2
  have i1 := i1.below E2
  clear fb0 fb2 zb CC KS P0 E1 hx1 hx2 a9
  have fb0 : u2.cell? ⟨w.heap.size, 0, none⟩ = some (.bool true) := b3.at_ 0
  have fb2 : u2.cell? ⟨w.heap.size, 2, none⟩ = some (.slice B1 m1 d1) := b3.at_ 2
  have zb : w.heap.size < u2.heap.size := b3.lt
  clear E2
  go_wp2_with fail
  refine (rtext_c i1 (by omega) _ HY.out).mono ?_
  rintro e w5 ⟨rfl, hb⟩
  have b3 := b3.below' hb
  have B := B.trans (hb.mono B.size)
  clear hb i1 fb0 fb2 zb
  have fb0 : w5.cell? ⟨w.heap.size, 0, none⟩ = some (.bool true) := b3.at_ 0
  go_wp2_with fail
  go_ret
  exact ⟨ret_st HS.out, B⟩
set_option maxHeartbeats 4000000 in
set_option maxRecDepth 100000 in
theorem gtext_fp {w : World} {L : Nat} {p : Bool} {A : Option Addr} {n c : Nat} {B : Option Addr} {m d : Nat} {x : Rat} (hx : Fr w L p A n c B m d x) (h1L : 1 ≤ L) (hL : L ≤ 1000) (hd : x.den ≠ 1) (hn : decide (x.num < 0) = false) (S : ByteArray) (hS : qtext x = S) :
    Calls Tryz.prog 12 #[.agg #[.bool p, .slice A n c, .slice B m d]] w fun e w' => e = .returned (.string S) ∧ Below w.heap.size w w' := by
  have HH := hide hx.ht
  have HD := hide hd
  have hl := hx.ht
  obtain ⟨X, hX⟩ : ∃ X, strN (asc x.num.natAbs) = X := ⟨_, rfl⟩
  have zX : X.size ≤ 1000000 := by rw [← hX]; exact size_le (upB hl.1 (by omega : L + 1 ≤ L + 2)) (by omega)
  obtain ⟨Y, hY⟩ : ∃ Y, strN (asc x.den) = Y := ⟨_, rfl⟩
  have zY : Y.size ≤ 1000000 := by rw [← hY]; exact size_le (upB hl.2 (by omega : L + 1 ≤ L + 2)) (by omega)
  have A1 := fun (W : World) => add_str ⟨#[47]⟩ Y (by show 1 + _ ≤ _; omega) W
  have A2 := fun (W : World) => add_str X (⟨#[47]⟩ ++ Y) (by rw [ByteArray.size_append]; show _ + (1 + _) ≤ _; omega) W
  have HS := hide (show (X ++ (⟨#[47]⟩ ++ Y)) = S from by
    rw [← hS, ← hX, ← hY]
    unfold qtext qbody
    rw [hn, if_neg hd, if_neg (by decide)]
    rfl)
  have HX := hide hX
  have HY := hide hY
  have hp1 : x.num.natAbs < B9 ^ (L + 1) := hl.1
  have hp2 : x.den < B9 ^ (L + 1) := hl.2
  have HP1 := hide hp1
  have HP2 := hide hp2
  clear hS hX hY hl hd hp1 hp2
  go_enter Tryz.func12, Tryz.ntmps12
  go_wp2_with fail
  generalize hW : w.alloc _ = W
  obtain ⟨B, b0, -⟩ := boxesA1 hW
  clear hW
  refine (gnorm_f (hx.below B) h1L (by omega) _ rfl).mono ?_
  rintro e w1 ⟨p1, A1', n1, c1, B1, m1, d1, rfl, ⟨hp, h1, i1⟩, hb⟩
  have b0 := b0.below' hb
  have B := B.trans (hb.mono B.size)
  clear hb hx
  rw [hn] at hp
  subst hp
  have g0 : w1.cell? ⟨w.heap.size, 0, none⟩ = some (.bool p) := b0.at_ 0
  have g1 : w1.cell? ⟨w.heap.size, 1, none⟩ = some (.slice A n c) := b0.at_ 1
  have g2 : w1.cell? ⟨w.heap.size, 2, none⟩ = some (.slice _ m d) := b0.at_ 2
  have f0 := b0.frozen 0
  have f1 := b0.frozen 1
  have f2 := b0.frozen 2
  go_wp2_with fail
  clear g0 g1 g2 f0 f1 f2
  generalize hW3 : ((w1.setCell _ _).setCell _ _).setCell _ _ = W3
  obtain ⟨b3, -, C3, B4, -⟩ := put3 b0 hW3
  clear hW3 b0
  have B := B4 _ _ B (Nat.le_refl _)
  have h1 := C3 _ _ _ _ h1
  have i1 := C3 _ _ _ _ i1
  clear C3 B4
  have l1 := len_le h1.1.len HP1.out
  have l2 := len_le i1.1.len HP2.out
  refine (rtext_c h1 (by omega) _ HX.out).mono ?_
  rintro e w4 ⟨rfl, hb⟩
  have b3 := b3.below' hb
  have i1 := i1.below hb
  have B := B.trans (hb.mono B.size)
  clear hb h1
  have fb0 : w4.cell? ⟨w.heap.size, 0, none⟩ = some (.bool false) := b3.at_ 0
  have fb2 : w4.cell? ⟨w.heap.size, 2, none⟩ = some (.slice B1 m1 d1) := b3.at_ 2
  have zb : w.heap.size < w4.heap.size := b3.lt
  go_wp2_with fail
  have KS : Hid (∀ w', Below w4.heap.size w4 w' → w'.cell? ⟨w.heap.size, 2, none⟩ = some (.slice B1 m1 d1)) := fun w' h => (b3.below' h).at_ 2
  have P0 : Below w4.heap.size w4 w4.drew := (Below.refl _ _).drew
  have CC : Hid (∀ (W : World), Below w4.heap.size w4 W → ∀ (A' : Option Addr) (n' c' : Nat), Cn W A' n' c' 1 → Calls Tryz.prog 37 #[.agg #[.slice B1 m1 d1], .agg #[.slice A' n' c']] W fun e w' => e = .returned (.int .i64 1) ∧ Below W.heap.size W w') := fun W hW A' n' c' h =>
    rcmp_n (L := L + 1) ((i1.below hW).nt HP2.out) (h.nt (one_lt_B (by omega))) (by omega) _ (cmp_den x.den_nz HD.out)
  go_region_held3 (fun w' => w'.cell? ⟨w.heap.size, 2, none⟩ = some (.slice B1 m1 d1))
    (first | with_reducible exact KS.out _ E2 | with_reducible exact KS.out _ E1 | with_reducible exact KS.out _ P0 | with_reducible exact KS.out _ (Below.refl _ _))
    (first
      | (go_at_call 38; (with_reducible refine (gof_one _).mono ?_); rintro e u1 hg; obtain ⟨A9, n9, c9, rfl, a9, hx1⟩ := hg.cn; have E1 : Below w4.heap.size w4 u1 := P0.trans (hx1.mono P0.size))
      | (go_at_call 37; (with_reducible refine (CC.out _ E1 _ _ _ a9).mono ?_); rintro e u2 ⟨rfl, hx2⟩; have E2 : Below w4.heap.size w4 u2 := E1.trans (hx2.mono E1.size)))
  have B := B.trans (E2.mono B.size)
  have b3 := b3.below' E2
  have i1 := i1.below E2
  clear fb0 fb2 zb CC KS P0 E1 hx1 hx2 a9
  have fb0 : u2.cell? ⟨w.heap.size, 0, none⟩ = some (.bool false) := b3.at_ 0
  have fb2 : u2.cell? ⟨w.heap.size, 2, none⟩ = some (.slice B1 m1 d1) := b3.at_ 2
  have zb : w.heap.size < u2.heap.size := b3.lt
  clear E2
  go_wp2_with fail
  refine (rtext_c i1 (by omega) _ HY.out).mono ?_
  rintro e w5 ⟨rfl, hb⟩
  have b3 := b3.below' hb
  have B := B.trans (hb.mono B.size)
  clear hb i1 fb0 fb2 zb
  have fb0 : w5.cell? ⟨w.heap.size, 0, none⟩ = some (.bool false) := b3.at_ 0
  go_wp2_with fail
  go_ret
  exact ⟨ret_st HS.out, B⟩
set_option maxHeartbeats 4000000 in
set_option maxRecDepth 100000 in
theorem gtext_wn {w : World} {L : Nat} {p : Bool} {A : Option Addr} {n c : Nat} {B : Option Addr} {m d : Nat} {x : Rat} (hx : Fr w L p A n c B m d x) (h1L : 1 ≤ L) (hL : L ≤ 1000) (hd : x.den = 1) (hn : decide (x.num < 0) = true) (S : ByteArray) (hS : qtext x = S) :
    Calls Tryz.prog 12 #[.agg #[.bool p, .slice A n c, .slice B m d]] w fun e w' => e = .returned (.string S) ∧ Below w.heap.size w w' := by
  have HH := hide hx.ht
  have HD := hide hd
  have hl := hx.ht
  obtain ⟨X, hX⟩ : ∃ X, strN (asc x.num.natAbs) = X := ⟨_, rfl⟩
  have zX : X.size ≤ 1000000 := by rw [← hX]; exact size_le (upB hl.1 (by omega : L + 1 ≤ L + 2)) (by omega)
  have A3 := fun (W : World) => add_str ⟨#[45]⟩ X (by show 1 + _ ≤ _; omega) W
  have HS := hide (show ⟨#[45]⟩ ++ X = S from by
    rw [← hS, ← hX]
    unfold qtext qbody
    rw [hn, if_pos hd, if_pos rfl]
    rfl)
  have HX := hide hX
  have hp1 : x.num.natAbs < B9 ^ (L + 1) := hl.1
  have hp2 : x.den < B9 ^ (L + 1) := hl.2
  have HP1 := hide hp1
  have HP2 := hide hp2
  clear hS hX hl hd hp1 hp2
  go_enter Tryz.func12, Tryz.ntmps12
  go_wp2_with fail
  generalize hW : w.alloc _ = W
  obtain ⟨B, b0, -⟩ := boxesA1 hW
  clear hW
  refine (gnorm_f (hx.below B) h1L (by omega) _ rfl).mono ?_
  rintro e w1 ⟨p1, A1', n1, c1, B1, m1, d1, rfl, ⟨hp, h1, i1⟩, hb⟩
  have b0 := b0.below' hb
  have B := B.trans (hb.mono B.size)
  clear hb hx
  rw [hn] at hp
  subst hp
  have g0 : w1.cell? ⟨w.heap.size, 0, none⟩ = some (.bool p) := b0.at_ 0
  have g1 : w1.cell? ⟨w.heap.size, 1, none⟩ = some (.slice A n c) := b0.at_ 1
  have g2 : w1.cell? ⟨w.heap.size, 2, none⟩ = some (.slice _ m d) := b0.at_ 2
  have f0 := b0.frozen 0
  have f1 := b0.frozen 1
  have f2 := b0.frozen 2
  go_wp2_with fail
  clear g0 g1 g2 f0 f1 f2
  generalize hW3 : ((w1.setCell _ _).setCell _ _).setCell _ _ = W3
  obtain ⟨b3, -, C3, B4, -⟩ := put3 b0 hW3
  clear hW3 b0
  have B := B4 _ _ B (Nat.le_refl _)
  have h1 := C3 _ _ _ _ h1
  have i1 := C3 _ _ _ _ i1
  clear C3 B4
  have l1 := len_le h1.1.len HP1.out
  have l2 := len_le i1.1.len HP2.out
  refine (rtext_c h1 (by omega) _ HX.out).mono ?_
  rintro e w4 ⟨rfl, hb⟩
  have b3 := b3.below' hb
  have i1 := i1.below hb
  have B := B.trans (hb.mono B.size)
  clear hb h1
  have fb0 : w4.cell? ⟨w.heap.size, 0, none⟩ = some (.bool true) := b3.at_ 0
  have fb2 : w4.cell? ⟨w.heap.size, 2, none⟩ = some (.slice B1 m1 d1) := b3.at_ 2
  have zb : w.heap.size < w4.heap.size := b3.lt
  go_wp2_with fail
  have KS : Hid (∀ w', Below w4.heap.size w4 w' → w'.cell? ⟨w.heap.size, 2, none⟩ = some (.slice B1 m1 d1)) := fun w' h => (b3.below' h).at_ 2
  have P0 : Below w4.heap.size w4 w4.drew := (Below.refl _ _).drew
  have CC : Hid (∀ (W : World), Below w4.heap.size w4 W → ∀ (A' : Option Addr) (n' c' : Nat), Cn W A' n' c' 1 → Calls Tryz.prog 37 #[.agg #[.slice B1 m1 d1], .agg #[.slice A' n' c']] W fun e w' => e = .returned (.int .i64 0) ∧ Below W.heap.size W w') := fun W hW A' n' c' h =>
    rcmp_n (L := L + 1) ((i1.below hW).nt HP2.out) (h.nt (one_lt_B (by omega))) (by omega) _ (by rw [HD.out]; exact cmp_refl 1)
  go_region_held3 (fun w' => w'.cell? ⟨w.heap.size, 2, none⟩ = some (.slice B1 m1 d1))
    (first | with_reducible exact KS.out _ E2 | with_reducible exact KS.out _ E1 | with_reducible exact KS.out _ P0 | with_reducible exact KS.out _ (Below.refl _ _))
    (first
      | (go_at_call 38; (with_reducible refine (gof_one _).mono ?_); rintro e u1 hg; obtain ⟨A9, n9, c9, rfl, a9, hx1⟩ := hg.cn; have E1 : Below w4.heap.size w4 u1 := P0.trans (hx1.mono P0.size))
      | (go_at_call 37; (with_reducible refine (CC.out _ E1 _ _ _ a9).mono ?_); rintro e u2 ⟨rfl, hx2⟩; have E2 : Below w4.heap.size w4 u2 := E1.trans (hx2.mono E1.size)))
  have B := B.trans (E2.mono B.size)
  have b3 := b3.below' E2
  have i1 := i1.below E2
  clear fb0 fb2 zb CC KS P0 E1 hx1 hx2 a9
  have fb0 : u2.cell? ⟨w.heap.size, 0, none⟩ = some (.bool true) := b3.at_ 0
  have fb2 : u2.cell? ⟨w.heap.size, 2, none⟩ = some (.slice B1 m1 d1) := b3.at_ 2
  have zb : w.heap.size < u2.heap.size := b3.lt
  clear E2
  go_wp2_with fail
  go_ret
  exact ⟨ret_st HS.out, B⟩
set_option maxHeartbeats 4000000 in
set_option maxRecDepth 100000 in
theorem gtext_wp {w : World} {L : Nat} {p : Bool} {A : Option Addr} {n c : Nat} {B : Option Addr} {m d : Nat} {x : Rat} (hx : Fr w L p A n c B m d x) (h1L : 1 ≤ L) (hL : L ≤ 1000) (hd : x.den = 1) (hn : decide (x.num < 0) = false) (S : ByteArray) (hS : qtext x = S) :
    Calls Tryz.prog 12 #[.agg #[.bool p, .slice A n c, .slice B m d]] w fun e w' => e = .returned (.string S) ∧ Below w.heap.size w w' := by
  have HH := hide hx.ht
  have HD := hide hd
  have hl := hx.ht
  obtain ⟨X, hX⟩ : ∃ X, strN (asc x.num.natAbs) = X := ⟨_, rfl⟩
  have zX : X.size ≤ 1000000 := by rw [← hX]; exact size_le (upB hl.1 (by omega : L + 1 ≤ L + 2)) (by omega)
  have HS := hide (show X = S from by
    rw [← hS, ← hX]
    unfold qtext qbody
    rw [hn, if_pos hd, if_neg (by decide)]
)
  have HX := hide hX
  have hp1 : x.num.natAbs < B9 ^ (L + 1) := hl.1
  have hp2 : x.den < B9 ^ (L + 1) := hl.2
  have HP1 := hide hp1
  have HP2 := hide hp2
  clear hS hX hl hd hp1 hp2
  go_enter Tryz.func12, Tryz.ntmps12
  go_wp2_with fail
  generalize hW : w.alloc _ = W
  obtain ⟨B, b0, -⟩ := boxesA1 hW
  clear hW
  refine (gnorm_f (hx.below B) h1L (by omega) _ rfl).mono ?_
  rintro e w1 ⟨p1, A1', n1, c1, B1, m1, d1, rfl, ⟨hp, h1, i1⟩, hb⟩
  have b0 := b0.below' hb
  have B := B.trans (hb.mono B.size)
  clear hb hx
  rw [hn] at hp
  subst hp
  have g0 : w1.cell? ⟨w.heap.size, 0, none⟩ = some (.bool p) := b0.at_ 0
  have g1 : w1.cell? ⟨w.heap.size, 1, none⟩ = some (.slice A n c) := b0.at_ 1
  have g2 : w1.cell? ⟨w.heap.size, 2, none⟩ = some (.slice _ m d) := b0.at_ 2
  have f0 := b0.frozen 0
  have f1 := b0.frozen 1
  have f2 := b0.frozen 2
  go_wp2_with fail
  clear g0 g1 g2 f0 f1 f2
  generalize hW3 : ((w1.setCell _ _).setCell _ _).setCell _ _ = W3
  obtain ⟨b3, -, C3, B4, -⟩ := put3 b0 hW3
  clear hW3 b0
  have B := B4 _ _ B (Nat.le_refl _)
  have h1 := C3 _ _ _ _ h1
  have i1 := C3 _ _ _ _ i1
  clear C3 B4
  have l1 := len_le h1.1.len HP1.out
  have l2 := len_le i1.1.len HP2.out
  refine (rtext_c h1 (by omega) _ HX.out).mono ?_
  rintro e w4 ⟨rfl, hb⟩
  have b3 := b3.below' hb
  have i1 := i1.below hb
  have B := B.trans (hb.mono B.size)
  clear hb h1
  have fb0 : w4.cell? ⟨w.heap.size, 0, none⟩ = some (.bool false) := b3.at_ 0
  have fb2 : w4.cell? ⟨w.heap.size, 2, none⟩ = some (.slice B1 m1 d1) := b3.at_ 2
  have zb : w.heap.size < w4.heap.size := b3.lt
  go_wp2_with fail
  have KS : Hid (∀ w', Below w4.heap.size w4 w' → w'.cell? ⟨w.heap.size, 2, none⟩ = some (.slice B1 m1 d1)) := fun w' h => (b3.below' h).at_ 2
  have P0 : Below w4.heap.size w4 w4.drew := (Below.refl _ _).drew
  have CC : Hid (∀ (W : World), Below w4.heap.size w4 W → ∀ (A' : Option Addr) (n' c' : Nat), Cn W A' n' c' 1 → Calls Tryz.prog 37 #[.agg #[.slice B1 m1 d1], .agg #[.slice A' n' c']] W fun e w' => e = .returned (.int .i64 0) ∧ Below W.heap.size W w') := fun W hW A' n' c' h =>
    rcmp_n (L := L + 1) ((i1.below hW).nt HP2.out) (h.nt (one_lt_B (by omega))) (by omega) _ (by rw [HD.out]; exact cmp_refl 1)
  go_region_held3 (fun w' => w'.cell? ⟨w.heap.size, 2, none⟩ = some (.slice B1 m1 d1))
    (first | with_reducible exact KS.out _ E2 | with_reducible exact KS.out _ E1 | with_reducible exact KS.out _ P0 | with_reducible exact KS.out _ (Below.refl _ _))
    (first
      | (go_at_call 38; (with_reducible refine (gof_one _).mono ?_); rintro e u1 hg; obtain ⟨A9, n9, c9, rfl, a9, hx1⟩ := hg.cn; have E1 : Below w4.heap.size w4 u1 := P0.trans (hx1.mono P0.size))
      | (go_at_call 37; (with_reducible refine (CC.out _ E1 _ _ _ a9).mono ?_); rintro e u2 ⟨rfl, hx2⟩; have E2 : Below w4.heap.size w4 u2 := E1.trans (hx2.mono E1.size)))
  have B := B.trans (E2.mono B.size)
  have b3 := b3.below' E2
  have i1 := i1.below E2
  clear fb0 fb2 zb CC KS P0 E1 hx1 hx2 a9
  have fb0 : u2.cell? ⟨w.heap.size, 0, none⟩ = some (.bool false) := b3.at_ 0
  have fb2 : u2.cell? ⟨w.heap.size, 2, none⟩ = some (.slice B1 m1 d1) := b3.at_ 2
  have zb : w.heap.size < u2.heap.size := b3.lt
  clear E2
  go_wp2_with fail
  go_ret
  exact ⟨ret_st HS.out, B⟩
end Go.Proofs.YtoeknkakdoemfaaGreatDoor

/- coinageref02.Parse: lemmas. -/
namespace Go.Proofs.YtoeknkakdoemfaaGreatDoor
open Go Go.RowKit

theorem boxZ {w W : World} {vs : Array Value} {t : TypeId} (hW : (w.alloc (.cells vs t)).drew = W) : Below w.heap.size w W ∧ Box W w.heap.size vs t := by
  subst hW
  exact ⟨((Below.refl _ _).alloc (Nat.le_refl _) _).drew, Box.new _ _ _⟩
theorem gtext_f {w : World} {L : Nat} {p : Bool} {A : Option Addr} {n c : Nat} {B : Option Addr} {m d : Nat} {x : Rat} (hx : Fr w L p A n c B m d x) (h1L : 1 ≤ L) (hL : L ≤ 1000) (S : ByteArray) (hS : qtext x = S) :
    Calls Tryz.prog 12 #[.agg #[.bool p, .slice A n c, .slice B m d]] w fun e w' => e = .returned (.string S) ∧ Below w.heap.size w w' := by
  by_cases hd : x.den = 1
  · rcases hn : decide (x.num < 0)
    · exact gtext_wp hx h1L hL hd hn S hS
    · exact gtext_wn hx h1L hL hd hn S hS
  · rcases hn : decide (x.num < 0)
    · exact gtext_fp hx h1L hL hd hn S hS
    · exact gtext_fn hx h1L hL hd hn S hS
end Go.Proofs.YtoeknkakdoemfaaGreatDoor
