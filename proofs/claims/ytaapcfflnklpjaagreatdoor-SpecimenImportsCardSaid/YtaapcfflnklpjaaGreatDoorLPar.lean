/- Parse. -/
import Derived.Test.YtaapcfflnklpjaaGreatDoorLParM
import Derived.Test.YtaapcfflnklpjaaGreatDoorShelf5
import Derived.Shelf.Strings.SlTrimAscii
import Derived.StillTailTactics
import Derived.IntWalk
import Derived.Deep.CutRange
namespace Go.Proofs.YtaapcfflnklpjaaGreatDoor
open Go Go.RowKit Go.Lib

theorem toList_inj {a b : ByteArray} (h : a.toList = b.toList) : a = b := by
  rw [Lib.toList_data, Lib.toList_data] at h
  exact ByteArray.ext (Array.toList_inj.1 h)
theorem data_strB (l : List UInt8) : (strB l).data.toList = l := by simp [strB]
theorem strB_data (s : ByteArray) : strB s.data.toList = s := by apply ByteArray.ext; simp [strB]
theorem trimr_any (s : ByteArray) (hs : s.size ≤ 5000) (b : UInt8) (r : List UInt8) (hl : s.data.toList = b :: r) (W : World) :
    Calls Tryz.prog 114 #[.string (s.extract 1 s.size), .string ⟨#[97, 98, 99, 100, 101, 102, 103, 104, 105]⟩] W fun e w' => e = .returned (.string (strB (Lib.trimRightS r stL))) ∧ Below W.heap.size W w' := by
  have e : (s.extract 1 s.size).data.toList = r := by rw [Lib.extract_to_end, hl]; rfl
  have := Any.strings_TrimRight_laid Tryz.lays162 (by kernel_rfl) (s.extract 1 s.size) ⟨#[97, 98, 99, 100, 101, 102, 103, 104, 105]⟩ W (by have := Lib.size_eq (s.extract 1 s.size); have h2 := Lib.size_eq s; rw [e] at this; rw [hl, List.length_cons] at h2; omega) (by decide) (ascii_of_all (by decide))
  rw [e] at this
  exact this
theorem trimr_len (r : List UInt8) : (Lib.trimRightS r stL).length ≤ r.length := by
  unfold Lib.trimRightS
  rw [List.length_reverse]
  have := (List.dropWhile_suffix (fun b => stL.contains b) (l := r.reverse)).length_le
  rw [List.length_reverse] at this
  exact this
theorem ib_any (l : ByteArray) (c : UInt8) (W : World) (r : Int) (h : Lib.indexByte l.data.toList c = r) :
    Calls Tryz.prog 101 #[.string l, .int .u8 (c.toNat : Int)] W fun e w' => e = .returned (.int .i64 r) ∧ w' = W :=
  (Tryz.strings_IndexByte l (c.toNat : Int) W).mono fun _ _ ⟨h1, h2⟩ => ⟨by rw [h1, ← h]; simp, h2⟩
theorem at_data (s : ByteArray) (i : Nat) (h : i < s.size) : s[i] = s.data.toList[i]'(by rw [← Lib.size_eq]; exact h) := by
  simp [ByteArray.getElem_eq_getElem_data]
theorem ib_le : ∀ (l : List UInt8) (c : UInt8), Lib.indexByte l c ≤ l.length
  | [], _ => by unfold Lib.indexByte; decide
  | b :: l, c => by
    have := ib_le l c
    unfold Lib.indexByte
    split
    · simp; omega
    · split
      · simp; omega
      · simp; omega
/-- a label in a new box that a slot points to -/
def MadeL (W : World) (a b c : Int) (s : Value) (wx : World) : Prop := ∃ g, s = .pointer (some ⟨g, 0, none⟩) ∧ W.heap.size ≤ g ∧ Box wx g #[.int .i64 a, .int .i64 b, .int .i64 c] 55 ∧ Below W.heap.size W wx
/-- a label and an error's number -/
def GivesP (s n t er : Int) (w : World) (e : Ending) (w' : World) : Prop := e = .returned (.tuple #[.agg #[.int .i64 s, .int .i64 n, .int .i64 t], .int .i64 er]) ∧ Below w.heap.size w w'
set_option maxHeartbeats 1000000 in
theorem par_e (w : World) : Calls Tryz.prog 85 #[.string ⟨#[]⟩] w (GivesP 0 0 0 3 w) := by
  have e0 : ((⟨#[]⟩ : ByteArray).toList == []) = true := by rw [Lib.toList_data]; rfl
  go_enter Tryz.func85, Tryz.ntmps85
  go_wp2_with fail
  refine bodyPost_ret (v := .tuple #[.agg #[.int .i64 0, .int .i64 0, .int .i64 0], .int .i64 3]) (by simp [results, Tryz.results85, go_sem, *]) rfl ?_
  exact ⟨rfl, by first | exact (Below.refl _ _).alloc (Nat.le_refl _) _ | exact Below.setCell ((Below.refl _ _).alloc (Nat.le_refl _) _) (Nat.le_refl _) _⟩
/-- what Parse gives -/
def parR (l : List UInt8) : Int × Int × Int × Int := match parL l with
  | some (s, n, t) => (s, n, t, 0)
  | none => (0, 0, 0, 3)
theorem parR_none {b : UInt8} {r : List UInt8} (h : endL (Lib.trimRightS r stL) = none) : parR (b :: r) = (0, 0, 0, 3) := by
  have : parL (b :: r) = none := by
    unfold parL guess
    simp only [h]
  unfold parR
  rw [this]
theorem parR_some {b : UInt8} {r : List UInt8} {s0 n t0 : Int} (h : endL (Lib.trimRightS r stL) = some n) (h0 : Lib.indexByte [79, 82] b = s0) (h1 : Lib.indexByte stL ((b :: r).getLastD 0) = t0) :
    (labT s0 n (t0 + 1) = strB (b :: r) → parR (b :: r) = (s0, n, t0 + 1, 0)) ∧ (labT s0 n (t0 + 1) ≠ strB (b :: r) → parR (b :: r) = (0, 0, 0, 3)) := by
  have hp : parL (b :: r) = if lB s0 n (t0 + 1) = true ∧ labL s0 n (t0 + 1) = b :: r then some (s0, n, t0 + 1) else none := by
    unfold parL guess
    simp only [h, h0, h1]
  have hi : (lB s0 n (t0 + 1) = true ∧ labL s0 n (t0 + 1) = b :: r) ↔ labT s0 n (t0 + 1) = strB (b :: r) := by
    unfold labT
    constructor
    · rintro ⟨h1, h2⟩
      rw [if_pos h1, h2]
    · intro he
      split at he
      · rename_i h1
        refine ⟨h1, ?_⟩
        have := congrArg (fun x : ByteArray => x.data.toList) he
        simpa [data_strB] using this
      · have := congrArg (fun x : ByteArray => x.data.toList) he
        simp [data_strB] at this
  unfold parR
  rw [hp]
  constructor
  · intro he
    rw [if_pos (hi.2 he)]
  · intro he
    rw [if_neg fun hc => he (hi.1 hc)]
set_option maxHeartbeats 4000000 in
theorem par_y (s : ByteArray) (w : World) (hT : Lw w) (hs : s.size ≤ 5000) (b : UInt8) (r : List UInt8) (hl : s.data.toList = b :: r) (x y z er : Int) (hr : parR (b :: r) = (x, y, z, er)) :
    Calls Tryz.prog 85 #[.string s] w (GivesP x y z er w) := by
  have HT := hide hT
  have hz := Lib.size_eq s
  have HL := hide hl
  have hpos : 0 < s.size := by rw [hz, hl]; simp
  have e0 : (s.toList == []) = false := by rw [Lib.toList_data, hl]; rfl
  have e1 : s.toList.isEmpty = false := by rw [Lib.toList_data, hl]; rfl
  have HTR := hide (trimr_any s hs b r hl)
  have hrl : s.data.toList.length = r.length + 1 := by rw [hl]; rfl
  have HSZ := hide (show (strB (Lib.trimRightS r stL)).size ≤ 5000 from by rw [strB_size]; have h1 := trimr_len r; omega)
  obtain ⟨s0, hs0⟩ : ∃ k, Lib.indexByte [79, 82] b = k := ⟨_, rfl⟩
  obtain ⟨t0, ht0⟩ : ∃ k, Lib.indexByte stL ((b :: r).getLastD 0) = k := ⟨_, rfl⟩
  have hb0 : s[0] = b := by rw [at_data s 0 hpos]; simp [hl]
  have hb1 : s[s.size - 1]'(Nat.sub_lt hpos Nat.one_pos) = (b :: r).getLastD 0 := by
    rw [at_data s (s.size - 1) (by omega)]
    have h1 := last_at b r
    have h2 : s.size - 1 = r.length := by omega
    simp only [hl, h2]
    exact (List.getElem?_eq_some_iff.1 h1).2
  have t0a : -1 ≤ t0 := by rw [← ht0]; exact Lib.indexByte_ge _ _
  have t0b : t0 ≤ 9 := by rw [← ht0]; have := ib_le stL ((b :: r).getLastD 0); have h9 : stL.length = 9 := rfl; omega
  have HI0 := hide (fun W => ib_any ⟨#[79, 82]⟩ s[0] W s0 (by rw [hb0]; exact hs0))
  have HI1 := hide (fun W => ib_any ⟨#[97, 98, 99, 100, 101, 102, 103, 104, 105]⟩ (s[s.size - 1]'(Nat.sub_lt hpos Nat.one_pos)) W t0 (by rw [hb1]; exact ht0))
  have HS0 := hide hs0
  have HT0 := hide ht0
  have i1 : (1 : Int) ≤ (s.size : Int) := by omega
  clear hT hl hz hrl hs0 ht0 hb0 hb1
  have HR := hide hr
  clear hr
  go_enter Tryz.func85, Tryz.ntmps85
  go_wp2_with fail
  generalize hW : w.alloc _ = W
  obtain ⟨B, b2, -⟩ := boxC hW
  clear hW
  refine (HTR.out _).mono ?_
  rintro e w1 ⟨rfl, hb⟩
  have b2 := b2.below' hb
  have B := B.trans (hb.mono B.size)
  clear hb
  go_wp2_with fail
  refine (atoi_any _ HSZ.out _ (HT.out.below B)).mono ?_
  rintro e w2 ⟨⟨n9, v9, rfl, hx⟩, hb⟩
  have b2 := b2.below' hb
  have B := B.trans (hb.mono B.size)
  clear hb
  rw [data_strB] at hx
  have HX := hide hx
  clear hx
  go_wp2_with fail
  have j1 : (0 : Int) ≤ (s.size : Int) - 1 := by omega
  have j2 : (s.size : Int) - 1 < (s.size : Int) := by omega
  have j3 : IntKind.i64.wrap ((s.size : Int) - 1) = (s.size : Int) - 1 := IntWalk.i64_in _ (by omega)
  have j4 : IntKind.i64.wrap (t0 + 1) = t0 + 1 := IntWalk.i64_in _ (by omega)
  have lx := b2.lt
  go_cut [6] from 17 to 28 (fun s6 wx => MadeL w2 s0 n9 (t0 + 1) s6 wx)
  case first =>
    go_region_held3 (fun w' => True) (exact trivial) (first | (go_at_call_of 101 (Value.string ⟨#[79, 82]⟩); (with_reducible refine (HI0.out _).mono ?_); rintro e w3 ⟨rfl, rfl⟩) | (go_at_call 101; (with_reducible refine (HI1.out _).mono ?_); rintro e w4 ⟨rfl, rfl⟩))
    all_goals
      go_wp2_with fail
      go_meet
      exact ⟨_, rfl, Nat.le_refl _, Box.new w2 _ _, ((Below.refl _ _).alloc (Nat.le_refl _) _).drew⟩
  case rest =>
  obtain ⟨g6, rfl, hg6, b6, hb⟩ := hcut
  replace b2 := b2.below' hb
  replace B := B.trans (hb.mono B.size)
  replace hg6 := Nat.le_trans (Nat.lt_of_lt_of_le lx (Nat.le_refl _)) hg6
  clear hb lx
  generalize wc = W2 at *
  have lx := b2.lt
  have l6 := b6.lt
  rcases HX.out with ⟨hx, rfl⟩ | ⟨hx, tp, pp, rfl⟩
  · have hh := parR_some (b := b) hx HS0.out HT0.out
    rw [← HL.out, strB_data, HL.out, HR.out] at hh
    clear hx
    obtain ⟨S, hS⟩ : ∃ S, labT s0 n9 (t0 + 1) = S := ⟨_, rfl⟩
    have HSS := hide hS
    rw [hS] at hh
    clear hS
    have z0 : W2.cell? ⟨g6, 0, none⟩ = some (.int .i64 s0) := b6.at_ 0
    have z1 : W2.cell? ⟨g6, 1, none⟩ = some (.int .i64 n9) := b6.at_ 1
    have z2 : W2.cell? ⟨g6, 2, none⟩ = some (.int .i64 (t0 + 1)) := b6.at_ 2
    by_cases hc : S = s
    · have hq := hh.1 hc
      injection hq with q1 hq; injection hq with q2 hq; injection hq with q3 q4
      subst q1; subst q2; subst q3; subst q4
      subst hc
      clear hh
      go_wp2_with fail
      refine (text_any x y (t0 + 1) _ (HT.out.below B) S HSS.out).mono ?_
      rintro e w5 ⟨rfl, hb⟩
      have B := B.trans (hb.mono B.size)
      replace b6 := b6.below' hb
      replace b2 := b2.below' hb
      have l6 := b6.lt
      have l2 := b2.lt
      have z0 : w5.cell? ⟨g6, 0, none⟩ = some (.int .i64 x) := b6.at_ 0
      have z1 : w5.cell? ⟨g6, 1, none⟩ = some (.int .i64 y) := b6.at_ 1
      have z2 : w5.cell? ⟨g6, 2, none⟩ = some (.int .i64 (t0 + 1)) := b6.at_ 2
      have y0 : w5.cell? ⟨w.heap.size, 0, none⟩ = some (.int .i64 0) := b2.at_ 0
      have y1 : w5.cell? ⟨w.heap.size, 1, none⟩ = some (.int .i64 0) := b2.at_ 1
      have y2 : w5.cell? ⟨w.heap.size, 2, none⟩ = some (.int .i64 0) := b2.at_ 2
      have f0 := b2.frozen 0
      have f1 := b2.frozen 1
      have f2 := b2.frozen 2
      clear hb
      go_wp2_with fail
      refine bodyPost_ret (v := .tuple #[.agg #[.int .i64 x, .int .i64 y, .int .i64 (t0 + 1)], .int .i64 0]) (by simp [results, Tryz.results85, go_sem, *]) rfl ?_
      exact ⟨rfl, ((B.setCell (p := ⟨w.heap.size, 0, none⟩) (Nat.le_refl _) _).setCell (p := ⟨w.heap.size, 1, none⟩) (Nat.le_refl _) _).setCell (p := ⟨w.heap.size, 2, none⟩) (Nat.le_refl _) _⟩
    · have hq := hh.2 hc
      injection hq with q1 hq; injection hq with q2 hq; injection hq with q3 q4
      subst q1; subst q2; subst q3; subst q4
      have ne : (S.toList == s.toList) = false := beq_eq_false_iff_ne.2 fun h => hc (toList_inj h)
      clear hh hc
      go_wp2_with fail
      refine (text_any s0 n9 (t0 + 1) _ (HT.out.below B) S HSS.out).mono ?_
      rintro e w5 ⟨rfl, hb⟩
      have B := B.trans (hb.mono B.size)
      replace b2 := b2.below' hb
      have l2 := b2.lt
      have y0 : w5.cell? ⟨w.heap.size, 0, none⟩ = some (.int .i64 0) := b2.at_ 0
      have y1 : w5.cell? ⟨w.heap.size, 1, none⟩ = some (.int .i64 0) := b2.at_ 1
      have y2 : w5.cell? ⟨w.heap.size, 2, none⟩ = some (.int .i64 0) := b2.at_ 2
      have f0 := b2.frozen 0
      have f1 := b2.frozen 1
      have f2 := b2.frozen 2
      clear hb
      go_wp2_with fail
      refine bodyPost_ret (v := .tuple #[.agg #[.int .i64 0, .int .i64 0, .int .i64 0], .int .i64 3]) (by simp [results, Tryz.results85, go_sem, *]) rfl ?_
      exact ⟨rfl, ((B.setCell (p := ⟨w.heap.size, 0, none⟩) (Nat.le_refl _) _).setCell (p := ⟨w.heap.size, 1, none⟩) (Nat.le_refl _) _).setCell (p := ⟨w.heap.size, 2, none⟩) (Nat.le_refl _) _⟩
  · have hq := parR_none (b := b) hx
    rw [HR.out] at hq
    injection hq with q1 hq; injection hq with q2 hq; injection hq with q3 q4
    subst q1; subst q2; subst q3; subst q4
    clear hx
    have y0 : W2.cell? ⟨w.heap.size, 0, none⟩ = some (.int .i64 0) := b2.at_ 0
    have y1 : W2.cell? ⟨w.heap.size, 1, none⟩ = some (.int .i64 0) := b2.at_ 1
    have y2 : W2.cell? ⟨w.heap.size, 2, none⟩ = some (.int .i64 0) := b2.at_ 2
    have f0 := b2.frozen 0
    have f1 := b2.frozen 1
    have f2 := b2.frozen 2
    go_wp2_with fail
    refine bodyPost_ret (v := .tuple #[.agg #[.int .i64 0, .int .i64 0, .int .i64 0], .int .i64 3]) (by simp [results, Tryz.results85, go_sem, *]) rfl ?_
    exact ⟨rfl, ((B.setCell (p := ⟨w.heap.size, 0, none⟩) (Nat.le_refl _) _).setCell (p := ⟨w.heap.size, 1, none⟩) (Nat.le_refl _) _).setCell (p := ⟨w.heap.size, 2, none⟩) (Nat.le_refl _) _⟩
theorem parse_any (s : ByteArray) (w : World) (hT : Lw w) (hs : s.size ≤ 5000) (x y z er : Int) (hr : parR s.data.toList = (x, y, z, er)) :
    Calls Tryz.prog 85 #[.string s] w (GivesP x y z er w) := by
  rcases hl : s.data.toList with _ | ⟨b, r⟩
  · rw [hl] at hr
    have : parR [] = (0, 0, 0, 3) := rfl
    rw [this] at hr
    injection hr with q1 hr; injection hr with q2 hr; injection hr with q3 q4
    subst q1; subst q2; subst q3; subst q4
    obtain rfl : s = ⟨#[]⟩ := by rw [← strB_data s, hl]; rfl
    exact par_e w
  · rw [hl] at hr
    exact par_y s w hT hs b r hl x y z er hr
end Go.Proofs.YtaapcfflnklpjaaGreatDoor
