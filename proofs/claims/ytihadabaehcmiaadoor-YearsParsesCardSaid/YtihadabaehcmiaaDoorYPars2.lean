/- Parse. -/
import Derived.Test.YtihadabaehcmiaaDoorYParse
namespace Go.Proofs.YtihadabaehcmiaaDoor
open Go Go.RowKit Go.Lib

theorem cutY (s : ByteArray) (w : World) (hT : Lw w) (hs : s.size ≤ 1000) (F T : ByteArray) (h : Bool) (hF : strB (Lib.cut s.data.toList [45]).1 = F) (hh : (Lib.cut s.data.toList [45]).2.2 = h) (hTt : strB (Lib.cut s.data.toList [45]).2.1 = T) :
    Calls Tryd.prog 36 #[.string s, .string ⟨#[45]⟩] w fun e w' => e = .returned (.tuple #[.string F, .string T, .bool h]) ∧ Below w.heap.size w w' := by
  subst hF
  subst hh
  subst hTt
  obtain ⟨-, -, -, m, h4⟩ := hT
  refine Calls.mono (Any.strings_Cut { Tryd.laysM145 with } s ⟨#[45]⟩ m w (by omega) h4) ?_
  rintro e w' ⟨rfl, n, rfl⟩
  exact ⟨rfl, below_drewN (Below.refl _ _) _⟩

def frm (l : List UInt8) : List UInt8 := (Lib.cut l [45]).1
def too (l : List UInt8) : List UInt8 := if (Lib.cut l [45]).2.2 = true then (Lib.cut l [45]).2.1 else (Lib.cut l [45]).1
def fstL (l : List UInt8) (b : Int) : Option Int := match yearL (frm l) with
  | some a => some a
  | none => yearL (frm l ++ eraL b)
/-- what Parse reads -/
def parseL (l : List UInt8) : Option (Int × Int) := match yearL (too l) with
  | none => none
  | some b => match fstL l b with
    | none => none
    | some a => if txt a b = ⟨l.toArray⟩ then some (a, b) else none
theorem toList_inj {a b : ByteArray} (h : a.toList = b.toList) : a = b := by
  rw [Lib.toList_data, Lib.toList_data] at h
  exact ByteArray.ext (Array.toList_inj.1 h)
theorem cut_le (l : List UInt8) : (Lib.cut l [45]).1.length ≤ l.length ∧ (Lib.cut l [45]).2.1.length ≤ l.length := by
  unfold Lib.cut
  split
  · exact ⟨by simp only [List.length_take]; omega, by simp only [List.length_drop]; omega⟩
  · exact ⟨Nat.le_refl _, by simp⟩
theorem data_strB (l : List UInt8) : (strB l).data.toList = l := by simp [strB]
set_option maxHeartbeats 2000000 in
theorem parse1_true (s : ByteArray) (w : World) (hT : Lw w) (hs : s.size ≤ 900) (hh : (Lib.cut s.data.toList [45]).2.2 = true) (h1 : yearL ((Lib.cut s.data.toList [45]).2.1) = none) :
    Calls Tryd.prog 22 #[.string s] w fun e w' => e = .returned (.tuple #[.agg #[.int .i64 0, .int .i64 0], .int .i64 3]) ∧ Below w.heap.size w w' := by
  have hl := cut_le s.data.toList
  have hsz := Lib.size_eq s
  have e0 := strB_size (Lib.cut s.data.toList [45]).1
  have e1 := strB_size (Lib.cut s.data.toList [45]).2.1
  have C0 := hide (fun W hW => cutY s W hW (by omega) _ _ true rfl hh rfl)
  have HT := hide hT
  have C1 := hide (fun W hW => year_none (strB ((Lib.cut s.data.toList [45]).2.1)) W hW (by omega) (by rw [data_strB]; exact h1))
  clear h1 hh hl e0 e1 hsz
  generalize strB (Lib.cut s.data.toList [45]).1 = F at *
  generalize strB (Lib.cut s.data.toList [45]).2.1 = T at *
  clear hT
  go_enter Tryd.func22, Tryd.ntmps22
  go_wp2_with fail
  refine (C0.out _ (HT.out.below ((Below.refl _ _).alloc (Nat.le_refl _) _))).mono ?_
  rintro e w1 ⟨rfl, hb1⟩
  have B1 : Below w.heap.size w w1 := ((Below.refl _ _).alloc (Nat.le_refl _) _).trans (hb1.mono (by simp))
  obtain ⟨hc1, hf1⟩ := bcell hb1
  have z1 : w.heap.size < w1.heap.size := by have := hb1.size; simp at this; omega
  clear hb1
  go_wp2_with fail
  refine (C1.out _ (HT.out.below B1)).mono ?_
  rintro e w2 ⟨n, rfl, hb2⟩
  obtain ⟨hc2, hf2⟩ := bcell hb2
  have z2 : w.heap.size < w2.heap.size := by have := hb2.size; omega
  have B2 := B1.trans (hb2.mono B1.size)
  clear hb2
  go_wp2_with fail
  refine bodyPost_ret (v := .tuple #[.agg #[.int .i64 0, .int .i64 0], .int .i64 3]) ?_ rfl ⟨rfl, ?_⟩
  · simp [results, Tryd.results22, go_sem, *]
  · exact (B2.setCell (Nat.le_refl _) _).setCell (Nat.le_refl _) _
set_option maxHeartbeats 2000000 in
theorem parse2d_true (s : ByteArray) (w : World) (hT : Lw w) (hs : s.size ≤ 900) (hh : (Lib.cut s.data.toList [45]).2.2 = true) (b : Int) (h1 : yearL ((Lib.cut s.data.toList [45]).2.1) = some b) (a : Int) (h2 : yearL ((Lib.cut s.data.toList [45]).1) = some a) (h4 : txt a b = s) :
    Calls Tryd.prog 22 #[.string s] w fun e w' => e = .returned (.tuple #[.agg #[.int .i64 a, .int .i64 b], .int .i64 0]) ∧ Below w.heap.size w w' := by
  have hl := cut_le s.data.toList
  have hsz := Lib.size_eq s
  have e0 := strB_size (Lib.cut s.data.toList [45]).1
  have e1 := strB_size (Lib.cut s.data.toList [45]).2.1
  have C0 := hide (fun W hW => cutY s W hW (by omega) _ _ true rfl hh rfl)
  have HT := hide hT
  have C1 := hide (fun W => year_some (strB ((Lib.cut s.data.toList [45]).2.1)) W (by omega) b (by rw [data_strB]; exact h1))
  have C2 := hide (fun W => year_some (strB ((Lib.cut s.data.toList [45]).1)) W (by omega) a (by rw [data_strB]; exact h2))
  have CT := hide (fun W hW => text_v a b W hW _ rfl)
  rw [h4] at CT
  clear h1 h2 h4 hh hl
  generalize strB (Lib.cut s.data.toList [45]).1 = F at *
  generalize strB (Lib.cut s.data.toList [45]).2.1 = T at *
  clear hT hsz e0 e1
  go_enter Tryd.func22, Tryd.ntmps22
  go_wp2_with fail
  refine (C0.out _ (HT.out.below ((Below.refl _ _).alloc (Nat.le_refl _) _))).mono ?_
  rintro e w1 ⟨rfl, hb1⟩
  have B1 : Below w.heap.size w w1 := ((Below.refl _ _).alloc (Nat.le_refl _) _).trans (hb1.mono (by simp))
  obtain ⟨hc1, hf1⟩ := bcell hb1
  have z1 : w.heap.size < w1.heap.size := by have := hb1.size; simp at this; omega
  clear hb1
  go_wp2_with fail
  refine (C1.out _).mono ?_
  rintro e w2 ⟨rfl, hb2⟩
  obtain ⟨hc2, hf2⟩ := bcell hb2
  have z2 : w.heap.size < w2.heap.size := by have := hb2.size; omega
  have B2 := B1.trans (hb2.mono B1.size)
  clear hb2
  go_wp2_with fail
  refine (C2.out _).mono ?_
  rintro e w3 ⟨rfl, hb3⟩
  obtain ⟨hc3, hf3⟩ := bcell hb3
  have z3 : w.heap.size < w3.heap.size := by have := hb3.size; omega
  have B3 := B2.trans (hb3.mono B2.size)
  clear hb3
  go_wp2_with fail
  have BA : Below w.heap.size w (w3.alloc (.cells #[.int .i64 a, .int .i64 b] 23)) := B3.alloc B3.size _
  refine (CT.out _ (HT.out.below BA)).mono ?_
  rintro e w5 ⟨rfl, hb5⟩
  obtain ⟨hc5, hf5⟩ := bcell hb5
  have z5 : w.heap.size < w5.heap.size := by have := hb5.size; simp at this; omega
  have z5b : w3.heap.size < w5.heap.size := by have := hb5.size; simp at this; omega
  have z5c : w.heap.size < w3.heap.size + 1 := by omega
  have B5 := BA.trans (hb5.mono BA.size)
  clear hb5
  go_wp2_with fail
  refine bodyPost_ret (v := .tuple #[.agg #[.int .i64 a, .int .i64 b], .int .i64 0]) ?_ rfl ⟨rfl, ?_⟩
  · simp [results, Tryd.results22, go_sem, *]
  · exact (B5.setCell (Nat.le_refl _) _).setCell (Nat.le_refl _) _
set_option maxHeartbeats 2000000 in
theorem parse3d_true (s : ByteArray) (w : World) (hT : Lw w) (hs : s.size ≤ 900) (hh : (Lib.cut s.data.toList [45]).2.2 = true) (b : Int) (h1 : yearL ((Lib.cut s.data.toList [45]).2.1) = some b) (a : Int) (h2 : yearL ((Lib.cut s.data.toList [45]).1) = some a) (h4 : txt a b ≠ s) :
    Calls Tryd.prog 22 #[.string s] w fun e w' => e = .returned (.tuple #[.agg #[.int .i64 0, .int .i64 0], .int .i64 3]) ∧ Below w.heap.size w w' := by
  have hl := cut_le s.data.toList
  have hsz := Lib.size_eq s
  have e0 := strB_size (Lib.cut s.data.toList [45]).1
  have e1 := strB_size (Lib.cut s.data.toList [45]).2.1
  have C0 := hide (fun W hW => cutY s W hW (by omega) _ _ true rfl hh rfl)
  have HT := hide hT
  have C1 := hide (fun W => year_some (strB ((Lib.cut s.data.toList [45]).2.1)) W (by omega) b (by rw [data_strB]; exact h1))
  have C2 := hide (fun W => year_some (strB ((Lib.cut s.data.toList [45]).1)) W (by omega) a (by rw [data_strB]; exact h2))
  have CT := hide (fun W hW => text_v a b W hW _ rfl)
  have ne : ((txt a b).toList == s.toList) = false := beq_eq_false_iff_ne.2 fun h => h4 (toList_inj h)
  generalize txt a b = X at *
  clear h1 h2 h4 hh hl
  generalize strB (Lib.cut s.data.toList [45]).1 = F at *
  generalize strB (Lib.cut s.data.toList [45]).2.1 = T at *
  clear hT hsz e0 e1
  go_enter Tryd.func22, Tryd.ntmps22
  go_wp2_with fail
  refine (C0.out _ (HT.out.below ((Below.refl _ _).alloc (Nat.le_refl _) _))).mono ?_
  rintro e w1 ⟨rfl, hb1⟩
  have B1 : Below w.heap.size w w1 := ((Below.refl _ _).alloc (Nat.le_refl _) _).trans (hb1.mono (by simp))
  obtain ⟨hc1, hf1⟩ := bcell hb1
  have z1 : w.heap.size < w1.heap.size := by have := hb1.size; simp at this; omega
  clear hb1
  go_wp2_with fail
  refine (C1.out _).mono ?_
  rintro e w2 ⟨rfl, hb2⟩
  obtain ⟨hc2, hf2⟩ := bcell hb2
  have z2 : w.heap.size < w2.heap.size := by have := hb2.size; omega
  have B2 := B1.trans (hb2.mono B1.size)
  clear hb2
  go_wp2_with fail
  refine (C2.out _).mono ?_
  rintro e w3 ⟨rfl, hb3⟩
  obtain ⟨hc3, hf3⟩ := bcell hb3
  have z3 : w.heap.size < w3.heap.size := by have := hb3.size; omega
  have B3 := B2.trans (hb3.mono B2.size)
  clear hb3
  go_wp2_with fail
  have BA : Below w.heap.size w (w3.alloc (.cells #[.int .i64 a, .int .i64 b] 23)) := B3.alloc B3.size _
  refine (CT.out _ (HT.out.below BA)).mono ?_
  rintro e w5 ⟨rfl, hb5⟩
  obtain ⟨hc5, hf5⟩ := bcell hb5
  have z5 : w.heap.size < w5.heap.size := by have := hb5.size; simp at this; omega
  have z5b : w3.heap.size < w5.heap.size := by have := hb5.size; simp at this; omega
  have z5c : w.heap.size < w3.heap.size + 1 := by omega
  have B5 := BA.trans (hb5.mono BA.size)
  clear hb5
  go_wp2_with fail
  refine bodyPost_ret (v := .tuple #[.agg #[.int .i64 0, .int .i64 0], .int .i64 3]) ?_ rfl ⟨rfl, ?_⟩
  · simp [results, Tryd.results22, go_sem, *]
  · exact (B5.setCell (Nat.le_refl _) _).setCell (Nat.le_refl _) _
set_option maxHeartbeats 2000000 in
theorem parse2e_true (s : ByteArray) (w : World) (hT : Lw w) (hs : s.size ≤ 900) (hh : (Lib.cut s.data.toList [45]).2.2 = true) (b : Int) (h1 : yearL ((Lib.cut s.data.toList [45]).2.1) = some b) (h2 : yearL ((Lib.cut s.data.toList [45]).1) = none) (a : Int) (h3 : yearL ((Lib.cut s.data.toList [45]).1 ++ eraL b) = some a) (h4 : txt a b = s) :
    Calls Tryd.prog 22 #[.string s] w fun e w' => e = .returned (.tuple #[.agg #[.int .i64 a, .int .i64 b], .int .i64 0]) ∧ Below w.heap.size w w' := by
  have hl := cut_le s.data.toList
  have hsz := Lib.size_eq s
  have e0 := strB_size (Lib.cut s.data.toList [45]).1
  have e1 := strB_size (Lib.cut s.data.toList [45]).2.1
  have C0 := hide (fun W hW => cutY s W hW (by omega) _ _ true rfl hh rfl)
  have HT := hide hT
  have C1 := hide (fun W => year_some (strB ((Lib.cut s.data.toList [45]).2.1)) W (by omega) b (by rw [data_strB]; exact h1))
  have hE := eraL_len b
  rw [← strB_size] at hE
  have e2 := strB_size (((Lib.cut s.data.toList [45]).1) ++ eraL b)
  rw [List.length_append, ← strB_size (eraL b)] at e2
  have hFE : (strB ((Lib.cut s.data.toList [45]).1)).size + (strB (eraL b)).size ≤ 1000 := by omega
  have C2 := hide (fun W hW => year_none (strB ((Lib.cut s.data.toList [45]).1)) W hW (by omega) (by rw [data_strB]; exact h2))
  have C3 := hide (fun W => year_some (strB (((Lib.cut s.data.toList [45]).1) ++ eraL b)) W (by omega) a (by rw [data_strB]; exact h3))
  rw [← strB_app] at C3
  have CE := hide (fun W => era_v b W _ rfl)
  have CT := hide (fun W hW => text_v a b W hW _ rfl)
  rw [h4] at CT
  clear h1 h2 h3 e2 h4 hh hl
  generalize strB (Lib.cut s.data.toList [45]).1 = F at *
  generalize strB (Lib.cut s.data.toList [45]).2.1 = T at *
  generalize strB (eraL b) = E at *
  have A1 := fun (W : World) => add_run F E hFE W
  clear hE hFE
  clear hT hsz e0 e1
  go_enter Tryd.func22, Tryd.ntmps22
  go_wp2_with fail
  refine (C0.out _ (HT.out.below ((Below.refl _ _).alloc (Nat.le_refl _) _))).mono ?_
  rintro e w1 ⟨rfl, hb1⟩
  have B1 : Below w.heap.size w w1 := ((Below.refl _ _).alloc (Nat.le_refl _) _).trans (hb1.mono (by simp))
  obtain ⟨hc1, hf1⟩ := bcell hb1
  have z1 : w.heap.size < w1.heap.size := by have := hb1.size; simp at this; omega
  clear hb1
  go_wp2_with fail
  refine (C1.out _).mono ?_
  rintro e w2 ⟨rfl, hb2⟩
  obtain ⟨hc2, hf2⟩ := bcell hb2
  have z2 : w.heap.size < w2.heap.size := by have := hb2.size; omega
  have B2 := B1.trans (hb2.mono B1.size)
  clear hb2
  go_wp2_with fail
  refine (C2.out _ (HT.out.below B2)).mono ?_
  rintro e w3 ⟨n3, rfl, hb3⟩
  obtain ⟨hc3, hf3⟩ := bcell hb3
  have z3 : w.heap.size < w3.heap.size := by have := hb3.size; omega
  have B3 := B2.trans (hb3.mono B2.size)
  clear hb3
  go_wp2_with fail
  refine (CE.out _).mono ?_
  rintro e w' ⟨rfl, rfl⟩
  go_wp2_with fail
  refine (C3.out _).mono ?_
  rintro e w4 ⟨rfl, hb4⟩
  obtain ⟨hc4, hf4⟩ := bcell hb4
  have z4 : w.heap.size < w4.heap.size := by have := hb4.size; omega
  have B4 := B3.trans (hb4.mono B3.size)
  clear hb4
  go_wp2_with fail
  have BA : Below w.heap.size w (w4.alloc (.cells #[.int .i64 a, .int .i64 b] 23)) := B4.alloc B4.size _
  refine (CT.out _ (HT.out.below BA)).mono ?_
  rintro e w5 ⟨rfl, hb5⟩
  obtain ⟨hc5, hf5⟩ := bcell hb5
  have z5 : w.heap.size < w5.heap.size := by have := hb5.size; simp at this; omega
  have z5b : w4.heap.size < w5.heap.size := by have := hb5.size; simp at this; omega
  have z5c : w.heap.size < w4.heap.size + 1 := by omega
  have B5 := BA.trans (hb5.mono BA.size)
  clear hb5
  go_wp2_with fail
  refine bodyPost_ret (v := .tuple #[.agg #[.int .i64 a, .int .i64 b], .int .i64 0]) ?_ rfl ⟨rfl, ?_⟩
  · simp [results, Tryd.results22, go_sem, *]
  · exact (B5.setCell (Nat.le_refl _) _).setCell (Nat.le_refl _) _
set_option maxHeartbeats 2000000 in
theorem parse3e_true (s : ByteArray) (w : World) (hT : Lw w) (hs : s.size ≤ 900) (hh : (Lib.cut s.data.toList [45]).2.2 = true) (b : Int) (h1 : yearL ((Lib.cut s.data.toList [45]).2.1) = some b) (h2 : yearL ((Lib.cut s.data.toList [45]).1) = none) (a : Int) (h3 : yearL ((Lib.cut s.data.toList [45]).1 ++ eraL b) = some a) (h4 : txt a b ≠ s) :
    Calls Tryd.prog 22 #[.string s] w fun e w' => e = .returned (.tuple #[.agg #[.int .i64 0, .int .i64 0], .int .i64 3]) ∧ Below w.heap.size w w' := by
  have hl := cut_le s.data.toList
  have hsz := Lib.size_eq s
  have e0 := strB_size (Lib.cut s.data.toList [45]).1
  have e1 := strB_size (Lib.cut s.data.toList [45]).2.1
  have C0 := hide (fun W hW => cutY s W hW (by omega) _ _ true rfl hh rfl)
  have HT := hide hT
  have C1 := hide (fun W => year_some (strB ((Lib.cut s.data.toList [45]).2.1)) W (by omega) b (by rw [data_strB]; exact h1))
  have hE := eraL_len b
  rw [← strB_size] at hE
  have e2 := strB_size (((Lib.cut s.data.toList [45]).1) ++ eraL b)
  rw [List.length_append, ← strB_size (eraL b)] at e2
  have hFE : (strB ((Lib.cut s.data.toList [45]).1)).size + (strB (eraL b)).size ≤ 1000 := by omega
  have C2 := hide (fun W hW => year_none (strB ((Lib.cut s.data.toList [45]).1)) W hW (by omega) (by rw [data_strB]; exact h2))
  have C3 := hide (fun W => year_some (strB (((Lib.cut s.data.toList [45]).1) ++ eraL b)) W (by omega) a (by rw [data_strB]; exact h3))
  rw [← strB_app] at C3
  have CE := hide (fun W => era_v b W _ rfl)
  have CT := hide (fun W hW => text_v a b W hW _ rfl)
  have ne : ((txt a b).toList == s.toList) = false := beq_eq_false_iff_ne.2 fun h => h4 (toList_inj h)
  generalize txt a b = X at *
  clear h1 h2 h3 e2 h4 hh hl
  generalize strB (Lib.cut s.data.toList [45]).1 = F at *
  generalize strB (Lib.cut s.data.toList [45]).2.1 = T at *
  generalize strB (eraL b) = E at *
  have A1 := fun (W : World) => add_run F E hFE W
  clear hE hFE
  clear hT hsz e0 e1
  go_enter Tryd.func22, Tryd.ntmps22
  go_wp2_with fail
  refine (C0.out _ (HT.out.below ((Below.refl _ _).alloc (Nat.le_refl _) _))).mono ?_
  rintro e w1 ⟨rfl, hb1⟩
  have B1 : Below w.heap.size w w1 := ((Below.refl _ _).alloc (Nat.le_refl _) _).trans (hb1.mono (by simp))
  obtain ⟨hc1, hf1⟩ := bcell hb1
  have z1 : w.heap.size < w1.heap.size := by have := hb1.size; simp at this; omega
  clear hb1
  go_wp2_with fail
  refine (C1.out _).mono ?_
  rintro e w2 ⟨rfl, hb2⟩
  obtain ⟨hc2, hf2⟩ := bcell hb2
  have z2 : w.heap.size < w2.heap.size := by have := hb2.size; omega
  have B2 := B1.trans (hb2.mono B1.size)
  clear hb2
  go_wp2_with fail
  refine (C2.out _ (HT.out.below B2)).mono ?_
  rintro e w3 ⟨n3, rfl, hb3⟩
  obtain ⟨hc3, hf3⟩ := bcell hb3
  have z3 : w.heap.size < w3.heap.size := by have := hb3.size; omega
  have B3 := B2.trans (hb3.mono B2.size)
  clear hb3
  go_wp2_with fail
  refine (CE.out _).mono ?_
  rintro e w' ⟨rfl, rfl⟩
  go_wp2_with fail
  refine (C3.out _).mono ?_
  rintro e w4 ⟨rfl, hb4⟩
  obtain ⟨hc4, hf4⟩ := bcell hb4
  have z4 : w.heap.size < w4.heap.size := by have := hb4.size; omega
  have B4 := B3.trans (hb4.mono B3.size)
  clear hb4
  go_wp2_with fail
  have BA : Below w.heap.size w (w4.alloc (.cells #[.int .i64 a, .int .i64 b] 23)) := B4.alloc B4.size _
  refine (CT.out _ (HT.out.below BA)).mono ?_
  rintro e w5 ⟨rfl, hb5⟩
  obtain ⟨hc5, hf5⟩ := bcell hb5
  have z5 : w.heap.size < w5.heap.size := by have := hb5.size; simp at this; omega
  have z5b : w4.heap.size < w5.heap.size := by have := hb5.size; simp at this; omega
  have z5c : w.heap.size < w4.heap.size + 1 := by omega
  have B5 := BA.trans (hb5.mono BA.size)
  clear hb5
  go_wp2_with fail
  refine bodyPost_ret (v := .tuple #[.agg #[.int .i64 0, .int .i64 0], .int .i64 3]) ?_ rfl ⟨rfl, ?_⟩
  · simp [results, Tryd.results22, go_sem, *]
  · exact (B5.setCell (Nat.le_refl _) _).setCell (Nat.le_refl _) _
set_option maxHeartbeats 2000000 in
theorem parse6e_true (s : ByteArray) (w : World) (hT : Lw w) (hs : s.size ≤ 900) (hh : (Lib.cut s.data.toList [45]).2.2 = true) (b : Int) (h1 : yearL ((Lib.cut s.data.toList [45]).2.1) = some b) (h2 : yearL ((Lib.cut s.data.toList [45]).1) = none) (h3 : yearL ((Lib.cut s.data.toList [45]).1 ++ eraL b) = none)  :
    Calls Tryd.prog 22 #[.string s] w fun e w' => e = .returned (.tuple #[.agg #[.int .i64 0, .int .i64 0], .int .i64 3]) ∧ Below w.heap.size w w' := by
  have hl := cut_le s.data.toList
  have hsz := Lib.size_eq s
  have e0 := strB_size (Lib.cut s.data.toList [45]).1
  have e1 := strB_size (Lib.cut s.data.toList [45]).2.1
  have C0 := hide (fun W hW => cutY s W hW (by omega) _ _ true rfl hh rfl)
  have HT := hide hT
  have C1 := hide (fun W => year_some (strB ((Lib.cut s.data.toList [45]).2.1)) W (by omega) b (by rw [data_strB]; exact h1))
  have hE := eraL_len b
  rw [← strB_size] at hE
  have e2 := strB_size (((Lib.cut s.data.toList [45]).1) ++ eraL b)
  rw [List.length_append, ← strB_size (eraL b)] at e2
  have hFE : (strB ((Lib.cut s.data.toList [45]).1)).size + (strB (eraL b)).size ≤ 1000 := by omega
  have C2 := hide (fun W hW => year_none (strB ((Lib.cut s.data.toList [45]).1)) W hW (by omega) (by rw [data_strB]; exact h2))
  have C3 := hide (fun W hW => year_none (strB (((Lib.cut s.data.toList [45]).1) ++ eraL b)) W hW (by omega) (by rw [data_strB]; exact h3))
  rw [← strB_app] at C3
  have CE := hide (fun W => era_v b W _ rfl)
  clear h1 h2 h3 e2 hh hl
  generalize strB (Lib.cut s.data.toList [45]).1 = F at *
  generalize strB (Lib.cut s.data.toList [45]).2.1 = T at *
  generalize strB (eraL b) = E at *
  have A1 := fun (W : World) => add_run F E hFE W
  clear hE hFE
  clear hT hsz e0 e1
  go_enter Tryd.func22, Tryd.ntmps22
  go_wp2_with fail
  refine (C0.out _ (HT.out.below ((Below.refl _ _).alloc (Nat.le_refl _) _))).mono ?_
  rintro e w1 ⟨rfl, hb1⟩
  have B1 : Below w.heap.size w w1 := ((Below.refl _ _).alloc (Nat.le_refl _) _).trans (hb1.mono (by simp))
  obtain ⟨hc1, hf1⟩ := bcell hb1
  have z1 : w.heap.size < w1.heap.size := by have := hb1.size; simp at this; omega
  clear hb1
  go_wp2_with fail
  refine (C1.out _).mono ?_
  rintro e w2 ⟨rfl, hb2⟩
  obtain ⟨hc2, hf2⟩ := bcell hb2
  have z2 : w.heap.size < w2.heap.size := by have := hb2.size; omega
  have B2 := B1.trans (hb2.mono B1.size)
  clear hb2
  go_wp2_with fail
  refine (C2.out _ (HT.out.below B2)).mono ?_
  rintro e w3 ⟨n3, rfl, hb3⟩
  obtain ⟨hc3, hf3⟩ := bcell hb3
  have z3 : w.heap.size < w3.heap.size := by have := hb3.size; omega
  have B3 := B2.trans (hb3.mono B2.size)
  clear hb3
  go_wp2_with fail
  refine (CE.out _).mono ?_
  rintro e w' ⟨rfl, rfl⟩
  go_wp2_with fail
  refine (C3.out _ (HT.out.below B3)).mono ?_
  rintro e w4 ⟨n4, rfl, hb4⟩
  obtain ⟨hc4, hf4⟩ := bcell hb4
  have z4 : w.heap.size < w4.heap.size := by have := hb4.size; omega
  have B4 := B3.trans (hb4.mono B3.size)
  clear hb4
  go_wp2_with fail
  refine bodyPost_ret (v := .tuple #[.agg #[.int .i64 0, .int .i64 0], .int .i64 3]) ?_ rfl ⟨rfl, ?_⟩
  · simp [results, Tryd.results22, go_sem, *]
  · exact ((B4.setCell (Nat.le_refl _) _).setCell (Nat.le_refl _) _).alloc (by simp <;> omega) _
set_option maxHeartbeats 2000000 in
theorem parse1_false (s : ByteArray) (w : World) (hT : Lw w) (hs : s.size ≤ 900) (hh : (Lib.cut s.data.toList [45]).2.2 = false) (h1 : yearL ((Lib.cut s.data.toList [45]).1) = none) :
    Calls Tryd.prog 22 #[.string s] w fun e w' => e = .returned (.tuple #[.agg #[.int .i64 0, .int .i64 0], .int .i64 3]) ∧ Below w.heap.size w w' := by
  have hl := cut_le s.data.toList
  have hsz := Lib.size_eq s
  have e0 := strB_size (Lib.cut s.data.toList [45]).1
  have e1 := strB_size (Lib.cut s.data.toList [45]).2.1
  have C0 := hide (fun W hW => cutY s W hW (by omega) _ _ false rfl hh rfl)
  have HT := hide hT
  have C1 := hide (fun W hW => year_none (strB ((Lib.cut s.data.toList [45]).1)) W hW (by omega) (by rw [data_strB]; exact h1))
  clear h1 hh hl e0 e1 hsz
  generalize strB (Lib.cut s.data.toList [45]).1 = F at *
  generalize strB (Lib.cut s.data.toList [45]).2.1 = T at *
  clear hT
  go_enter Tryd.func22, Tryd.ntmps22
  go_wp2_with fail
  refine (C0.out _ (HT.out.below ((Below.refl _ _).alloc (Nat.le_refl _) _))).mono ?_
  rintro e w1 ⟨rfl, hb1⟩
  have B1 : Below w.heap.size w w1 := ((Below.refl _ _).alloc (Nat.le_refl _) _).trans (hb1.mono (by simp))
  obtain ⟨hc1, hf1⟩ := bcell hb1
  have z1 : w.heap.size < w1.heap.size := by have := hb1.size; simp at this; omega
  clear hb1
  go_wp2_with fail
  refine (C1.out _ (HT.out.below B1)).mono ?_
  rintro e w2 ⟨n, rfl, hb2⟩
  obtain ⟨hc2, hf2⟩ := bcell hb2
  have z2 : w.heap.size < w2.heap.size := by have := hb2.size; omega
  have B2 := B1.trans (hb2.mono B1.size)
  clear hb2
  go_wp2_with fail
  refine bodyPost_ret (v := .tuple #[.agg #[.int .i64 0, .int .i64 0], .int .i64 3]) ?_ rfl ⟨rfl, ?_⟩
  · simp [results, Tryd.results22, go_sem, *]
  · exact (B2.setCell (Nat.le_refl _) _).setCell (Nat.le_refl _) _
set_option maxHeartbeats 2000000 in
theorem parse2d_false (s : ByteArray) (w : World) (hT : Lw w) (hs : s.size ≤ 900) (hh : (Lib.cut s.data.toList [45]).2.2 = false) (b : Int) (h1 : yearL ((Lib.cut s.data.toList [45]).1) = some b) (a : Int) (h2 : yearL ((Lib.cut s.data.toList [45]).1) = some a) (h4 : txt a b = s) :
    Calls Tryd.prog 22 #[.string s] w fun e w' => e = .returned (.tuple #[.agg #[.int .i64 a, .int .i64 b], .int .i64 0]) ∧ Below w.heap.size w w' := by
  have hl := cut_le s.data.toList
  have hsz := Lib.size_eq s
  have e0 := strB_size (Lib.cut s.data.toList [45]).1
  have e1 := strB_size (Lib.cut s.data.toList [45]).2.1
  have C0 := hide (fun W hW => cutY s W hW (by omega) _ _ false rfl hh rfl)
  have HT := hide hT
  have C1 := hide (fun W => year_some (strB ((Lib.cut s.data.toList [45]).1)) W (by omega) b (by rw [data_strB]; exact h1))
  have C2 := hide (fun W => year_some (strB ((Lib.cut s.data.toList [45]).1)) W (by omega) a (by rw [data_strB]; exact h2))
  have CT := hide (fun W hW => text_v a b W hW _ rfl)
  rw [h4] at CT
  clear h1 h2 h4 hh hl
  generalize strB (Lib.cut s.data.toList [45]).1 = F at *
  generalize strB (Lib.cut s.data.toList [45]).2.1 = T at *
  clear hT hsz e0 e1
  go_enter Tryd.func22, Tryd.ntmps22
  go_wp2_with fail
  refine (C0.out _ (HT.out.below ((Below.refl _ _).alloc (Nat.le_refl _) _))).mono ?_
  rintro e w1 ⟨rfl, hb1⟩
  have B1 : Below w.heap.size w w1 := ((Below.refl _ _).alloc (Nat.le_refl _) _).trans (hb1.mono (by simp))
  obtain ⟨hc1, hf1⟩ := bcell hb1
  have z1 : w.heap.size < w1.heap.size := by have := hb1.size; simp at this; omega
  clear hb1
  go_wp2_with fail
  refine (C1.out _).mono ?_
  rintro e w2 ⟨rfl, hb2⟩
  obtain ⟨hc2, hf2⟩ := bcell hb2
  have z2 : w.heap.size < w2.heap.size := by have := hb2.size; omega
  have B2 := B1.trans (hb2.mono B1.size)
  clear hb2
  go_wp2_with fail
  refine (C2.out _).mono ?_
  rintro e w3 ⟨rfl, hb3⟩
  obtain ⟨hc3, hf3⟩ := bcell hb3
  have z3 : w.heap.size < w3.heap.size := by have := hb3.size; omega
  have B3 := B2.trans (hb3.mono B2.size)
  clear hb3
  go_wp2_with fail
  have BA : Below w.heap.size w (w3.alloc (.cells #[.int .i64 a, .int .i64 b] 23)) := B3.alloc B3.size _
  refine (CT.out _ (HT.out.below BA)).mono ?_
  rintro e w5 ⟨rfl, hb5⟩
  obtain ⟨hc5, hf5⟩ := bcell hb5
  have z5 : w.heap.size < w5.heap.size := by have := hb5.size; simp at this; omega
  have z5b : w3.heap.size < w5.heap.size := by have := hb5.size; simp at this; omega
  have z5c : w.heap.size < w3.heap.size + 1 := by omega
  have B5 := BA.trans (hb5.mono BA.size)
  clear hb5
  go_wp2_with fail
  refine bodyPost_ret (v := .tuple #[.agg #[.int .i64 a, .int .i64 b], .int .i64 0]) ?_ rfl ⟨rfl, ?_⟩
  · simp [results, Tryd.results22, go_sem, *]
  · exact (B5.setCell (Nat.le_refl _) _).setCell (Nat.le_refl _) _
set_option maxHeartbeats 2000000 in
theorem parse3d_false (s : ByteArray) (w : World) (hT : Lw w) (hs : s.size ≤ 900) (hh : (Lib.cut s.data.toList [45]).2.2 = false) (b : Int) (h1 : yearL ((Lib.cut s.data.toList [45]).1) = some b) (a : Int) (h2 : yearL ((Lib.cut s.data.toList [45]).1) = some a) (h4 : txt a b ≠ s) :
    Calls Tryd.prog 22 #[.string s] w fun e w' => e = .returned (.tuple #[.agg #[.int .i64 0, .int .i64 0], .int .i64 3]) ∧ Below w.heap.size w w' := by
  have hl := cut_le s.data.toList
  have hsz := Lib.size_eq s
  have e0 := strB_size (Lib.cut s.data.toList [45]).1
  have e1 := strB_size (Lib.cut s.data.toList [45]).2.1
  have C0 := hide (fun W hW => cutY s W hW (by omega) _ _ false rfl hh rfl)
  have HT := hide hT
  have C1 := hide (fun W => year_some (strB ((Lib.cut s.data.toList [45]).1)) W (by omega) b (by rw [data_strB]; exact h1))
  have C2 := hide (fun W => year_some (strB ((Lib.cut s.data.toList [45]).1)) W (by omega) a (by rw [data_strB]; exact h2))
  have CT := hide (fun W hW => text_v a b W hW _ rfl)
  have ne : ((txt a b).toList == s.toList) = false := beq_eq_false_iff_ne.2 fun h => h4 (toList_inj h)
  generalize txt a b = X at *
  clear h1 h2 h4 hh hl
  generalize strB (Lib.cut s.data.toList [45]).1 = F at *
  generalize strB (Lib.cut s.data.toList [45]).2.1 = T at *
  clear hT hsz e0 e1
  go_enter Tryd.func22, Tryd.ntmps22
  go_wp2_with fail
  refine (C0.out _ (HT.out.below ((Below.refl _ _).alloc (Nat.le_refl _) _))).mono ?_
  rintro e w1 ⟨rfl, hb1⟩
  have B1 : Below w.heap.size w w1 := ((Below.refl _ _).alloc (Nat.le_refl _) _).trans (hb1.mono (by simp))
  obtain ⟨hc1, hf1⟩ := bcell hb1
  have z1 : w.heap.size < w1.heap.size := by have := hb1.size; simp at this; omega
  clear hb1
  go_wp2_with fail
  refine (C1.out _).mono ?_
  rintro e w2 ⟨rfl, hb2⟩
  obtain ⟨hc2, hf2⟩ := bcell hb2
  have z2 : w.heap.size < w2.heap.size := by have := hb2.size; omega
  have B2 := B1.trans (hb2.mono B1.size)
  clear hb2
  go_wp2_with fail
  refine (C2.out _).mono ?_
  rintro e w3 ⟨rfl, hb3⟩
  obtain ⟨hc3, hf3⟩ := bcell hb3
  have z3 : w.heap.size < w3.heap.size := by have := hb3.size; omega
  have B3 := B2.trans (hb3.mono B2.size)
  clear hb3
  go_wp2_with fail
  have BA : Below w.heap.size w (w3.alloc (.cells #[.int .i64 a, .int .i64 b] 23)) := B3.alloc B3.size _
  refine (CT.out _ (HT.out.below BA)).mono ?_
  rintro e w5 ⟨rfl, hb5⟩
  obtain ⟨hc5, hf5⟩ := bcell hb5
  have z5 : w.heap.size < w5.heap.size := by have := hb5.size; simp at this; omega
  have z5b : w3.heap.size < w5.heap.size := by have := hb5.size; simp at this; omega
  have z5c : w.heap.size < w3.heap.size + 1 := by omega
  have B5 := BA.trans (hb5.mono BA.size)
  clear hb5
  go_wp2_with fail
  refine bodyPost_ret (v := .tuple #[.agg #[.int .i64 0, .int .i64 0], .int .i64 3]) ?_ rfl ⟨rfl, ?_⟩
  · simp [results, Tryd.results22, go_sem, *]
  · exact (B5.setCell (Nat.le_refl _) _).setCell (Nat.le_refl _) _
/-- what Parse returns -/
def prs (l : List UInt8) : Int × Int × Int := match parseL l with
  | some (a, b) => (a, b, 0)
  | none => (0, 0, 3)
theorem txt_eq (s : ByteArray) (a b : Int) : (txt a b = ⟨s.data.toList.toArray⟩) = (txt a b = s) := by rw [Array.toArray_toList]
theorem parse_v (s : ByteArray) (w : World) (hT : Lw w) (hs : s.size ≤ 900) (x y z : Int) (h : prs s.data.toList = (x, y, z)) :
    Calls Tryd.prog 22 #[.string s] w fun e w' => e = .returned (.tuple #[.agg #[.int .i64 x, .int .i64 y], .int .i64 z]) ∧ Below w.heap.size w w' := by
  unfold prs parseL at h
  rcases hc : (Lib.cut s.data.toList [45]).2.2 with _ | _
  · have ht : too s.data.toList = (Lib.cut s.data.toList [45]).1 := by unfold too; rw [hc]; rfl
    rw [ht] at h
    rcases h1 : yearL (Lib.cut s.data.toList [45]).1 with _ | b
    · rw [h1] at h; cases h
      exact parse1_false s w hT hs hc h1
    · rw [h1] at h
      simp only [fstL, frm, h1] at h
      by_cases h4 : txt b b = s
      · rw [if_pos (by rw [txt_eq]; exact h4)] at h; cases h
        exact parse2d_false s w hT hs hc _ h1 _ h1 h4
      · rw [if_neg (by rw [txt_eq]; exact h4)] at h; cases h
        exact parse3d_false s w hT hs hc _ h1 _ h1 h4
  · have ht : too s.data.toList = (Lib.cut s.data.toList [45]).2.1 := by unfold too; rw [hc]; rfl
    rw [ht] at h
    rcases h1 : yearL (Lib.cut s.data.toList [45]).2.1 with _ | b
    · rw [h1] at h; cases h
      exact parse1_true s w hT hs hc h1
    · rw [h1] at h
      rcases h2 : yearL (Lib.cut s.data.toList [45]).1 with _ | a
      · rcases h3 : yearL ((Lib.cut s.data.toList [45]).1 ++ eraL b) with _ | a
        · simp only [fstL, frm, h2, h3] at h; cases h
          exact parse6e_true s w hT hs hc b h1 h2 h3
        · simp only [fstL, frm, h2, h3] at h
          by_cases h4 : txt a b = s
          · rw [if_pos (by rw [txt_eq]; exact h4)] at h; cases h
            exact parse2e_true s w hT hs hc _ h1 h2 _ h3 h4
          · rw [if_neg (by rw [txt_eq]; exact h4)] at h; cases h
            exact parse3e_true s w hT hs hc b h1 h2 a h3 h4
      · simp only [fstL, frm, h2] at h
        by_cases h4 : txt a b = s
        · rw [if_pos (by rw [txt_eq]; exact h4)] at h; cases h
          exact parse2d_true s w hT hs hc _ h1 _ h2 h4
        · rw [if_neg (by rw [txt_eq]; exact h4)] at h; cases h
          exact parse3d_true s w hT hs hc b h1 a h2 h4
end Go.Proofs.YtihadabaehcmiaaDoor
