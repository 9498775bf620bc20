/- Reading years: year and Parse. -/
import Derived.Test.YtihadabaehcmiaaDoorYText
namespace Go.Proofs.YtihadabaehcmiaaDoor
open Go Go.RowKit Go.Lib

theorem atoi_ok (s : ByteArray) (v : Int) (h : Lib.atoiAll s.data.toList = .ok v) (hs : s.size ≤ 1000) (w : World) :
    Calls Tryd.prog 53 #[.string s] w fun e w' => e = .returned (.tuple #[.int .i64 v, .nilIface]) ∧ Below w.heap.size w w' :=
  (Tryd.strconv_Atoi_ok s (by omega) v h w).mono fun _ _ ⟨he, hw⟩ => ⟨he, by
    rcases hw with rfl | ⟨t, rfl⟩
    · exact Below.refl _ _
    · exact Lib.bytesWorld_below _ _ _⟩
theorem atoi_bad (s : ByteArray) (h : ∀ v, Lib.atoiAll s.data.toList ≠ .ok v) (hs : s.size ≤ 1000) (w : World) (hT : Lw w) :
    Calls Tryd.prog 53 #[.string s] w fun e w' => ∃ n t p, e = .returned (.tuple #[.int .i64 n, .iface t p]) ∧ Below w.heap.size w w' := by
  obtain ⟨-, ⟨t2, p2, h2⟩, ⟨t3, p3, h3⟩, -⟩ := hT
  rcases e : Lib.atoiAll s.data.toList with v | _ | _
  · exact absurd e (h v)
  · exact Calls.mono (Any.strconv_Atoi_syntax_var Tryd.laysC172 s (by omega) e t2 p2 w h2) fun _ _ ⟨N, he, _, _, hb⟩ => ⟨_, _, _, he, hb⟩
  · exact Calls.mono (Any.strconv_Atoi_range_var Tryd.laysC172 s (by omega) e t3 p3 w h3) fun _ _ ⟨N, he, _, _, hb⟩ => ⟨_, _, _, he, hb⟩

def adL : List UInt8 := [32, 65, 68]
def bcL : List UInt8 := [32, 66, 67]
theorem cutAD (s : ByteArray) (w : World) (hs : s.size ≤ 1000) (f : Bool) (hf : Lib.hasSuffix s.data.toList adL = f) (D : ByteArray) (hD : strB (Lib.trimSuffix s.data.toList adL) = D) :
    Calls Tryd.prog 52 #[.string s, .string ⟨#[32, 65, 68]⟩] w fun e w' => e = .returned (.tuple #[.string D, .bool f]) ∧ w = w' := by
  subst hf
  subst hD
  exact (Tryd.strings_CutSuffix s ⟨#[32, 65, 68]⟩ w (by omega)).mono fun _ _ ⟨he, hw⟩ => ⟨he, hw.symm⟩
theorem cutBC (s : ByteArray) (w : World) (hs : s.size ≤ 1000) (f : Bool) (hf : Lib.hasSuffix s.data.toList bcL = f) (D : ByteArray) (hD : strB (Lib.trimSuffix s.data.toList bcL) = D) :
    Calls Tryd.prog 52 #[.string s, .string ⟨#[32, 66, 67]⟩] w fun e w' => e = .returned (.tuple #[.string D, .bool f]) ∧ w = w' := by
  subst hf
  subst hD
  exact (Tryd.strings_CutSuffix s ⟨#[32, 66, 67]⟩ w (by omega)).mono fun _ _ ⟨he, hw⟩ => ⟨he, hw.symm⟩
theorem trim_size (s : ByteArray) (p : List UInt8) : (strB (Lib.trimSuffix s.data.toList p)).size ≤ s.size := by
  rw [strB_size]
  unfold Lib.trimSuffix
  have := Lib.size_eq s
  split
  · rw [List.length_take]; omega
  · omega
/-- what follows of a year's end -/
def endL (l : List UInt8) : Option Int := match Lib.atoiAll l with
  | .ok v => some v
  | _ => none
theorem endL_some {l : List UInt8} {v : Int} : endL l = some v ↔ Lib.atoiAll l = .ok v := by
  unfold endL
  rcases h : Lib.atoiAll l with u | _ | _ <;> simp
theorem endL_none {l : List UInt8} : endL l = none ↔ ∀ v, Lib.atoiAll l ≠ .ok v := by
  unfold endL
  rcases h : Lib.atoiAll l with u | _ | _ <;> simp
/-- the year that a name names -/
def yearL (l : List UInt8) : Option Int :=
  if Lib.hasSuffix l adL then endL (Lib.trimSuffix l adL) else if Lib.hasSuffix l bcL then (endL (Lib.trimSuffix l bcL)).map fun v => wrap64 (1 - v) else none

set_option maxHeartbeats 2000000 in
theorem year_ad (s : ByteArray) (w : World) (hs : s.size ≤ 1000) (h1 : Lib.hasSuffix s.data.toList adL = true) (v : Int) (h2 : endL (Lib.trimSuffix s.data.toList adL) = some v) :
    Calls Tryd.prog 37 #[.string s] w fun e w' => e = .returned (.tuple #[.int .i64 v, .bool true]) ∧ Below w.heap.size w w' := by
  have hz := trim_size s adL
  have C1 := hide (fun W => cutAD s W hs true h1 _ rfl)
  have h3 : Lib.atoiAll (strB (Lib.trimSuffix s.data.toList adL)).data.toList = .ok v := by rw [← endL_some]; simpa [strB] using h2
  generalize strB (Lib.trimSuffix s.data.toList adL) = D at *
  have C2 := hide (fun W => atoi_ok D v h3 (by omega) W)
  clear h1 h2 h3
  go_enter Tryd.func37, Tryd.ntmps37
  go_wp2_with fail
  refine (C1.out _).mono ?_
  rintro e w1 ⟨rfl, rfl⟩
  go_wp2_with fail
  refine (C2.out _).mono ?_
  rintro e w2 ⟨rfl, hb⟩
  go_wp2_with fail
  go_quiet (fail)
  go_wp2_with fail
  go_ret2
  exact ⟨rfl, below_drewN hb _⟩
set_option maxHeartbeats 2000000 in
theorem year_adn (s : ByteArray) (w : World) (hT : Lw w) (hs : s.size ≤ 1000) (h1 : Lib.hasSuffix s.data.toList adL = true) (h2 : endL (Lib.trimSuffix s.data.toList adL) = none) :
    Calls Tryd.prog 37 #[.string s] w fun e w' => ∃ n : Int, e = .returned (.tuple #[.int .i64 n, .bool false]) ∧ Below w.heap.size w w' := by
  have hz := trim_size s adL
  have C1 := hide (fun W => cutAD s W hs true h1 _ rfl)
  have h3 : ∀ v, Lib.atoiAll (strB (Lib.trimSuffix s.data.toList adL)).data.toList ≠ .ok v := by rw [← endL_none]; simpa [strB] using h2
  generalize strB (Lib.trimSuffix s.data.toList adL) = D at *
  have C2 := hide (fun W hT => atoi_bad D h3 (by omega) W hT)
  clear h1 h2 h3
  have HT := hide hT
  clear hT
  go_enter Tryd.func37, Tryd.ntmps37
  go_wp2_with fail
  refine (C1.out _).mono ?_
  rintro e w1 ⟨rfl, rfl⟩
  go_wp2_with fail
  refine (C2.out _ HT.out).mono ?_
  rintro e w2 ⟨n, t, p, rfl, hb⟩
  go_wp2_with fail
  go_quiet (fail)
  go_wp2_with fail
  go_ret2
  exact ⟨_, rfl, below_drewN hb _⟩
set_option maxHeartbeats 2000000 in
theorem year_bc (s : ByteArray) (w : World) (hs : s.size ≤ 1000) (h0 : Lib.hasSuffix s.data.toList adL = false) (h1 : Lib.hasSuffix s.data.toList bcL = true) (v : Int) (h2 : endL (Lib.trimSuffix s.data.toList bcL) = some v) :
    Calls Tryd.prog 37 #[.string s] w fun e w' => e = .returned (.tuple #[.int .i64 (wrap64 (1 - v)), .bool true]) ∧ Below w.heap.size w w' := by
  have hz := trim_size s bcL
  have C0 := hide (fun W => cutAD s W hs false h0 _ rfl)
  have C1 := hide (fun W => cutBC s W hs true h1 _ rfl)
  have h3 : Lib.atoiAll (strB (Lib.trimSuffix s.data.toList bcL)).data.toList = .ok v := by rw [← endL_some]; simpa [strB] using h2
  generalize strB (Lib.trimSuffix s.data.toList bcL) = D at *
  generalize strB (Lib.trimSuffix s.data.toList adL) = D0 at *
  have C2 := hide (fun W => atoi_ok D v h3 (by omega) W)
  clear h0 h1 h2 h3
  go_enter Tryd.func37, Tryd.ntmps37
  go_wp2_with fail
  refine (C0.out _).mono ?_
  rintro e w1 ⟨rfl, rfl⟩
  go_wp2_with fail
  refine (C1.out _).mono ?_
  rintro e w1 ⟨rfl, rfl⟩
  go_wp2_with fail
  refine (C2.out _).mono ?_
  rintro e w2 ⟨rfl, hb⟩
  go_wp2_with fail
  go_quiet (fail)
  go_wp2_with fail
  go_ret2
  exact ⟨rfl, below_drewN hb _⟩
set_option maxHeartbeats 2000000 in
theorem year_bcn (s : ByteArray) (w : World) (hT : Lw w) (hs : s.size ≤ 1000) (h0 : Lib.hasSuffix s.data.toList adL = false) (h1 : Lib.hasSuffix s.data.toList bcL = true) (h2 : endL (Lib.trimSuffix s.data.toList bcL) = none) :
    Calls Tryd.prog 37 #[.string s] w fun e w' => ∃ n : Int, e = .returned (.tuple #[.int .i64 n, .bool false]) ∧ Below w.heap.size w w' := by
  have hz := trim_size s bcL
  have C0 := hide (fun W => cutAD s W hs false h0 _ rfl)
  have C1 := hide (fun W => cutBC s W hs true h1 _ rfl)
  have h3 : ∀ v, Lib.atoiAll (strB (Lib.trimSuffix s.data.toList bcL)).data.toList ≠ .ok v := by rw [← endL_none]; simpa [strB] using h2
  generalize strB (Lib.trimSuffix s.data.toList bcL) = D at *
  generalize strB (Lib.trimSuffix s.data.toList adL) = D0 at *
  have C2 := hide (fun W hT => atoi_bad D h3 (by omega) W hT)
  clear h0 h1 h2 h3
  have HT := hide hT
  clear hT
  go_enter Tryd.func37, Tryd.ntmps37
  go_wp2_with fail
  refine (C0.out _).mono ?_
  rintro e w1 ⟨rfl, rfl⟩
  go_wp2_with fail
  refine (C1.out _).mono ?_
  rintro e w1 ⟨rfl, rfl⟩
  go_wp2_with fail
  refine (C2.out _ HT.out).mono ?_
  rintro e w2 ⟨n, t, p, rfl, hb⟩
  go_wp2_with fail
  go_quiet (fail)
  go_wp2_with fail
  go_ret2
  exact ⟨_, rfl, below_drewN hb _⟩
set_option maxHeartbeats 2000000 in
theorem year_no1 (s : ByteArray) (w : World) (hs : s.size ≤ 1000) (h0 : Lib.hasSuffix s.data.toList adL = false) (h1 : Lib.hasSuffix s.data.toList bcL = false) (v : Int) (h2 : endL (Lib.trimSuffix s.data.toList bcL) = some v) :
    Calls Tryd.prog 37 #[.string s] w fun e w' => ∃ n : Int, e = .returned (.tuple #[.int .i64 n, .bool false]) ∧ Below w.heap.size w w' := by
  have hz := trim_size s bcL
  have C0 := hide (fun W => cutAD s W hs false h0 _ rfl)
  have C1 := hide (fun W => cutBC s W hs false h1 _ rfl)
  have h3 : Lib.atoiAll (strB (Lib.trimSuffix s.data.toList bcL)).data.toList = .ok v := by rw [← endL_some]; simpa [strB] using h2
  generalize strB (Lib.trimSuffix s.data.toList bcL) = D at *
  generalize strB (Lib.trimSuffix s.data.toList adL) = D0 at *
  have C2 := hide (fun W => atoi_ok D v h3 (by omega) W)
  clear h0 h1 h2 h3
  go_enter Tryd.func37, Tryd.ntmps37
  go_wp2_with fail
  refine (C0.out _).mono ?_
  rintro e w1 ⟨rfl, rfl⟩
  go_wp2_with fail
  refine (C1.out _).mono ?_
  rintro e w1 ⟨rfl, rfl⟩
  go_wp2_with fail
  refine (C2.out _).mono ?_
  rintro e w2 ⟨rfl, hb⟩
  go_wp2_with fail
  go_quiet (fail)
  go_wp2_with fail
  go_ret2
  exact ⟨_, rfl, below_drewN hb _⟩
set_option maxHeartbeats 2000000 in
theorem year_no2 (s : ByteArray) (w : World) (hT : Lw w) (hs : s.size ≤ 1000) (h0 : Lib.hasSuffix s.data.toList adL = false) (h1 : Lib.hasSuffix s.data.toList bcL = false) (h2 : endL (Lib.trimSuffix s.data.toList bcL) = none) :
    Calls Tryd.prog 37 #[.string s] w fun e w' => ∃ n : Int, e = .returned (.tuple #[.int .i64 n, .bool false]) ∧ Below w.heap.size w w' := by
  have hz := trim_size s bcL
  have C0 := hide (fun W => cutAD s W hs false h0 _ rfl)
  have C1 := hide (fun W => cutBC s W hs false h1 _ rfl)
  have h3 : ∀ v, Lib.atoiAll (strB (Lib.trimSuffix s.data.toList bcL)).data.toList ≠ .ok v := by rw [← endL_none]; simpa [strB] using h2
  generalize strB (Lib.trimSuffix s.data.toList bcL) = D at *
  generalize strB (Lib.trimSuffix s.data.toList adL) = D0 at *
  have C2 := hide (fun W hT => atoi_bad D h3 (by omega) W hT)
  clear h0 h1 h2 h3
  have HT := hide hT
  clear hT
  go_enter Tryd.func37, Tryd.ntmps37
  go_wp2_with fail
  refine (C0.out _).mono ?_
  rintro e w1 ⟨rfl, rfl⟩
  go_wp2_with fail
  refine (C1.out _).mono ?_
  rintro e w1 ⟨rfl, rfl⟩
  go_wp2_with fail
  refine (C2.out _ HT.out).mono ?_
  rintro e w2 ⟨n, t, p, rfl, hb⟩
  go_wp2_with fail
  go_quiet (fail)
  go_wp2_with fail
  go_ret2
  exact ⟨_, rfl, below_drewN hb _⟩
theorem year_some (s : ByteArray) (w : World) (hs : s.size ≤ 1000) (v : Int) (h : yearL s.data.toList = some v) :
    Calls Tryd.prog 37 #[.string s] w fun e w' => e = .returned (.tuple #[.int .i64 v, .bool true]) ∧ Below w.heap.size w w' := by
  unfold yearL at h
  rcases Bool.eq_false_or_eq_true (Lib.hasSuffix s.data.toList adL) with h1 | h1
  · rw [if_pos h1] at h
    exact year_ad s w hs h1 v h
  · rw [if_neg (by rw [h1]; decide)] at h
    rcases Bool.eq_false_or_eq_true (Lib.hasSuffix s.data.toList bcL) with h2 | h2
    · rw [if_pos h2, Option.map_eq_some_iff] at h
      obtain ⟨u, hu, rfl⟩ := h
      exact year_bc s w hs h1 h2 u hu
    · rw [if_neg (by rw [h2]; decide)] at h
      cases h
theorem year_none (s : ByteArray) (w : World) (hT : Lw w) (hs : s.size ≤ 1000) (h : yearL s.data.toList = none) :
    Calls Tryd.prog 37 #[.string s] w fun e w' => ∃ n : Int, e = .returned (.tuple #[.int .i64 n, .bool false]) ∧ Below w.heap.size w w' := by
  unfold yearL at h
  rcases Bool.eq_false_or_eq_true (Lib.hasSuffix s.data.toList adL) with h1 | h1
  · rw [if_pos h1] at h
    exact year_adn s w hT hs h1 h
  · rw [if_neg (by rw [h1]; decide)] at h
    rcases Bool.eq_false_or_eq_true (Lib.hasSuffix s.data.toList bcL) with h2 | h2
    · rw [if_pos h2, Option.map_eq_none_iff] at h
      exact year_bcn s w hT hs h1 h2 h
    · rcases h3 : endL (Lib.trimSuffix s.data.toList bcL) with _ | v
      · exact year_no2 s w hT hs h1 h2 h3
      · exact year_no1 s w hs h1 h2 v h3
end Go.Proofs.YtihadabaehcmiaaDoor
