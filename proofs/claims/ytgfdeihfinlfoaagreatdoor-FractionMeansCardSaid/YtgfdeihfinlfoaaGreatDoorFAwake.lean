/- The fixed examples of the fractions' laws: awake returns true. -/
import Derived.Test.YtgfdeihfinlfoaaGreatDoorField
import Derived.Test.YtgfdeihfinlfoaaGreatDoorFDec
namespace Go.Proofs.YtgfdeihfinlfoaaGreatDoor
open Go Go.RowKit

theorem asc_13 : asc 13 = [49, 51] := by rw [asc_eq (n := 1) (by decide) (by decide)]; decide
theorem asc_1d {v : Nat} (h : v < 10) : asc v = [48 + v] := asc_small h
theorem qt56 : qtext (5 / 6) = ⟨#[53, 47, 54]⟩ := by
  have h1 : ((5 : Rat) / 6).num = 5 := by decide +kernel
  have h2 : ((5 : Rat) / 6).den = 6 := by decide +kernel
  unfold qtext qbody
  rw [h1, h2, if_neg (by decide), if_neg (by decide), asc_1d (by decide), asc_1d (by decide)]
  rfl
theorem qt32 : qtext (-3 / 2) = ⟨#[45, 51, 47, 50]⟩ := by
  have h1 : ((-3 : Rat) / 2).num = -3 := by decide +kernel
  have h2 : ((-3 : Rat) / 2).den = 2 := by decide +kernel
  unfold qtext qbody
  rw [h1, h2, if_pos (by decide), if_neg (by decide), show (-3 : Int).natAbs = 3 from rfl, asc_1d (by decide), asc_1d (by decide)]
  rfl
theorem dt13 : dtext true 13 2 = [45, 48, 46, 49, 51] := by
  unfold dtext
  rw [asc_13]
  decide
theorem ftext_s {w : World} {L : Nat} {p : Bool} {A : Option Addr} {n c : Nat} {B : Option Addr} {m d : Nat} {x : Rat} (hx : Fr w L p A n c B m d x) (h1L : 1 ≤ L) (hL : L ≤ 10000) (hT : Tab w) (S : ByteArray) (hS : qtext x = S) : Calls Tryz.prog 10 #[.agg #[.bool p, .slice A n c, .slice B m d]] w fun e w' => e = .returned (.string S) ∧ Below w.heap.size w w' := by
  subst hS
  exact ftext_f hx h1L hL hT
theorem ht_small {r : Rat} (h : r.num.natAbs < 1000000000 ∧ r.den < 1000000000) : Ht r 1 := by
  unfold Ht
  rw [show B9 ^ 1 = 1000000000 from rfl]
  exact h
set_option maxHeartbeats 4000000 in
set_option maxRecDepth 100000 in
theorem awake2 : Awake := by
  intro w hT
  have HT := hide hT
  clear hT
  have Q1 := hide (show (((-1 : Int) : Rat) / ((8 : Int) : Rat)) = -1 / 8 from by decide +kernel)
  have Q2 := hide (show (((1 : Int) : Rat) / ((2 : Int) : Rat)) = 1 / 2 from by decide +kernel)
  have Q3 := hide (show (((-1 : Int) : Rat) / ((3 : Int) : Rat)) = -1 / 3 from by decide +kernel)
  have Q4 := hide (show (((1 : Int) : Rat) / ((3 : Int) : Rat)) = 1 / 3 from by decide +kernel)
  have Q5 := hide (show ((1 : Rat) / 2) / (-1 / 3) = -3 / 2 from by decide +kernel)
  have Q6 := hide (show ((1 : Rat) / 2) + (1 / 3) = 5 / 6 from by decide +kernel)
  have N1 := hide (show ((-1 : Rat) / 8).num = -1 ∧ ((-1 : Rat) / 8).den = 8 from by decide +kernel)
  have H2 := hide (show Ht (1 / 2) 1 from ht_small (by decide +kernel))
  have H3 := hide (show Ht (-1 / 3) 1 from ht_small (by decide +kernel))
  have H4 := hide (show Ht (1 / 3) 1 from ht_small (by decide +kernel))
  have H5 := hide (show Ht (-3 / 2) 1 from ht_small (by decide +kernel))
  have H6 := hide (show Ht (5 / 6) 1 from ht_small (by decide +kernel))
  have Z3 := hide (show ((-1 : Rat) / 3) ≠ 0 from by decide +kernel)
  go_enter Tryz.func8, Tryz.ntmps8
  go_wp2_with fail
  refine (fof_f (-1) 8 _ (by omega) (by omega) (by omega) (by omega) (-1 / 8) Q1.out).mono ?_
  rintro e w1 ⟨p1, A1, n1, c1, B1, m1, d1, rfl, ⟨hp1, h1, i1⟩, hb1⟩
  have hbA := hb1
  rw [N1.out.1] at h1 hp1
  rw [N1.out.2] at i1
  obtain rfl : p1 = true := by rw [hp1]; rfl
  clear hb1 hp1
  go_wp2_with fail
  refine (fdecimal_any 1 (by omega) (by omega) true A1 n1 c1 1 B1 m1 d1 8 2 (by omega) _ (h1.nt (by decide)) (i1.nt (by decide)) (HT.out.below hbA) 13 (by decide) (by decide) ⟨#[45, 48, 46, 49, 51]⟩ (by rw [dt13]; rfl)).mono ?_
  rintro e w2 ⟨rfl, hb2⟩
  have hbA := hbA.trans (hb2.mono hbA.size)
  clear hb2 h1 i1
  go_wp2_with fail
  refine (fof_f 1 2 _ (by omega) (by omega) (by omega) (by omega) (1 / 2) Q2.out).mono ?_
  rintro e w3 ⟨p3, A3, n3, c3, B3, m3, d3, rfl, h3, hb3⟩
  have hbA := hbA.trans (hb3.mono hbA.size)
  clear hb3
  go_wp2_with fail
  refine (fof_f (-1) 3 _ (by omega) (by omega) (by omega) (by omega) (-1 / 3) Q3.out).mono ?_
  rintro e w4 ⟨p4, A4, n4, c4, B4, m4, d4, rfl, h4, hb4⟩
  have hbA := hbA.trans (hb4.mono hbA.size)
  have h3 := h3.below hb4
  clear hb4
  go_wp2_with fail
  refine (fdiv_f (L := 1) (h3.fr H2.out) (h4.fr H3.out) (by omega) Z3.out (-3 / 2) Q5.out).mono ?_
  rintro e w5 ⟨p5, A5, n5, c5, B5, m5, d5, rfl, h5, hb5⟩
  have hbA := hbA.trans (hb5.mono hbA.size)
  clear hb5 h3 h4
  go_wp2_with fail
  generalize hW : w5.alloc _ = W5
  obtain ⟨hb, bx, -⟩ := boxesA1 hW
  clear hW
  have hbA := hbA.trans (hb.mono hbA.size)
  have h5 := h5.below hb
  clear hb
  refine (fof_f 1 2 _ (by omega) (by omega) (by omega) (by omega) (1 / 2) Q2.out).mono ?_
  rintro e w6 ⟨p6, A6, n6, c6, B6, m6, d6, rfl, h6, hb6⟩
  have hbA := hbA.trans (hb6.mono hbA.size)
  have h5 := h5.below hb6
  have bx := bx.below' hb6
  clear hb6
  go_wp2_with fail
  refine (fof_f 1 3 _ (by omega) (by omega) (by omega) (by omega) (1 / 3) Q4.out).mono ?_
  rintro e w7 ⟨p7, A7, n7, c7, B7, m7, d7, rfl, h7, hb7⟩
  have hbA := hbA.trans (hb7.mono hbA.size)
  have h5 := h5.below hb7
  have h6 := h6.below hb7
  have bx := bx.below' hb7
  clear hb7
  go_wp2_with fail
  refine (fadd_f (L := 1) (h6.fr H2.out) (h7.fr H4.out) (by omega) (by omega) (5 / 6) Q6.out).mono ?_
  rintro e w8 ⟨p8, A8, n8, c8, B8, m8, d8, rfl, h8, hb8⟩
  have hbA := hbA.trans (hb8.mono hbA.size)
  have h5 := h5.below hb8
  have bx := bx.below' hb8
  clear hb8 h6 h7
  go_wp2_with fail
  refine (ftext_s (L := 1) (h8.fr H6.out) (by omega) (by omega) (HT.out.below hbA) ⟨#[53, 47, 54]⟩ qt56).mono ?_
  rintro e w9 ⟨rfl, hb9⟩
  have hbA := hbA.trans (hb9.mono hbA.size)
  have h5 := h5.below hb9
  have bx := bx.below' hb9
  clear hb9 h8
  have k0 : w9.cell? ⟨w5.heap.size, 0, none⟩ = some (.bool p5) := bx.at_ 0
  have k1 : w9.cell? ⟨w5.heap.size, 1, none⟩ = some (.slice A5 n5 c5) := bx.at_ 1
  have k2 : w9.cell? ⟨w5.heap.size, 2, none⟩ = some (.slice B5 m5 d5) := bx.at_ 2
  go_wp2_with fail
  refine (ftext_s (L := 1) (h5.fr H5.out) (by omega) (by omega) (HT.out.below hbA) ⟨#[45, 51, 47, 50]⟩ qt32).mono ?_
  rintro e w10 ⟨rfl, hb10⟩
  have hbA := hbA.trans (hb10.mono hbA.size)
  clear hb10 h5 bx k0 k1 k2
  go_wp2
  go_ret
  exact ⟨rfl, hbA⟩
end Go.Proofs.YtgfdeihfinlfoaaGreatDoor
