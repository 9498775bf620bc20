/- The contract of the reference's Add (fractions). -/
import Derived.Test.YtgfdeihfinlfoaaGreatDoorBaseI
import Derived.Deep.RegionLaw
import Derived.Deep.CutRange
import Derived.Deep.RegionHeld3
import Derived.Test.YtgfdeihfinlfoaaGreatDoorZA
import Derived.Test.YtgfdeihfinlfoaaGreatDoorShelf2
import Derived.WalkSpells
import Derived.Test.YtgfdeihfinlfoaaGreatDoorZB
namespace Go.Proofs.YtgfdeihfinlfoaaGreatDoor
open Go Go.RowKit

/-- two fractions are made canonical in their boxes -/
def Normed (W : World) (g0 g1 : Nat) (x y : Rat) (wx : World) : Prop :=
  ∃ wy p1 A1 n1 c1 B1 m1 d1 p2 A2 n2 c2 B2 m2 d2, Below W.heap.size W wy ∧ Fc wy p1 A1 n1 c1 B1 m1 d1 x ∧ Fc wy p2 A2 n2 c2 B2 m2 d2 y ∧
    wx = (((((wy.setCell ⟨g0, 0, none⟩ (.bool p1)).setCell ⟨g0, 1, none⟩ (.slice A1 n1 c1)).setCell ⟨g0, 2, none⟩ (.slice B1 m1 d1)).setCell ⟨g1, 0, none⟩ (.bool p2)).setCell ⟨g1, 1, none⟩ (.slice A2 n2 c2)).setCell ⟨g1, 2, none⟩ (.slice B2 m2 d2)
theorem fcq {p : Bool} {x : Rat} (h : p = decide (x.num < 0)) : qv p x.num.natAbs x.den = x := by rw [h, qv_parts]
theorem ne_not {p q : Bool} (h : ¬p = q) : q = !p := by cases p <;> cases q <;> simp_all
set_option maxHeartbeats 4000000 in
set_option maxRecDepth 4000 in
theorem gadd_f {w : World} {L : Nat} {p : Bool} {A : Option Addr} {n c : Nat} {B : Option Addr} {m d : Nat} {x : Rat} {p' : Bool} {A' : Option Addr} {n' c' : Nat} {B' : Option Addr} {m' d' : Nat} {y : Rat} (hx : Fr w L p A n c B m d x) (hy : Fr w L p' A' n' c' B' m' d' y) (h1L : 1 ≤ L) (hL : L ≤ 9000) (r : Rat) (hr : x + y = r) : Calls Tryz.prog 57 #[.agg #[.bool p, .slice A n c, .slice B m d], .agg #[.bool p', .slice A' n' c', .slice B' m' d']] w (GivesF r w) := by
  have HR := hide hr
  have HX := hide hx.ht
  have HY := hide hy.ht
  clear hr
  go_enter Tryz.func57, Tryz.ntmps57
  go_wp2_with fail
  generalize hW : ((w.alloc _).alloc _).alloc _ = W
  obtain ⟨hbW, b0, b1, bR, hz⟩ := boxesA3 hW
  clear hW hz
  have hx := hx.below hbW
  have hy := hy.below hbW
  have lt0 := b0.lt
  have lt1 := b1.lt
  have ltR := bR.lt
  have KF : Hid (∀ w', Below W.heap.size W w' → w'.cell? ⟨w.heap.size, 0, none⟩ = some (.bool p) ∧ w'.cell? ⟨w.heap.size, 1, none⟩ = some (.slice A n c) ∧ w'.cell? ⟨w.heap.size, 2, none⟩ = some (.slice B m d) ∧ w'.cell? ⟨w.heap.size + 1, 0, none⟩ = some (.bool p') ∧ w'.cell? ⟨w.heap.size + 1, 1, none⟩ = some (.slice A' n' c') ∧ w'.cell? ⟨w.heap.size + 1, 2, none⟩ = some (.slice B' m' d') ∧
      w'.frozen? ⟨w.heap.size, 0, none⟩ = false ∧ w'.frozen? ⟨w.heap.size, 1, none⟩ = false ∧ w'.frozen? ⟨w.heap.size, 2, none⟩ = false ∧ w'.frozen? ⟨w.heap.size + 1, 0, none⟩ = false ∧ w'.frozen? ⟨w.heap.size + 1, 1, none⟩ = false ∧ w'.frozen? ⟨w.heap.size + 1, 2, none⟩ = false) := fun w' h =>
    ⟨(b0.below h lt0).at_ 0, (b0.below h lt0).at_ 1, (b0.below h lt0).at_ 2, (b1.below h lt1).at_ 0, (b1.below h lt1).at_ 1, (b1.below h lt1).at_ 2, (b0.below h lt0).frozen 0, (b0.below h lt0).frozen 1, (b0.below h lt0).frozen 2, (b1.below h lt1).frozen 0, (b1.below h lt1).frozen 1, (b1.below h lt1).frozen 2⟩
  go_cut [] from 12 to 16 (fun wx => Normed W w.heap.size (w.heap.size + 1) x y wx)
  case first =>
    have P0 : Below W.heap.size W W.drew := (Below.refl _ _).drew
    obtain ⟨k0, k1, k2, k3, k4, k5, -⟩ := KF.out _ P0
    go_region_law (first
      | (go_simp; go_at_call 35; (with_reducible refine (gnorm_f (hx.below P0) h1L (by omega) x rfl).mono ?_); rintro e w1 ⟨p1, A1, n1, c1, B1, m1, d1, rfl, h1, hb1⟩; have E1 := P0.trans (hb1.mono P0.size); obtain ⟨x0, x1, x2, x3, x4, x5, -⟩ := KF.out _ E1)
      | (go_simp; go_at_call 35; (with_reducible refine (gnorm_f (hy.below E1) h1L (by omega) y rfl).mono ?_); rintro e w2 ⟨p2, A2, n2, c2, B2, m2, d2, rfl, h2, hb2⟩; have E2 := E1.trans (hb2.mono E1.size); obtain ⟨y0, y1, y2, y3, y4, y5, e0, e1, e2, e3, e4, e5⟩ := KF.out _ E2))
    all_goals
      go_wp2_with fail
      go_meet
      exact ⟨w2, p1, A1, n1, c1, B1, m1, d1, p2, A2, n2, c2, B2, m2, d2, E2, h1.below hb2, h2, rfl⟩
  case rest =>
  obtain ⟨wy, p1, A1, n1, c1, B1, m1, d1, p2, A2, n2, c2, B2, m2, d2, E2, h1, h2, rfl⟩ := hcut
  obtain ⟨hp1, h1, i1⟩ := h1
  obtain ⟨hp2, h2, i2⟩ := h2
  have HR := hide (show qv p1 x.num.natAbs x.den + qv p2 y.num.natAbs y.den = r from by rw [fcq hp1, fcq hp2]; exact HR.out)
  have Hb := hide x.den_nz
  have Hd := hide y.den_nz
  have HX1 := hide HX.out.1
  have HX2 := hide HX.out.2
  have HY1 := hide HY.out.1
  have HY2 := hide HY.out.2
  clear hp1 hp2 HX HY hx hy KF
  generalize x.num.natAbs = u1 at *
  generalize x.den = v1 at *
  generalize y.num.natAbs = u2 at *
  generalize y.den = v2 at *
  have b0 := b0.below' E2
  have b1 := b1.below' E2
  have bR := bR.below' E2
  have hbA := hbW.trans (E2.mono hbW.size)
  clear E2 hbW lt0 lt1 ltR
  generalize hW3 : ((wy.setCell _ _).setCell _ _).setCell _ _ = W3
  obtain ⟨b0, -, N3, B3, X3⟩ := put3 b0 hW3
  have b1 := X3 _ _ _ (by simp) b1
  have bR := X3 _ _ _ (by omega) bR
  have h1 := N3 _ _ _ _ h1
  have i1 := N3 _ _ _ _ i1
  have h2 := N3 _ _ _ _ h2
  have i2 := N3 _ _ _ _ i2
  have hbA := B3 _ _ hbA (Nat.le_refl _)
  clear hW3 N3 B3 X3
  generalize hW4 : ((W3.setCell _ _).setCell _ _).setCell _ _ = W4
  obtain ⟨b1, -, N3, B3, X3⟩ := put3 b1 hW4
  have b0 := X3 _ _ _ (by simp) b0
  have bR := X3 _ _ _ (by simp) bR
  have h1 := N3 _ _ _ _ h1
  have i1 := N3 _ _ _ _ i1
  have h2 := N3 _ _ _ _ h2
  have i2 := N3 _ _ _ _ i2
  have hbA := B3 _ _ hbA (by omega)
  clear hW4 N3 B3 X3
  have HU1 := hide (mulL HX1.out HY2.out)
  have HU2 := hide (mulL HY1.out HX2.out)
  have HU3 := hide (mulL HX2.out HY2.out)
  obtain ⟨X, hX⟩ : ∃ X, u1 * v2 = X := ⟨_, rfl⟩
  obtain ⟨Y, hY⟩ : ∃ Y, u2 * v1 = Y := ⟨_, rfl⟩
  obtain ⟨Z, hZ⟩ : ∃ Z, v1 * v2 = Z := ⟨_, rfl⟩
  rw [hX] at HU1
  rw [hY] at HU2
  rw [hZ] at HU3
  have HRS := hide (show p1 = p2 → qv p1 (X + Y) Z = r from fun h => by rw [← hX, ← hY, ← hZ, ← qv_add_same p1 Hb.out Hd.out]; rw [← h] at HR; exact HR.out)
  have HRG := hide (show ¬p1 = p2 → Y ≤ X → qv p1 (X - Y) Z = r from fun h h' => by rw [← hX, ← hY, ← hZ, ← qv_add_ge p1 Hb.out Hd.out (by rw [hX, hY]; exact h')]; rw [ne_not h] at HR; exact HR.out)
  have HRL := hide (show ¬p1 = p2 → X ≤ Y → qv p2 (Y - X) Z = r from fun h h' => by rw [← hX, ← hY, ← hZ, ne_not h, ← qv_add_lt p1 Hb.out Hd.out (by rw [hX, hY]; exact h')]; rw [ne_not h] at HR; exact HR.out)
  have HX := hide hX
  have HY := hide hY
  have HZ := hide hZ
  clear hX hY hZ HR Hb Hd
  have k1 : W4.cell? ⟨w.heap.size, 1, none⟩ = some (.slice A1 n1 c1) := b0.at_ 1
  have k5 : W4.cell? ⟨w.heap.size + 1, 2, none⟩ = some (.slice B2 m2 d2) := b1.at_ 2
  have lt0 := b0.lt
  have lt1 := b1.lt
  go_wp2_with fail
  clear k1 k5
  refine (rmul_n (L := L + 1) (h1.nt HX1.out) (i2.nt HY2.out) (by omega) X HX.out).mono fun e w5 h => ?_
  obtain ⟨A5, n5, c5, rfl, h5, hb5⟩ := h.cn
  clear h
  have hbA := hbA.trans (hb5.mono hbA.size)
  have b0 := b0.below' hb5
  have b1 := b1.below' hb5
  have bR := bR.below' hb5
  have h1 := h1.below hb5
  have i1 := i1.below hb5
  have h2 := h2.below hb5
  have i2 := i2.below hb5
  clear hb5
  have k2 : w5.cell? ⟨w.heap.size, 2, none⟩ = some (.slice B1 m1 d1) := b0.at_ 2
  have k4 : w5.cell? ⟨w.heap.size + 1, 1, none⟩ = some (.slice A2 n2 c2) := b1.at_ 1
  have lt0 := b0.lt
  have lt1 := b1.lt
  have HZ5 : Hid (w.heap.size + 2 < w5.heap.size) := bR.lt
  go_wp2_with fail
  clear k2 k4
  generalize hW : w5.alloc _ = W5
  obtain ⟨hb, b5, -⟩ := boxesA1 hW
  clear hW
  have hbA := hbA.trans (hb.mono hbA.size)
  have b0 := b0.below' hb
  have b1 := b1.below' hb
  have bR := bR.below' hb
  have h1 := h1.below hb
  have i1 := i1.below hb
  have h2 := h2.below hb
  have i2 := i2.below hb
  have h5 := h5.below hb
  clear hb
  refine (rmul_n (L := L + 1) (h2.nt HY1.out) (i1.nt HX2.out) (by omega) Y HY.out).mono fun e w6 h => ?_
  obtain ⟨A6, n6, c6, rfl, h6, hb6⟩ := h.cn
  clear h
  have hbA := hbA.trans (hb6.mono hbA.size)
  have b0 := b0.below' hb6
  have b1 := b1.below' hb6
  have bR := bR.below' hb6
  have b5 := b5.below' hb6
  have i1 := i1.below hb6
  have i2 := i2.below hb6
  have h5 := h5.below hb6
  clear hb6
  have k2 : w6.cell? ⟨w.heap.size, 2, none⟩ = some (.slice B1 m1 d1) := b0.at_ 2
  have k5 : w6.cell? ⟨w.heap.size + 1, 2, none⟩ = some (.slice B2 m2 d2) := b1.at_ 2
  have lt0 := b0.lt
  have lt1 := b1.lt
  have lt5 := b5.lt
  have HZ6 : Hid (w.heap.size + 2 < w6.heap.size) := bR.lt
  go_wp2_with fail
  clear k2 k5 lt5
  generalize hW : w6.alloc _ = W6
  obtain ⟨hb, b6, -⟩ := boxesA1 hW
  clear hW
  have hbA := hbA.trans (hb.mono hbA.size)
  have b0 := b0.below' hb
  have b1 := b1.below' hb
  have bR := bR.below' hb
  have b5 := b5.below' hb
  have i1 := i1.below hb
  have i2 := i2.below hb
  have h5 := h5.below hb
  have h6 := h6.below hb
  clear hb
  refine (rmul_n (L := L + 1) (i1.nt HX2.out) (i2.nt HY2.out) (by omega) Z HZ.out).mono fun e w7 h => ?_
  obtain ⟨A7, n7, c7, rfl, h7, hb7⟩ := h.cn
  clear h
  have hbA := hbA.trans (hb7.mono hbA.size)
  have b0 := b0.below' hb7
  have b1 := b1.below' hb7
  have bR := bR.below' hb7
  have b5 := b5.below' hb7
  have b6 := b6.below' hb7
  have h5 := h5.below hb7
  have h6 := h6.below hb7
  clear hb7
  have k0 : w7.cell? ⟨w.heap.size, 0, none⟩ = some (.bool p1) := b0.at_ 0
  have k3 : w7.cell? ⟨w.heap.size + 1, 0, none⟩ = some (.bool p2) := b1.at_ 0
  have lt0 := b0.lt
  have lt1 := b1.lt
  have HS5 : Hid (w.heap.size + 2 < w5.heap.size) := HZ5
  have HS6 : Hid (w.heap.size + 2 < w6.heap.size) := HZ6
  have HS7 : Hid (w.heap.size + 2 < w7.heap.size) := bR.lt
  by_cases hpp : p1 = p2
  · subst hpp
    have HRQ := hide (HRS.out rfl)
    clear HRS
    have hpe : (p1 == p1) = true := by simp
    go_wp2_with fail
    clear k0 k3 hpe lt0 lt1
    generalize hW : w7.alloc _ = W8
    obtain ⟨hb, b7, -⟩ := boxesA1 hW
    clear hW
    have hbA := hbA.trans (hb.mono hbA.size)
    have b0 := b0.below' hb
    have b1 := b1.below' hb
    have bR := bR.below' hb
    have b5 := b5.below' hb
    have b6 := b6.below' hb
    have h5 := h5.below hb
    have h6 := h6.below hb
    have h7 := h7.below hb
    clear hb
    obtain ⟨T, hT⟩ : ∃ T, X + Y = T := ⟨_, rfl⟩
    rw [hT] at HRQ
    have HT := hide hT
    have HTL := hide (show T < B9 ^ (2 * L + 3) from by rw [← hT]; exact addB HU1.out HU2.out)
    clear hT
    have lt0 := b0.lt
    have lt5 := b5.lt
    have lt6 := b6.lt
    have lt7 := b7.lt
    have ltR := bR.lt
    have n5R : w5.heap.size ≠ w.heap.size + 1 + 1 := by have := HS5.out; omega
    have n6R : w6.heap.size ≠ w.heap.size + 1 + 1 := by have := HS6.out; omega
    have n7R : w7.heap.size ≠ w.heap.size + 1 + 1 := by have := HS7.out; omega
    have P0 : Below W8.heap.size W8 W8.drew := (Below.refl _ _).drew
    have KS : Hid (∀ w', Below W8.heap.size W8 w' → w'.cell? ⟨w.heap.size, 0, none⟩ = some (.bool p1) ∧ w'.cell? ⟨w5.heap.size, 0, none⟩ = some (.slice A5 n5 c5) ∧ w'.cell? ⟨w6.heap.size, 0, none⟩ = some (.slice A6 n6 c6) ∧ w'.cell? ⟨w7.heap.size, 0, none⟩ = some (.slice A7 n7 c7)) := fun w' h =>
      ⟨(b0.below h lt0).at_ 0, (b5.below h lt5).cell, (b6.below h lt6).cell, (b7.below h lt7).cell⟩
    have KB : Hid (∀ w', Below W8.heap.size W8 w' → Box w' (w.heap.size + 1 + 1) #[.bool false, .slice none 0 0, .slice none 0 0] 26) := fun w' h => bR.below h ltR
    have HF : Hid (∀ w', Box w' (w.heap.size + 1 + 1) #[.bool false, .slice none 0 0, .slice none 0 0] 26 → w'.cell? ⟨w.heap.size + 1 + 1, 0, none⟩ = some (.bool false) ∧ w'.cell? ⟨w.heap.size + 1 + 1, 1, none⟩ = some (.slice none 0 0) ∧ w'.cell? ⟨w.heap.size + 1 + 1, 2, none⟩ = some (.slice none 0 0) ∧ w'.frozen? ⟨w.heap.size + 1 + 1, 0, none⟩ = false ∧ w'.frozen? ⟨w.heap.size + 1 + 1, 1, none⟩ = false ∧ w'.frozen? ⟨w.heap.size + 1 + 1, 2, none⟩ = false) :=
      fun w' h => ⟨h.at_ 0, h.at_ 1, h.at_ 2, h.frozen 0, h.frozen 1, h.frozen 2⟩
    have ST : Hid (∀ w' (x y z : Value), Below W8.heap.size W8 w' → (fun w' => w'.cell? ⟨w.heap.size, 0, none⟩ = some (.bool p1) ∧ w'.cell? ⟨w5.heap.size, 0, none⟩ = some (.slice A5 n5 c5) ∧ w'.cell? ⟨w6.heap.size, 0, none⟩ = some (.slice A6 n6 c6) ∧ w'.cell? ⟨w7.heap.size, 0, none⟩ = some (.slice A7 n7 c7)) (((w'.setCell ⟨w.heap.size + 1 + 1, 0, none⟩ x).setCell ⟨w.heap.size + 1 + 1, 1, none⟩ y).setCell ⟨w.heap.size + 1 + 1, 2, none⟩ z)) := fun w' x y z h => by
      obtain ⟨q0, q1, q2, q3⟩ := KS.out w' h
      refine ⟨?_, ?_, ?_, ?_⟩
      · rw [cell_far _ _ _ _ (by simp; omega), cell_far _ _ _ _ (by simp; omega), cell_far _ _ _ _ (by simp; omega)]; exact q0
      · rw [cell_far _ _ _ _ n5R, cell_far _ _ _ _ n5R, cell_far _ _ _ _ n5R]; exact q1
      · rw [cell_far _ _ _ _ n6R, cell_far _ _ _ _ n6R, cell_far _ _ _ _ n6R]; exact q2
      · rw [cell_far _ _ _ _ n7R, cell_far _ _ _ _ n7R, cell_far _ _ _ _ n7R]; exact q3
    go_region_held3 (fun w' => w'.cell? ⟨w.heap.size, 0, none⟩ = some (.bool p1) ∧ w'.cell? ⟨w5.heap.size, 0, none⟩ = some (.slice A5 n5 c5) ∧ w'.cell? ⟨w6.heap.size, 0, none⟩ = some (.slice A6 n6 c6) ∧ w'.cell? ⟨w7.heap.size, 0, none⟩ = some (.slice A7 n7 c7))
      (first | exact KS.out _ En | exact KS.out _ Es | exact ST.out _ _ _ _ En | exact ST.out _ _ _ _ Es | exact KS.out _ (Below.refl _ _) | exact KS.out _ P0)
      (first | (go_at_call_of 87 (Value.slice A5 n5 c5); (with_reducible refine (radd_n (L := 2 * L + 2) ((h5.below P0).nt HU1.out) ((h6.below P0).nt HU2.out) (by omega) T HT.out).mono ?_); rintro e ws ⟨As, ns, cs, rfl, rs, ls, ms, hxws⟩; have Es := (P0).trans (hxws.mono (P0).size); have hs : Cn ws As ns cs T := ⟨rs, ls, ms⟩) | (go_at_call 48; (with_reducible refine (gnew_f (p := p1) (L := 2 * L + 3) (frMk (hs.nt HTL.out) (((h7.below Es).nt HU3.out).up (by omega)) HRQ.out) (by omega) (by omega)).mono ?_); rintro e wn ⟨p4, A4, n4, c4, B4, m4, d4, rfl, h4, hxwn⟩; have En := (Es).trans (hxwn.mono (Es).size); obtain ⟨g0, g1, g2, f0, f1, f2⟩ := HF.out _ (KB.out _ En)))
    clear g0 g1 g2 f0 f1 f2
    have X10 := KB.out _ En
    have hbA := hbA.trans (En.mono hbA.size)
    generalize hW10 : ((wn.setCell _ _).setCell _ _).setCell _ _ = W10
    obtain ⟨b10, -, C10, B10, -⟩ := put3 X10 hW10
    clear hW10
    go_wp2
    have k0 : W10.cell? ⟨w.heap.size + 1 + 1, 0, none⟩ = some (.bool p4) := b10.at_ 0
    have k1 : W10.cell? ⟨w.heap.size + 1 + 1, 1, none⟩ = some (.slice A4 n4 c4) := b10.at_ 1
    have k2 : W10.cell? ⟨w.heap.size + 1 + 1, 2, none⟩ = some (.slice B4 m4 d4) := b10.at_ 2
    refine bodyPost_ret (v := .agg #[.bool p4, .slice A4 n4 c4, .slice B4 m4 d4]) (by simp [results, Tryz.results57, go_sem, k0, k1, k2]) rfl ?_
    exact ⟨_, _, _, _, _, _, _, rfl, ⟨h4.1, C10 _ _ _ _ h4.2.1, C10 _ _ _ _ h4.2.2⟩, B10 _ _ hbA (by omega)⟩
  · have HRG := hide (HRG.out hpp)
    have HRL := hide (HRL.out hpp)
    have hpe : (p1 == p2) = false := by simp [hpp]
    have lt5 := b5.lt
    have lt6 := b6.lt
    have k5 := b5.cell
    have k6 := b6.cell
    go_wp2_with fail
    clear k0 k3 hpe lt0 lt1 k5 k6 lt5 lt6
    generalize hW : w7.alloc _ = W8
    obtain ⟨hb, b7, -⟩ := boxesA1 hW
    clear hW
    have hbA := hbA.trans (hb.mono hbA.size)
    have b0 := b0.below' hb
    have b1 := b1.below' hb
    have bR := bR.below' hb
    have b5 := b5.below' hb
    have b6 := b6.below' hb
    have h5 := h5.below hb
    have h6 := h6.below hb
    have h7 := h7.below hb
    clear hb
    by_cases hXY : X < Y
    · obtain ⟨o, ho⟩ : ∃ o, cmpI X Y = o := ⟨_, rfl⟩
      have hO : decide (0 ≤ o) = false := by
        rw [← ho]
        rw [cmpI_lt hXY]; rfl
      have HO := hide ho
      have HLE := hide (show X ≤ Y from by omega)
      clear ho hXY
      refine (rcmp_n (L := 2 * L + 2) (h5.nt HU1.out) (h6.nt HU2.out) (by omega) o HO.out).mono ?_
      rintro e w8 ⟨rfl, hb8⟩
      have hbA := hbA.trans (hb8.mono hbA.size)
      have b0 := b0.below' hb8
      have b1 := b1.below' hb8
      have bR := bR.below' hb8
      have b5 := b5.below' hb8
      have b6 := b6.below' hb8
      have b7 := b7.below' hb8
      have h5 := h5.below hb8
      have h6 := h6.below hb8
      have h7 := h7.below hb8
      clear hb8
      have lt5 := b5.lt
      have lt6 := b6.lt
      have k5 := b5.cell
      have k6 := b6.cell
      go_wp2_with fail
      clear k5 k6 lt5 lt6 hO
      obtain ⟨T, hT⟩ : ∃ T, Y - X = T := ⟨_, rfl⟩
      have HRT := hide (show qv p2 T Z = r from by rw [← hT]; exact HRL.out HLE.out)
      have HT := hide hT
      have HTL := hide (show T < B9 ^ (2 * L + 2) from by rw [← hT]; exact Nat.lt_of_le_of_lt (Nat.sub_le _ _) HU2.out)
      clear hT
      refine (rsub_n (L := 2 * L + 2) (h6.nt HU2.out) (h5.nt HU1.out) (by omega) T HT.out HLE.out).mono fun e w9 h => ?_
      obtain ⟨A9, n9, c9, rfl, h9, hb9⟩ := h.cn
      clear h
      have hbA := hbA.trans (hb9.mono hbA.size)
      have b0 := b0.below' hb9
      have b1 := b1.below' hb9
      have bR := bR.below' hb9
      have b7 := b7.below' hb9
      have h7 := h7.below hb9
      clear hb9
      have k7 := b7.cell
      have lt7 := b7.lt
      have k3 : w9.cell? ⟨w.heap.size + 1, 0, none⟩ = some (.bool p2) := b1.at_ 0
      have lt0 := b0.lt
      have lt1 := b1.lt
      go_wp2_with fail
      clear k7 lt7 lt0 lt1 k3
      generalize hW : w9.alloc _ = W9
      obtain ⟨hb, b9, -⟩ := boxesA1 hW
      clear hW
      have hbA := hbA.trans (hb.mono hbA.size)
      have bR := bR.below' hb
      have h7 := h7.below hb
      have h9 := h9.below hb
      clear hb
      refine (gnew_f (p := p2) (L := 2 * L + 2) (frMk (h9.nt HTL.out) (h7.nt HU3.out) HRT.out) (by omega) (by omega)).mono ?_
      rintro e wn ⟨p4, A4, n4, c4, B4, m4, d4, rfl, h4, hbn⟩
      have hbA := hbA.trans (hbn.mono hbA.size)
      have bR := bR.below' hbn
      clear hbn
      have g0 : wn.cell? ⟨w.heap.size + 1 + 1, 0, none⟩ = some (.bool false) := bR.at_ 0
      have g1 : wn.cell? ⟨w.heap.size + 1 + 1, 1, none⟩ = some (.slice none 0 0) := bR.at_ 1
      have g2 : wn.cell? ⟨w.heap.size + 1 + 1, 2, none⟩ = some (.slice none 0 0) := bR.at_ 2
      have f0 := bR.frozen 0
      have f1 := bR.frozen 1
      have f2 := bR.frozen 2
      go_wp2
      clear g0 g1 g2 f0 f1 f2
      generalize hW3 : ((wn.setCell _ _).setCell _ _).setCell _ _ = W3
      obtain ⟨b3, -, C3, B3, -⟩ := put3 bR hW3
      clear hW3
      have k0 : W3.cell? ⟨w.heap.size + 1 + 1, 0, none⟩ = some (.bool p4) := b3.at_ 0
      have k1 : W3.cell? ⟨w.heap.size + 1 + 1, 1, none⟩ = some (.slice A4 n4 c4) := b3.at_ 1
      have k2 : W3.cell? ⟨w.heap.size + 1 + 1, 2, none⟩ = some (.slice B4 m4 d4) := b3.at_ 2
      refine bodyPost_ret (v := .agg #[.bool p4, .slice A4 n4 c4, .slice B4 m4 d4]) (by simp [results, Tryz.results57, go_sem, k0, k1, k2]) rfl ?_
      exact ⟨_, _, _, _, _, _, _, rfl, ⟨h4.1, C3 _ _ _ _ h4.2.1, C3 _ _ _ _ h4.2.2⟩, B3 _ _ hbA (by omega)⟩
    · obtain ⟨o, ho⟩ : ∃ o, cmpI X Y = o := ⟨_, rfl⟩
      have hO : decide (0 ≤ o) = true := by
        rw [← ho]
        rcases Nat.lt_or_ge Y X with h | h
        · rw [cmpI_gt h]; rfl
        · rw [cmpI_eq (by omega)]; rfl
      have HO := hide ho
      have HLE := hide (show Y ≤ X from by omega)
      clear ho hXY
      refine (rcmp_n (L := 2 * L + 2) (h5.nt HU1.out) (h6.nt HU2.out) (by omega) o HO.out).mono ?_
      rintro e w8 ⟨rfl, hb8⟩
      have hbA := hbA.trans (hb8.mono hbA.size)
      have b0 := b0.below' hb8
      have b1 := b1.below' hb8
      have bR := bR.below' hb8
      have b5 := b5.below' hb8
      have b6 := b6.below' hb8
      have b7 := b7.below' hb8
      have h5 := h5.below hb8
      have h6 := h6.below hb8
      have h7 := h7.below hb8
      clear hb8
      have lt5 := b5.lt
      have lt6 := b6.lt
      have k5 := b5.cell
      have k6 := b6.cell
      go_wp2_with fail
      clear k5 k6 lt5 lt6 hO
      obtain ⟨T, hT⟩ : ∃ T, X - Y = T := ⟨_, rfl⟩
      have HRT := hide (show qv p1 T Z = r from by rw [← hT]; exact HRG.out HLE.out)
      have HT := hide hT
      have HTL := hide (show T < B9 ^ (2 * L + 2) from by rw [← hT]; exact Nat.lt_of_le_of_lt (Nat.sub_le _ _) HU1.out)
      clear hT
      refine (rsub_n (L := 2 * L + 2) (h5.nt HU1.out) (h6.nt HU2.out) (by omega) T HT.out HLE.out).mono fun e w9 h => ?_
      obtain ⟨A9, n9, c9, rfl, h9, hb9⟩ := h.cn
      clear h
      have hbA := hbA.trans (hb9.mono hbA.size)
      have b0 := b0.below' hb9
      have b1 := b1.below' hb9
      have bR := bR.below' hb9
      have b7 := b7.below' hb9
      have h7 := h7.below hb9
      clear hb9
      have k7 := b7.cell
      have lt7 := b7.lt
      have k0 : w9.cell? ⟨w.heap.size, 0, none⟩ = some (.bool p1) := b0.at_ 0
      have lt0 := b0.lt
      have lt1 := b1.lt
      go_wp2_with fail
      clear k7 lt7 lt0 lt1 k0
      generalize hW : w9.alloc _ = W9
      obtain ⟨hb, b9, -⟩ := boxesA1 hW
      clear hW
      have hbA := hbA.trans (hb.mono hbA.size)
      have bR := bR.below' hb
      have h7 := h7.below hb
      have h9 := h9.below hb
      clear hb
      refine (gnew_f (p := p1) (L := 2 * L + 2) (frMk (h9.nt HTL.out) (h7.nt HU3.out) HRT.out) (by omega) (by omega)).mono ?_
      rintro e wn ⟨p4, A4, n4, c4, B4, m4, d4, rfl, h4, hbn⟩
      have hbA := hbA.trans (hbn.mono hbA.size)
      have bR := bR.below' hbn
      clear hbn
      have g0 : wn.cell? ⟨w.heap.size + 1 + 1, 0, none⟩ = some (.bool false) := bR.at_ 0
      have g1 : wn.cell? ⟨w.heap.size + 1 + 1, 1, none⟩ = some (.slice none 0 0) := bR.at_ 1
      have g2 : wn.cell? ⟨w.heap.size + 1 + 1, 2, none⟩ = some (.slice none 0 0) := bR.at_ 2
      have f0 := bR.frozen 0
      have f1 := bR.frozen 1
      have f2 := bR.frozen 2
      go_wp2
      clear g0 g1 g2 f0 f1 f2
      generalize hW3 : ((wn.setCell _ _).setCell _ _).setCell _ _ = W3
      obtain ⟨b3, -, C3, B3, -⟩ := put3 bR hW3
      clear hW3
      have k0 : W3.cell? ⟨w.heap.size + 1 + 1, 0, none⟩ = some (.bool p4) := b3.at_ 0
      have k1 : W3.cell? ⟨w.heap.size + 1 + 1, 1, none⟩ = some (.slice A4 n4 c4) := b3.at_ 1
      have k2 : W3.cell? ⟨w.heap.size + 1 + 1, 2, none⟩ = some (.slice B4 m4 d4) := b3.at_ 2
      refine bodyPost_ret (v := .agg #[.bool p4, .slice A4 n4 c4, .slice B4 m4 d4]) (by simp [results, Tryz.results57, go_sem, k0, k1, k2]) rfl ?_
      exact ⟨_, _, _, _, _, _, _, rfl, ⟨h4.1, C3 _ _ _ _ h4.2.1, C3 _ _ _ _ h4.2.2⟩, B3 _ _ hbA (by omega)⟩
end Go.Proofs.YtgfdeihfinlfoaaGreatDoor

/- The contract of the reference's power (of ten). -/
namespace Go.Proofs.YtgfdeihfinlfoaaGreatDoor
open Go Go.RowKit

theorem tenB {k : Nat} (hk : k ≤ 20) : 10 ^ k < B9 ^ 3 := Nat.lt_of_le_of_lt (Nat.pow_le_pow_right (by decide) hk) (by decide)
theorem ht_nat {a i : Nat} (h : a < B9 ^ i) (hi : 1 ≤ i) : Ht ((a : Nat) : Rat) i := by
  have := Ht.int (k := (a : Int)) (i := i) (by simpa using h) hi
  rwa [Rat.intCast_natCast] at this
set_option maxHeartbeats 2000000 in
theorem gpow_f (k : Nat) (hk : k ≤ 20) (w : World) (r : Rat) (hr : ((10 ^ k : Nat) : Rat) = r) : Calls Tryz.prog 55 #[.int .i64 (k : Int)] w (GivesF r w) := by
  have HR := hide hr
  have Q1 := hide (show (((1 : Int) : Rat) / ((1 : Int) : Rat)) = ((10 ^ 0 : Nat) : Rat) from by decide +kernel)
  have Q2 := hide (show (((10 : Int) : Rat) / ((1 : Int) : Rat)) = 10 from by decide +kernel)
  have H10 := hide (show Ht 10 3 from by
    have : Ht ((10 : Nat) : Rat) 3 := ht_nat (by decide) (by omega)
    simpa using this)
  clear hr
  go_enter Tryz.func55, Tryz.ntmps55
  go_wp2_with fail
  generalize hW : w.alloc _ = W
  obtain ⟨hbW, bR, -⟩ := boxesA1 hW
  clear hW
  refine (gof_f 1 1 _ (by omega) (by omega) (by omega) (by omega) _ Q1.out).mono ?_
  rintro e w1 ⟨p1, A1, n1, c1, B1, m1, d1, rfl, h1, hb1⟩
  have hbA := hbW.trans (hb1.mono hbW.size)
  have bR := bR.below' hb1
  have HS := hide bR.lt
  clear hb1 hbW
  go_wp2_with fail
  generalize hW : w1.alloc _ = W1
  obtain ⟨hb, b3, -⟩ := boxesA1 hW
  clear hW
  have hbA := hbA.trans (hb.mono hbA.size)
  have bR := bR.below' hb
  have h1 := h1.below hb
  clear hb
  go_loopw [4] (fun t wr => ∃ i p A n c B m d, i ≤ k ∧ t = .int .i64 ((i : Nat) : Int) ∧ Below w.heap.size w wr ∧ Box wr w.heap.size #[.bool false, .slice none 0 0, .slice none 0 0] 26 ∧ Box wr w1.heap.size #[.bool p, .slice A n c, .slice B m d] 26 ∧ Fc wr p A n c B m d ((10 ^ i : Nat) : Rat)) (fun t _ => k - (intOf t).toNat)
  case atStart => exact ⟨0, _, _, _, _, _, _, _, by omega, rfl, hbA, bR, b3, h1⟩
  case round =>
    obtain ⟨i, p, A, n, c, B, m, d, hi, rfl, hbA, bR, b3, h1⟩ := hrel
    by_cases hlt : i < k
    · have HTi := hide (show Ht ((10 ^ i : Nat) : Rat) 3 from ht_nat (tenB (by omega)) (by omega))
      have HM := hide (show ((10 ^ i : Nat) : Rat) * 10 = ((10 ^ (i + 1) : Nat) : Rat) from by
        rw [Nat.pow_succ, Rat.natCast_mul]
        rfl)
      have KF : Hid (∀ w', Below wr.heap.size wr w' → w'.cell? ⟨w1.heap.size, 0, none⟩ = some (.bool p) ∧ w'.cell? ⟨w1.heap.size, 1, none⟩ = some (.slice A n c) ∧ w'.cell? ⟨w1.heap.size, 2, none⟩ = some (.slice B m d) ∧ w'.frozen? ⟨w1.heap.size, 0, none⟩ = false ∧ w'.frozen? ⟨w1.heap.size, 1, none⟩ = false ∧ w'.frozen? ⟨w1.heap.size, 2, none⟩ = false) := fun w' h =>
        ⟨(b3.below' h).at_ 0, (b3.below' h).at_ 1, (b3.below' h).at_ 2, (b3.below' h).frozen 0, (b3.below' h).frozen 1, (b3.below' h).frozen 2⟩
      go_wp2_with fail
      have P0 : Below wr.heap.size wr wr.drew := (Below.refl _ _).drew
      have hS := HS.out
      obtain ⟨k0, k1, k2, -⟩ := KF.out _ P0
      go_region_law (first
        | (go_simp; go_at_call 56; (with_reducible refine (gof_f 10 1 _ (by omega) (by omega) (by omega) (by omega) 10 Q2.out).mono ?_); rintro e w5 ⟨p5, A5, n5, c5, B5, m5, d5, rfl, h5, hb5⟩; have E5 := P0.trans (hb5.mono P0.size); obtain ⟨x0, x1, x2, -⟩ := KF.out _ E5)
        | (go_simp; go_at_call 84; (with_reducible refine (gmul_f (L := 3) (Fc.fr (h1.below E5) HTi.out) (h5.fr H10.out) (by omega) (by omega) _ HM.out).mono ?_); rintro e w6 ⟨p6, A6, n6, c6, B6, m6, d6, rfl, h6, hb6⟩; have E6 := E5.trans (hb6.mono E5.size); obtain ⟨y0, y1, y2, e0, e1, e2⟩ := KF.out _ E6))
      all_goals
        clear x0 x1 x2 y0 y1 y2 e0 e1 e2 k0 k1 k2
        have bR := bR.below' E6
        have b3 := b3.below' E6
        have hbA := hbA.trans (E6.mono hbA.size)
        clear E6 E5 P0 KF h1 h5 hb5 hb6
        generalize hW3 : ((w6.setCell _ _).setCell _ _).setCell _ _ = W3
        obtain ⟨b3, -, C3, B3, X3⟩ := put3 b3 hW3
        have bR := X3 _ _ _ (by omega) bR
        have h6 : Fc W3 p6 A6 n6 c6 B6 m6 d6 ((10 ^ (i + 1) : Nat) : Rat) := ⟨h6.1, C3 _ _ _ _ h6.2.1, C3 _ _ _ _ h6.2.2⟩
        have hbA := B3 _ _ hbA (by omega)
        clear hW3 C3 B3 X3
        go_wp2
        go_roundw
        case measure => simp [intOf]; omega
        case rel => exact ⟨i + 1, p6, A6, n6, c6, B6, m6, d6, by omega, by go_num, hbA, bR, b3, h6⟩
    · obtain rfl : i = k := by omega
      rw [HR.out] at h1
      have hS := HS.out
      have k0 : wr.cell? ⟨w1.heap.size, 0, none⟩ = some (.bool p) := b3.at_ 0
      have k1 : wr.cell? ⟨w1.heap.size, 1, none⟩ = some (.slice A n c) := b3.at_ 1
      have k2 : wr.cell? ⟨w1.heap.size, 2, none⟩ = some (.slice B m d) := b3.at_ 2
      have g0 : wr.cell? ⟨w.heap.size, 0, none⟩ = some (.bool false) := bR.at_ 0
      have g1 : wr.cell? ⟨w.heap.size, 1, none⟩ = some (.slice none 0 0) := bR.at_ 1
      have g2 : wr.cell? ⟨w.heap.size, 2, none⟩ = some (.slice none 0 0) := bR.at_ 2
      have f0 := bR.frozen 0
      have f1 := bR.frozen 1
      have f2 := bR.frozen 2
      go_wp2_with fail
      clear g0 g1 g2 f0 f1 f2 k0 k1 k2
      generalize hW3 : ((wr.setCell _ _).setCell _ _).setCell _ _ = W3
      obtain ⟨b3, -, C3, B3, -⟩ := put3 bR hW3
      clear hW3
      have k0 : W3.cell? ⟨w.heap.size, 0, none⟩ = some (.bool p) := b3.at_ 0
      have k1 : W3.cell? ⟨w.heap.size, 1, none⟩ = some (.slice A n c) := b3.at_ 1
      have k2 : W3.cell? ⟨w.heap.size, 2, none⟩ = some (.slice B m d) := b3.at_ 2
      refine bodyPost_ret (v := .agg #[.bool p, .slice A n c, .slice B m d]) (by simp [results, Tryz.results55, go_sem, k0, k1, k2]) rfl ?_
      exact ⟨_, _, _, _, _, _, _, rfl, ⟨h1.1, C3 _ _ _ _ h1.2.1, C3 _ _ _ _ h1.2.2⟩, B3 _ _ hbA (Nat.le_refl _)⟩
end Go.Proofs.YtgfdeihfinlfoaaGreatDoor

/- The contracts of the reference's fractions: Sub, Cmp, Div. -/
namespace Go.Proofs.YtgfdeihfinlfoaaGreatDoor
open Go Go.RowKit

set_option maxHeartbeats 1000000 in
theorem gdiv_f {w : World} {L : Nat} {p : Bool} {A : Option Addr} {n c : Nat} {B : Option Addr} {m d : Nat} {x : Rat} {p' : Bool} {A' : Option Addr} {n' c' : Nat} {B' : Option Addr} {m' d' : Nat} {y : Rat} (hx : Fr w L p A n c B m d x) (hy : Fr w L p' A' n' c' B' m' d' y) (h1L : 1 ≤ L) (hL : L ≤ 8000) (h0 : y ≠ 0) (r : Rat) (hr : x / y = r) : Calls Tryz.prog 54 #[.agg #[.bool p, .slice A n c, .slice B m d], .agg #[.bool p', .slice A' n' c', .slice B' m' d']] w (GivesFE r 0 w) := by
  have HR := hide hr
  clear hr
  have HY := hide hy.ht
  have H0 := hide h0
  clear h0
  go_enter Tryz.func54, Tryz.ntmps54
  go_wp2_with fail
  generalize hW : ((w.alloc _).alloc _).alloc _ = W
  obtain ⟨hbW, b0, b1, bR, -⟩ := boxesA3 hW
  clear hW
  refine (gnorm_f (hy.below hbW) h1L (by omega) y rfl).mono ?_
  rintro e w1 ⟨p1, A1, n1, c1, B1, m1, d1, rfl, h1, hb1⟩
  have hbA := hbW.trans (hb1.mono hbW.size)
  have b0 := b0.below' hb1
  have b1 := b1.below' hb1
  have bR := bR.below' hb1
  have hx := hx.below hbA
  have k3 : w1.cell? ⟨w.heap.size + 1, 0, none⟩ = some (.bool p') := b1.at_ 0
  have k4 : w1.cell? ⟨w.heap.size + 1, 1, none⟩ = some (.slice A' n' c') := b1.at_ 1
  have k5 : w1.cell? ⟨w.heap.size + 1, 2, none⟩ = some (.slice B' m' d') := b1.at_ 2
  have f3 := b1.frozen 0
  have f4 := b1.frozen 1
  have f5 := b1.frozen 2
  obtain ⟨hp, hN, hD⟩ := h1
  have HP := hide hp
  clear hb1 hbW hy hp
  go_wp2_with fail
  clear k3 k4 k5 f3 f4 f5
  generalize hW3 : ((w1.setCell _ _).setCell _ _).setCell _ _ = W3
  obtain ⟨b1, N3, C3, B3, X3⟩ := put3 b1 hW3
  have hN := C3 _ _ _ _ hN
  have hD := C3 _ _ _ _ hD
  have b0 := X3 _ _ _ (by simp) b0
  have bR := X3 _ _ _ (by simp) bR
  have hbA := B3 _ _ hbA (by omega)
  have hx : Fr W3 L p A n c B m d x := by
    obtain ⟨u, v, h1, h2, h3⟩ := hx
    exact ⟨u, v, N3 _ _ _ _ _ h1, N3 _ _ _ _ _ h2, h3⟩
  clear N3
  clear hW3 C3 B3 X3
  have hn0 : y.num.natAbs ≠ 0 := fun h => H0.out (Rat.num_eq_zero.1 (by omega))
  have HI := hide (show Fr W3 (L + 1) p1 B1 m1 d1 A1 n1 c1 y⁻¹ from by
    refine ⟨y.den, y.num.natAbs, hD.nt HY.out.2, hN.nt HY.out.1, ?_⟩
    rw [← qv_inv, fcq HP.out])
  obtain ⟨o, ho⟩ : ∃ o, y.num.natAbs = o := ⟨_, rfl⟩
  have HO := hide (show o < B9 ^ (L + 1) from by rw [← ho]; exact HY.out.1)
  rw [ho] at hN hn0
  have hd : decide (o = 0) = false := by simp [hn0]
  have HDD := hide hd
  clear ho hn0 hd
  refine (gzero_any (L + 1) (by omega) A1 n1 c1 o _ (hN.nt HO.out) false HDD.out).mono ?_
  rintro e w5 ⟨rfl, hb5⟩
  have hbA := hbA.trans (hb5.mono hbA.size)
  have b0 := b0.below' hb5
  have b1 := b1.below' hb5
  have bR := bR.below' hb5
  have hx := hx.below hb5
  have HI := hide (HI.out.below hb5)
  clear hb5 hN hD
  have k0 : w5.cell? ⟨w.heap.size, 0, none⟩ = some (.bool p) := b0.at_ 0
  have k1 : w5.cell? ⟨w.heap.size, 1, none⟩ = some (.slice A n c) := b0.at_ 1
  have k2 : w5.cell? ⟨w.heap.size, 2, none⟩ = some (.slice B m d) := b0.at_ 2
  have k3 : w5.cell? ⟨w.heap.size + 1, 0, none⟩ = some (.bool p1) := b1.at_ 0
  have k4 : w5.cell? ⟨w.heap.size + 1, 1, none⟩ = some (.slice A1 n1 c1) := b1.at_ 1
  have k5 : w5.cell? ⟨w.heap.size + 1, 2, none⟩ = some (.slice B1 m1 d1) := b1.at_ 2
  go_wp2_with fail
  clear k0 k1 k2 k3 k4 k5
  refine (gmul_f (L := L + 1) (hx.up (by omega)) HI.out (by omega) (by omega) r (by rw [← Rat.div_def]; exact HR.out)).mono ?_
  rintro e w6 ⟨p4, A4, n4, c4, B4, m4, d4, rfl, h4, hb6⟩
  have hbA := hbA.trans (hb6.mono hbA.size)
  have bR := bR.below' hb6
  clear hb6 hx b0 b1
  have g0 : w6.cell? ⟨w.heap.size + 1 + 1, 0, none⟩ = some (.bool false) := bR.at_ 0
  have g1 : w6.cell? ⟨w.heap.size + 1 + 1, 1, none⟩ = some (.slice none 0 0) := bR.at_ 1
  have g2 : w6.cell? ⟨w.heap.size + 1 + 1, 2, none⟩ = some (.slice none 0 0) := bR.at_ 2
  have f0 := bR.frozen 0
  have f1 := bR.frozen 1
  have f2 := bR.frozen 2
  go_wp2_with fail
  clear g0 g1 g2 f0 f1 f2
  generalize hW3 : ((w6.setCell _ _).setCell _ _).setCell _ _ = W5
  obtain ⟨b3, -, C3, BB, -⟩ := put3 bR hW3
  clear hW3
  have k0 : W5.cell? ⟨w.heap.size + 1 + 1, 0, none⟩ = some (.bool p4) := b3.at_ 0
  have k1 : W5.cell? ⟨w.heap.size + 1 + 1, 1, none⟩ = some (.slice A4 n4 c4) := b3.at_ 1
  have k2 : W5.cell? ⟨w.heap.size + 1 + 1, 2, none⟩ = some (.slice B4 m4 d4) := b3.at_ 2
  refine bodyPost_ret (v := .tuple #[.agg #[.bool p4, .slice A4 n4 c4, .slice B4 m4 d4], .int .i64 0]) (by simp [results, Tryz.results54, go_sem, k0, k1, k2]) rfl ?_
  exact ⟨_, _, _, _, _, _, _, rfl, ⟨h4.1, C3 _ _ _ _ h4.2.1, C3 _ _ _ _ h4.2.2⟩, BB _ _ hbA (by omega)⟩
set_option maxHeartbeats 1000000 in
theorem gdiv_0 {w : World} {L : Nat} {p : Bool} {A : Option Addr} {n c : Nat} {B : Option Addr} {m d : Nat} {p' : Bool} {A' : Option Addr} {n' c' : Nat} {B' : Option Addr} {m' d' : Nat} {y : Rat} (hy : Fr w L p' A' n' c' B' m' d' y) (h1L : 1 ≤ L) (hL : L ≤ 8000) (h0 : y = 0) : Calls Tryz.prog 54 #[.agg #[.bool p, .slice A n c, .slice B m d], .agg #[.bool p', .slice A' n' c', .slice B' m' d']] w fun e w' => e = .returned (.tuple #[.agg #[.bool false, .slice none 0 0, .slice none 0 0], .int .i64 12]) ∧ Below w.heap.size w w' := by
  have HY := hide hy.ht
  have H0 := hide h0
  clear h0
  go_enter Tryz.func54, Tryz.ntmps54
  go_wp2_with fail
  generalize hW : ((w.alloc _).alloc _).alloc _ = W
  obtain ⟨hbW, b0, b1, bR, -⟩ := boxesA3 hW
  clear hW
  refine (gnorm_f (hy.below hbW) h1L (by omega) y rfl).mono ?_
  rintro e w1 ⟨p1, A1, n1, c1, B1, m1, d1, rfl, h1, hb1⟩
  have hbA := hbW.trans (hb1.mono hbW.size)
  have b0 := b0.below' hb1
  have b1 := b1.below' hb1
  have bR := bR.below' hb1
  have k3 : w1.cell? ⟨w.heap.size + 1, 0, none⟩ = some (.bool p') := b1.at_ 0
  have k4 : w1.cell? ⟨w.heap.size + 1, 1, none⟩ = some (.slice A' n' c') := b1.at_ 1
  have k5 : w1.cell? ⟨w.heap.size + 1, 2, none⟩ = some (.slice B' m' d') := b1.at_ 2
  have f3 := b1.frozen 0
  have f4 := b1.frozen 1
  have f5 := b1.frozen 2
  obtain ⟨hp, hN, hD⟩ := h1
  have HP := hide hp
  clear hb1 hbW hy hp
  go_wp2_with fail
  clear k3 k4 k5 f3 f4 f5
  generalize hW3 : ((w1.setCell _ _).setCell _ _).setCell _ _ = W3
  obtain ⟨b1, -, C3, B3, X3⟩ := put3 b1 hW3
  have hN := C3 _ _ _ _ hN
  have hD := C3 _ _ _ _ hD
  have b0 := X3 _ _ _ (by simp) b0
  have bR := X3 _ _ _ (by simp) bR
  have hbA := B3 _ _ hbA (by omega)
  clear hW3 C3 B3 X3
  refine (gzero_any (L + 1) (by omega) A1 n1 c1 0 _ (Cn.nt (by rw [H0.out] at hN; exact hN) (Nat.pow_pos (by decide))) true rfl).mono ?_
  rintro e w5 ⟨rfl, hb5⟩
  have hbA := hbA.trans (hb5.mono hbA.size)
  have bR := bR.below' hb5
  clear hb5 hN hD b0 b1
  have g0 : w5.cell? ⟨w.heap.size + 1 + 1, 0, none⟩ = some (.bool false) := bR.at_ 0
  have g1 : w5.cell? ⟨w.heap.size + 1 + 1, 1, none⟩ = some (.slice none 0 0) := bR.at_ 1
  have g2 : w5.cell? ⟨w.heap.size + 1 + 1, 2, none⟩ = some (.slice none 0 0) := bR.at_ 2
  have f0 := bR.frozen 0
  have f1 := bR.frozen 1
  have f2 := bR.frozen 2
  go_wp2_with fail
  clear g0 g1 g2 f0 f1 f2
  generalize hW3 : ((w5.setCell _ _).setCell _ _).setCell _ _ = W5
  obtain ⟨b3, -, C3, BB, -⟩ := put3 bR hW3
  clear hW3
  have k0 : W5.cell? ⟨w.heap.size + 1 + 1, 0, none⟩ = some (.bool false) := b3.at_ 0
  have k1 : W5.cell? ⟨w.heap.size + 1 + 1, 1, none⟩ = some (.slice none 0 0) := b3.at_ 1
  have k2 : W5.cell? ⟨w.heap.size + 1 + 1, 2, none⟩ = some (.slice none 0 0) := b3.at_ 2
  refine bodyPost_ret (v := .tuple #[.agg #[.bool false, .slice none 0 0, .slice none 0 0], .int .i64 12]) (by simp [results, Tryz.results54, go_sem, k0, k1, k2]) rfl ?_
  exact ⟨rfl, BB _ _ hbA (by omega)⟩
end Go.Proofs.YtgfdeihfinlfoaaGreatDoor

/- The contract of the reference's power (of ten), up to 200. -/
namespace Go.Proofs.YtgfdeihfinlfoaaGreatDoor
open Go Go.RowKit

theorem tenC {k : Nat} (hk : k ≤ 200) : 10 ^ k < B9 ^ 24 := by
  rw [pow_B9]
  exact Nat.pow_lt_pow_right (by decide) (by omega)
set_option maxHeartbeats 2000000 in
theorem gpow2_f (k : Nat) (hk : k ≤ 200) (w : World) (r : Rat) (hr : ((10 ^ k : Nat) : Rat) = r) : Calls Tryz.prog 55 #[.int .i64 (k : Int)] w (GivesF r w) := by
  have HR := hide hr
  have Q1 := hide (show (((1 : Int) : Rat) / ((1 : Int) : Rat)) = ((10 ^ 0 : Nat) : Rat) from by decide +kernel)
  have Q2 := hide (show (((10 : Int) : Rat) / ((1 : Int) : Rat)) = 10 from by decide +kernel)
  have H10 := hide (show Ht 10 24 from by
    have : Ht ((10 : Nat) : Rat) 24 := ht_nat (by decide) (by omega)
    simpa using this)
  clear hr
  go_enter Tryz.func55, Tryz.ntmps55
  go_wp2_with fail
  generalize hW : w.alloc _ = W
  obtain ⟨hbW, bR, -⟩ := boxesA1 hW
  clear hW
  refine (gof_f 1 1 _ (by omega) (by omega) (by omega) (by omega) _ Q1.out).mono ?_
  rintro e w1 ⟨p1, A1, n1, c1, B1, m1, d1, rfl, h1, hb1⟩
  have hbA := hbW.trans (hb1.mono hbW.size)
  have bR := bR.below' hb1
  have HS := hide bR.lt
  clear hb1 hbW
  go_wp2_with fail
  generalize hW : w1.alloc _ = W1
  obtain ⟨hb, b3, -⟩ := boxesA1 hW
  clear hW
  have hbA := hbA.trans (hb.mono hbA.size)
  have bR := bR.below' hb
  have h1 := h1.below hb
  clear hb
  go_loopw [4] (fun t wr => ∃ i p A n c B m d, i ≤ k ∧ t = .int .i64 ((i : Nat) : Int) ∧ Below w.heap.size w wr ∧ Box wr w.heap.size #[.bool false, .slice none 0 0, .slice none 0 0] 26 ∧ Box wr w1.heap.size #[.bool p, .slice A n c, .slice B m d] 26 ∧ Fc wr p A n c B m d ((10 ^ i : Nat) : Rat)) (fun t _ => k - (intOf t).toNat)
  case atStart => exact ⟨0, _, _, _, _, _, _, _, by omega, rfl, hbA, bR, b3, h1⟩
  case round =>
    obtain ⟨i, p, A, n, c, B, m, d, hi, rfl, hbA, bR, b3, h1⟩ := hrel
    by_cases hlt : i < k
    · have HTi := hide (show Ht ((10 ^ i : Nat) : Rat) 24 from ht_nat (tenC (by omega)) (by omega))
      have HM := hide (show ((10 ^ i : Nat) : Rat) * 10 = ((10 ^ (i + 1) : Nat) : Rat) from by
        rw [Nat.pow_succ, Rat.natCast_mul]
        rfl)
      have KF : Hid (∀ w', Below wr.heap.size wr w' → w'.cell? ⟨w1.heap.size, 0, none⟩ = some (.bool p) ∧ w'.cell? ⟨w1.heap.size, 1, none⟩ = some (.slice A n c) ∧ w'.cell? ⟨w1.heap.size, 2, none⟩ = some (.slice B m d) ∧ w'.frozen? ⟨w1.heap.size, 0, none⟩ = false ∧ w'.frozen? ⟨w1.heap.size, 1, none⟩ = false ∧ w'.frozen? ⟨w1.heap.size, 2, none⟩ = false) := fun w' h =>
        ⟨(b3.below' h).at_ 0, (b3.below' h).at_ 1, (b3.below' h).at_ 2, (b3.below' h).frozen 0, (b3.below' h).frozen 1, (b3.below' h).frozen 2⟩
      go_wp2_with fail
      have P0 : Below wr.heap.size wr wr.drew := (Below.refl _ _).drew
      have hS := HS.out
      obtain ⟨k0, k1, k2, -⟩ := KF.out _ P0
      go_region_law (first
        | (go_simp; go_at_call 56; (with_reducible refine (gof_f 10 1 _ (by omega) (by omega) (by omega) (by omega) 10 Q2.out).mono ?_); rintro e w5 ⟨p5, A5, n5, c5, B5, m5, d5, rfl, h5, hb5⟩; have E5 := P0.trans (hb5.mono P0.size); obtain ⟨x0, x1, x2, -⟩ := KF.out _ E5)
        | (go_simp; go_at_call 84; (with_reducible refine (gmul_f (L := 24) (Fc.fr (h1.below E5) HTi.out) (h5.fr H10.out) (by omega) (by omega) _ HM.out).mono ?_); rintro e w6 ⟨p6, A6, n6, c6, B6, m6, d6, rfl, h6, hb6⟩; have E6 := E5.trans (hb6.mono E5.size); obtain ⟨y0, y1, y2, e0, e1, e2⟩ := KF.out _ E6))
      all_goals
        clear x0 x1 x2 y0 y1 y2 e0 e1 e2 k0 k1 k2
        have bR := bR.below' E6
        have b3 := b3.below' E6
        have hbA := hbA.trans (E6.mono hbA.size)
        clear E6 E5 P0 KF h1 h5 hb5 hb6
        generalize hW3 : ((w6.setCell _ _).setCell _ _).setCell _ _ = W3
        obtain ⟨b3, -, C3, B3, X3⟩ := put3 b3 hW3
        have bR := X3 _ _ _ (by omega) bR
        have h6 : Fc W3 p6 A6 n6 c6 B6 m6 d6 ((10 ^ (i + 1) : Nat) : Rat) := ⟨h6.1, C3 _ _ _ _ h6.2.1, C3 _ _ _ _ h6.2.2⟩
        have hbA := B3 _ _ hbA (by omega)
        clear hW3 C3 B3 X3
        go_wp2
        go_roundw
        case measure => simp [intOf]; omega
        case rel => exact ⟨i + 1, p6, A6, n6, c6, B6, m6, d6, by omega, by go_num, hbA, bR, b3, h6⟩
    · obtain rfl : i = k := by omega
      rw [HR.out] at h1
      have hS := HS.out
      have k0 : wr.cell? ⟨w1.heap.size, 0, none⟩ = some (.bool p) := b3.at_ 0
      have k1 : wr.cell? ⟨w1.heap.size, 1, none⟩ = some (.slice A n c) := b3.at_ 1
      have k2 : wr.cell? ⟨w1.heap.size, 2, none⟩ = some (.slice B m d) := b3.at_ 2
      have g0 : wr.cell? ⟨w.heap.size, 0, none⟩ = some (.bool false) := bR.at_ 0
      have g1 : wr.cell? ⟨w.heap.size, 1, none⟩ = some (.slice none 0 0) := bR.at_ 1
      have g2 : wr.cell? ⟨w.heap.size, 2, none⟩ = some (.slice none 0 0) := bR.at_ 2
      have f0 := bR.frozen 0
      have f1 := bR.frozen 1
      have f2 := bR.frozen 2
      go_wp2_with fail
      clear g0 g1 g2 f0 f1 f2 k0 k1 k2
      generalize hW3 : ((wr.setCell _ _).setCell _ _).setCell _ _ = W3
      obtain ⟨b3, -, C3, B3, -⟩ := put3 bR hW3
      clear hW3
      have k0 : W3.cell? ⟨w.heap.size, 0, none⟩ = some (.bool p) := b3.at_ 0
      have k1 : W3.cell? ⟨w.heap.size, 1, none⟩ = some (.slice A n c) := b3.at_ 1
      have k2 : W3.cell? ⟨w.heap.size, 2, none⟩ = some (.slice B m d) := b3.at_ 2
      refine bodyPost_ret (v := .agg #[.bool p, .slice A n c, .slice B m d]) (by simp [results, Tryz.results55, go_sem, k0, k1, k2]) rfl ?_
      exact ⟨_, _, _, _, _, _, _, rfl, ⟨h1.1, C3 _ _ _ _ h1.2.1, C3 _ _ _ _ h1.2.2⟩, B3 _ _ hbA (Nat.le_refl _)⟩
end Go.Proofs.YtgfdeihfinlfoaaGreatDoor

/- readDigits: the contract. -/
namespace Go.Proofs.YtgfdeihfinlfoaaGreatDoor
open Go Go.RowKit

/-- a natural of a value, and a Bool -/
def GivesNB (u : Nat) (b : Bool) (w : World) (e : Ending) (w' : World) : Prop :=
  ∃ A n c, e = .returned (.tuple #[.agg #[.slice A n c], .bool b]) ∧ Cn w' A n c u ∧ Below w.heap.size w w'
def sigL (l : List UInt8) : List UInt8 := l.dropWhile (· == 48)
theorem sig_decV : ∀ l : List UInt8, decV (NB (sigL l)) = decV (NB l)
  | [] => rfl
  | c :: l => by
    unfold sigL
    rw [List.dropWhile_cons]
    split
    · rename_i h
      rw [beq_iff_eq] at h
      subst h
      have ih := sig_decV l
      unfold sigL at ih
      rw [ih]
      simp [NB, decV]
    · rfl
theorem sig_dig : ∀ l : List UInt8, AllDig (NB (sigL l)) ↔ AllDig (NB l)
  | [] => Iff.rfl
  | c :: l => by
    unfold sigL
    rw [List.dropWhile_cons]
    split
    · rename_i h
      rw [beq_iff_eq] at h
      subst h
      have ih := sig_dig l
      unfold sigL at ih
      rw [ih]
      constructor
      · intro h x hx
        simp only [NB, List.map_cons, List.mem_cons] at hx
        rcases hx with rfl | hx
        · decide
        · exact h x hx
      · intro h x hx
        exact h x (by simp only [NB, List.map_cons, List.mem_cons]; exact Or.inr hx)
    · exact Iff.rfl
theorem sig_head : ∀ l : List UInt8, (sigL l).head? ≠ some 48
  | [] => by simp [sigL]
  | c :: l => by
    unfold sigL
    rw [List.dropWhile_cons]
    split
    · exact sig_head l
    · rename_i h
      simp only [List.head?_cons, ne_eq, Option.some.injEq]
      intro e
      exact h (by rw [beq_iff_eq]; exact e)
theorem sig_isT {l : List UInt8} (h0 : sigL l ≠ []) : IsT (NB (sigL l)) ↔ AllDig (NB l) := by
  rw [← sig_dig l]
  constructor
  · exact fun h => h.1
  · intro h
    refine ⟨h, .inr ?_⟩
    rcases hs : sigL l with _ | ⟨c, r⟩
    · exact absurd hs h0
    · refine ⟨c.toNat, NB r, rfl, fun e => ?_⟩
      have := sig_head l
      rw [hs] at this
      exact this (by rw [List.head?_cons]; congr 1; exact UInt8.toNat_inj.1 e)
theorem sig_nil {l : List UInt8} (h : sigL l = []) : AllDig (NB l) ∧ decV (NB l) = 0 := by
  constructor
  · rw [← sig_dig, h]
    intro x hx
    simp [NB] at hx
  · rw [← sig_decV, h]
    rfl
theorem sig_len (l : List UInt8) : (sigL l).length ≤ l.length := (List.dropWhile_sublist _).length_le

set_option maxHeartbeats 2000000 in
set_option maxRecDepth 100000 in
theorem rd_e (s : ByteArray) (w : World) (h : sigL s.data.toList = []) (b : Bool) (hb : (!s.toList.isEmpty) = b) : Calls Tryz.prog 49 #[.string s] w (GivesNB 0 b w) := by
  have C1 : Hid (∀ W : World, Calls Tryz.prog 81 #[.string s, .string ⟨#[48]⟩] W fun e w' => e = .returned (.string ⟨#[]⟩) ∧ W = w') := fun W => by
    refine Calls.mono (Tryz.strings_TrimLeft_one s 48 (by decide) W) ?_
    rintro e w' ⟨rfl, rfl⟩
    exact ⟨by rw [show Lib.trimLeftB s.data.toList 48 = [] from h], rfl⟩
  have HB := hide hb
  clear h hb
  go_enter Tryz.func49, Tryz.ntmps49
  go_wp2_with fail
  generalize hW : w.alloc _ = W
  obtain ⟨B, bR, -⟩ := boxesA1 hW
  clear hW
  refine (C1.out _).mono ?_
  rintro e w1 ⟨rfl, rfl⟩
  have g0 := bR.cell
  have f0 := bR.frozen 0
  have gz := bR.lt
  go_wp2_with fail
  have r3 : Cn (W.setCell ⟨w.heap.size, 0, none⟩ (.slice none 0 0)) none 0 0 0 := ⟨RL.nil_, by omega, by simp [maxLen]⟩
  have b3 := bR.put (.slice none 0 0)
  have B := B.setCell (Nat.le_refl _) (p := ⟨w.heap.size, 0, none⟩) (.slice none 0 0)
  clear g0 f0 gz
  generalize W.setCell (⟨w.heap.size, 0, none⟩ : Addr) (.slice none 0 0) = W3 at *
  have k0 := b3.cell
  refine bodyPost_ret (v := .tuple #[.agg #[.slice none 0 0], .bool b]) (by simp [results, Tryz.results49, go_sem, k0, HB.out]) rfl ?_
  exact ⟨none, 0, 0, rfl, r3, B⟩
set_option maxHeartbeats 2000000 in
set_option maxRecDepth 100000 in
theorem rd_v (s D : ByteArray) (w : World) (hD : mkS (sigL s.data.toList) = D) (h0 : sigL s.data.toList ≠ []) (V : Nat) (er : Int) (b : Bool) (hb : (er == 0) = b)
    (p1 : ∀ W : World, Calls Tryz.prog 34 #[.string D] W (GivesNE V er W)) : Calls Tryz.prog 49 #[.string s] w (GivesNB V b w) := by
  have C1 : Hid (∀ W : World, Calls Tryz.prog 81 #[.string s, .string ⟨#[48]⟩] W fun e w' => e = .returned (.string D) ∧ W = w') := fun W => by
    refine Calls.mono (Tryz.strings_TrimLeft_one s 48 (by decide) W) ?_
    rintro e w' ⟨rfl, rfl⟩
    exact ⟨by rw [← hD]; rfl, rfl⟩
  have e1 : ¬ D.toList = [] := by rw [← hD, Lib.toList_data, mkS_list]; exact h0
  have e2 : D.toList.isEmpty = false := by simpa using e1
  have P1 := hide p1
  clear hD h0 p1
  go_enter Tryz.func49, Tryz.ntmps49
  go_wp2_with fail
  generalize hW : w.alloc _ = W
  obtain ⟨B, bR, -⟩ := boxesA1 hW
  clear hW
  refine (C1.out _).mono ?_
  rintro e w1 ⟨rfl, rfl⟩
  go_wp2_with fail
  refine (P1.out _).mono ?_
  rintro e w3 hg
  obtain ⟨A3, n3, c3, rfl, a3, hb3⟩ := hg.cn
  have bR := bR.below' hb3
  have B := B.trans (hb3.mono B.size)
  clear hb3 hg
  have g0 := bR.cell
  have f0 := bR.frozen 0
  have gz := bR.lt
  go_wp2_with fail
  have r3 := a3.far (i := 0) bR noInt1 (.slice A3 n3 c3)
  have b3 := bR.put (.slice A3 n3 c3)
  have B := B.setCell (Nat.le_refl _) (p := ⟨w.heap.size, 0, none⟩) (.slice A3 n3 c3)
  clear g0 f0 gz
  generalize w3.setCell (⟨w.heap.size, 0, none⟩ : Addr) (.slice A3 n3 c3) = W3 at *
  generalize hW : W3.alloc _ = W4
  obtain ⟨hb4, -, -⟩ := boxesA1 hW
  clear hW
  have k0 := (b3.below' hb4).cell
  refine bodyPost_ret (v := .tuple #[.agg #[.slice A3 n3 c3], .bool b]) (by simp [results, Tryz.results49, go_sem, k0]) rfl ?_
  exact ⟨A3, n3, c3, rfl, r3.below hb4, B.trans (hb4.mono B.size)⟩
theorem posB (L : Nat) : 0 < B9 ^ L := Nat.pow_pos (by decide)
/-- the digits behind the point: their value, and whether they are digits, one at least -/
theorem rd_any (s : ByteArray) (hs : s.size ≤ 4000) : ∃ (V : Nat) (b : Bool), (AllDig (NB s.data.toList) → V = decV (NB s.data.toList)) ∧ (b = true ↔ AllDig (NB s.data.toList) ∧ s.data.toList ≠ []) ∧ V < B9 ^ 445 ∧
    ∀ w : World, Calls Tryz.prog 49 #[.string s] w (GivesNB V b w) := by
  by_cases h : sigL s.data.toList = []
  · have h1 := sig_nil h
    refine ⟨0, !s.toList.isEmpty, fun _ => h1.2.symm, ?_, posB 445, fun w => rd_e s w h _ rfl⟩
    rw [Lib.toList_data]
    simp [h1.1]
  · have hn : s.data.toList ≠ [] := fun e => h (by rw [e]; rfl)
    have hl : (sigL s.data.toList).length ≤ 4000 := Nat.le_trans (sig_len _) (by rw [← size_list]; exact hs)
    have hz := mkS_size (sigL s.data.toList)
    have hm := mkS_list (sigL s.data.toList)
    by_cases hd : AllDig (NB s.data.toList)
    · have ht := (sig_isT h).2 hd
      refine ⟨decV (NB s.data.toList), true, fun _ => rfl, ⟨fun _ => ⟨hd, hn⟩, fun _ => rfl⟩, ?_, fun w => rd_v s _ w rfl h _ 0 true rfl fun W => np_yes _ W (by omega) (by rw [hm]; exact ht) _ (by rw [hm, sig_decV])⟩
      rw [← sig_decV]
      exact decV_size (L := 445) ht (Nat.le_trans hl (by decide))
    · refine ⟨0, false, fun e => absurd e hd, ⟨fun e => by (cases e), fun e => absurd e.1 hd⟩, posB 445, fun w => rd_v s _ w rfl h _ 3 false rfl fun W => np_no _ W (by omega) (by rw [hm]; exact fun e => hd ((sig_isT h).1 e))⟩
end Go.Proofs.YtgfdeihfinlfoaaGreatDoor

/- The contract of the reference's digits (of fractions). -/
namespace Go.Proofs.YtgfdeihfinlfoaaGreatDoor
open Go Go.RowKit

theorem nb_at (s : ByteArray) (k : Nat) (h : k < s.size) : (NB s.data.toList)[k]? = some s[k].toNat := bytesOf_at s k h
set_option maxHeartbeats 1000000 in
theorem gdigits_any (s : ByteArray) (w : World) (hs : s.size ≤ 5000) (b : Bool) (hb : b = true ↔ AllDig (NB s.data.toList) ∧ s.data.toList ≠ []) :
    Calls Tryz.prog 53 #[.string s] w fun e w' => e = .returned (.bool b) ∧ w = w' := by
  have HB := hide hb
  have HL := hide (size_list s)
  clear hb
  go_enter Tryz.func53, Tryz.ntmps53
  go_wp2
  go_loop [3] (fun i => ∃ k : Nat, k ≤ s.size ∧ i = .int .i64 (k : Int) ∧ AllDig ((NB s.data.toList).take k)) (fun i => s.size - (intOf i).toNat)
  case atStart => exact ⟨0, by omega, rfl, fun x hx => by simp at hx⟩
  case round =>
    obtain ⟨k, hk, rfl, hal⟩ := hrel
    by_cases hlt : k < s.size
    · have HX := hide (nb_at s k hlt)
      have HA := hide hal
      clear hal
      by_cases h1 : s[k].toNat < 48
      · have HF := hide (show b = false from by
          rcases Bool.eq_false_or_eq_true b with h | h
          · have := (HB.out.1 h).1 _ (List.mem_of_getElem? HX.out)
            omega
          · exact h)
        go_wp2
        go_ret
        exact ⟨by rw [HF.out]; rfl, rfl⟩
      · by_cases h2 : 57 < s[k].toNat
        · have HF := hide (show b = false from by
            rcases Bool.eq_false_or_eq_true b with h | h
            · have := (HB.out.1 h).1 _ (List.mem_of_getElem? HX.out)
              omega
            · exact h)
          go_wp2
          go_ret
          exact ⟨by rw [HF.out]; rfl, rfl⟩
        · have HN : Hid (AllDig ((NB s.data.toList).take (k + 1))) := by
            intro y hy
            rw [take_snoc _ _ _ HX.out] at hy
            rcases List.mem_append.1 hy with h | h
            · exact HA.out y h
            · simp at h; subst h; omega
          go_wp2
          go_round
          case rel => exact ⟨k + 1, by omega, by go_num, HN.out⟩
          case measure => simp [intOf]; omega
    · obtain rfl : k = s.size := by omega
      have hd : decide (0 < s.size) = b := by
        rw [List.take_of_length_le (by simp [NB])] at hal
        rw [Bool.eq_iff_iff, HB.out, decide_eq_true_iff]
        have := HL.out
        constructor
        · intro h
          refine ⟨hal, fun e => ?_⟩
          rw [e] at this
          have : s.size = 0 := this
          omega
        · rintro ⟨-, h⟩
          rcases hl : s.data.toList with _ | ⟨c, r⟩
          · exact absurd hl h
          · rw [hl] at this
            have : s.size = r.length + 1 := this
            omega
      clear hal
      go_wp2
      go_ret
      exact ⟨rfl, rfl⟩
end Go.Proofs.YtgfdeihfinlfoaaGreatDoor

/- What is left of a decimal notation's digits: words. -/
namespace Go.Proofs.YtgfdeihfinlfoaaGreatDoor
open Go Go.RowKit

/-- digits of the value N -/
def DecS (s : ByteArray) (N : Nat) : Prop := AllDig (NB s.data.toList) ∧ decV (NB s.data.toList) = N ∧ 0 < s.size
theorem DecS.parse {s : ByteArray} {N : Nat} (h : DecS s N) (ht : IsT (NB s.data.toList)) (hs : s.size ≤ 4000) (W : World) : Calls Tryz.prog 46 #[.string s] W (GivesNE N 0 W) := by
  have := rq_yes (t := s) rfl (by rw [← size_list]; exact hs) ht W
  rwa [h.2.1] at this
theorem DecS.list {s : ByteArray} {N : Nat} (h : DecS s N) : ∃ c r, s.data.toList = c :: r ∧ s.size = r.length + 1 := by
  have h3 := h.2.2
  rw [size_list] at h3
  rcases hl : s.data.toList with _ | ⟨c, r⟩
  · rw [hl] at h3; simp at h3
  · exact ⟨c, r, rfl, by rw [size_list, hl]; rfl⟩
theorem DecS.small {s : ByteArray} {N : Nat} (h : DecS s N) (h1 : s.size ≤ 1) : IsT (NB s.data.toList) := by
  obtain ⟨c, r, hl, hz⟩ := h.list
  obtain rfl : r = [] := List.eq_nil_of_length_eq_zero (by omega)
  refine ⟨h.1, ?_⟩
  rw [hl]
  by_cases e : c.toNat = 48
  · exact .inl (by simp [NB, e])
  · exact .inr ⟨c.toNat, [], rfl, e⟩
theorem DecS.big {s : ByteArray} {N : Nat} (h : DecS s N) (h0 : 0 < s.size) (e : ((s[0].toNat : Int) == 48) = false) : IsT (NB s.data.toList) := by
  obtain ⟨c, r, hl, hz⟩ := h.list
  refine ⟨h.1, .inr ⟨c.toNat, NB r, by rw [hl]; rfl, fun e2 => ?_⟩⟩
  rw [get_of hl h0 (by simp)] at e
  rw [beq_eq_false_iff_ne] at e
  simp only [List.getElem_cons_zero] at e
  omega
theorem DecS.next {s : ByteArray} {N : Nat} (h : DecS s N) (h1 : 1 < s.size) (e : (((s[0]'(Nat.lt_trans Nat.zero_lt_one h1)).toNat : Int) == 48) = true) : DecS (s.extract 1 s.size) N := by
  obtain ⟨c, r, hl, hz⟩ := h.list
  have ex : (s.extract 1 s.size).data.toList = r := by rw [ex_list, size_list, List.take_length, hl]; rfl
  rw [get_of hl _ (by simp), beq_iff_eq] at e
  simp only [List.getElem_cons_zero] at e
  have hc : c.toNat = 48 := by omega
  refine ⟨?_, ?_, by rw [ByteArray.size_extract]; omega⟩
  · rw [ex]
    intro x hx
    exact h.1 x (by rw [hl]; simp only [NB, List.map_cons, List.mem_cons]; exact Or.inr hx)
  · rw [ex, ← h.2.1, hl]
    simp [NB, decV, hc]
end Go.Proofs.YtgfdeihfinlfoaaGreatDoor
