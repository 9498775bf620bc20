/- The contract of the reference's Add (fractions). -/
import Derived.Test.YtgfdeihfinlfoaaGreatDoorBaseI
import Derived.Deep.RegionLaw
import Derived.Deep.CutRange
import Derived.Deep.RegionHeld3
namespace Go.Proofs.YtgfdeihfinlfoaaGreatDoor
open Go Go.RowKit

/-- two fractions are made canonical in their boxes -/
def Normed (W : World) (g0 g1 : Nat) (x y : Rat) (wx : World) : Prop :=
  ∃ wy p1 A1 n1 c1 B1 m1 d1 p2 A2 n2 c2 B2 m2 d2, Below W.heap.size W wy ∧ Fc wy p1 A1 n1 c1 B1 m1 d1 x ∧ Fc wy p2 A2 n2 c2 B2 m2 d2 y ∧
    wx = (((((wy.setCell ⟨g0, 0, none⟩ (.bool p1)).setCell ⟨g0, 1, none⟩ (.slice A1 n1 c1)).setCell ⟨g0, 2, none⟩ (.slice B1 m1 d1)).setCell ⟨g1, 0, none⟩ (.bool p2)).setCell ⟨g1, 1, none⟩ (.slice A2 n2 c2)).setCell ⟨g1, 2, none⟩ (.slice B2 m2 d2)
theorem fcq {p : Bool} {x : Rat} (h : p = decide (x.num < 0)) : qv p x.num.natAbs x.den = x := by rw [h, qv_parts]
theorem ne_not {p q : Bool} (h : ¬p = q) : q = !p := by cases p <;> cases q <;> simp_all
set_option maxHeartbeats 4000000 in
set_option maxRecDepth 4000 in
theorem gadd_f {w : World} {L : Nat} {p : Bool} {A : Option Addr} {n c : Nat} {B : Option Addr} {m d : Nat} {x : Rat} {p' : Bool} {A' : Option Addr} {n' c' : Nat} {B' : Option Addr} {m' d' : Nat} {y : Rat} (hx : Fr w L p A n c B m d x) (hy : Fr w L p' A' n' c' B' m' d' y) (h1L : 1 ≤ L) (hL : L ≤ 9000) (r : Rat) (hr : x + y = r) : Calls Tryz.prog 57 #[.agg #[.bool p, .slice A n c, .slice B m d], .agg #[.bool p', .slice A' n' c', .slice B' m' d']] w (GivesF r w) := by
  have HR := hide hr
  have HX := hide hx.ht
  have HY := hide hy.ht
  clear hr
  go_enter Tryz.func57, Tryz.ntmps57
  go_wp2_with fail
  generalize hW : ((w.alloc _).alloc _).alloc _ = W
  obtain ⟨hbW, b0, b1, bR, hz⟩ := boxesA3 hW
  clear hW hz
  have hx := hx.below hbW
  have hy := hy.below hbW
  have lt0 := b0.lt
  have lt1 := b1.lt
  have ltR := bR.lt
  have KF : Hid (∀ w', Below W.heap.size W w' → w'.cell? ⟨w.heap.size, 0, none⟩ = some (.bool p) ∧ w'.cell? ⟨w.heap.size, 1, none⟩ = some (.slice A n c) ∧ w'.cell? ⟨w.heap.size, 2, none⟩ = some (.slice B m d) ∧ w'.cell? ⟨w.heap.size + 1, 0, none⟩ = some (.bool p') ∧ w'.cell? ⟨w.heap.size + 1, 1, none⟩ = some (.slice A' n' c') ∧ w'.cell? ⟨w.heap.size + 1, 2, none⟩ = some (.slice B' m' d') ∧
      w'.frozen? ⟨w.heap.size, 0, none⟩ = false ∧ w'.frozen? ⟨w.heap.size, 1, none⟩ = false ∧ w'.frozen? ⟨w.heap.size, 2, none⟩ = false ∧ w'.frozen? ⟨w.heap.size + 1, 0, none⟩ = false ∧ w'.frozen? ⟨w.heap.size + 1, 1, none⟩ = false ∧ w'.frozen? ⟨w.heap.size + 1, 2, none⟩ = false) := fun w' h =>
    ⟨(b0.below h lt0).at_ 0, (b0.below h lt0).at_ 1, (b0.below h lt0).at_ 2, (b1.below h lt1).at_ 0, (b1.below h lt1).at_ 1, (b1.below h lt1).at_ 2, (b0.below h lt0).frozen 0, (b0.below h lt0).frozen 1, (b0.below h lt0).frozen 2, (b1.below h lt1).frozen 0, (b1.below h lt1).frozen 1, (b1.below h lt1).frozen 2⟩
  go_cut [] from 12 to 16 (fun wx => Normed W w.heap.size (w.heap.size + 1) x y wx)
  case first =>
    have P0 : Below W.heap.size W W.drew := (Below.refl _ _).drew
    obtain ⟨k0, k1, k2, k3, k4, k5, -⟩ := KF.out _ P0
    go_region_law (first
      | (go_simp; go_at_call 35; (with_reducible refine (gnorm_f (hx.below P0) h1L (by omega) x rfl).mono ?_); rintro e w1 ⟨p1, A1, n1, c1, B1, m1, d1, rfl, h1, hb1⟩; have E1 := P0.trans (hb1.mono P0.size); obtain ⟨x0, x1, x2, x3, x4, x5, -⟩ := KF.out _ E1)
      | (go_simp; go_at_call 35; (with_reducible refine (gnorm_f (hy.below E1) h1L (by omega) y rfl).mono ?_); rintro e w2 ⟨p2, A2, n2, c2, B2, m2, d2, rfl, h2, hb2⟩; have E2 := E1.trans (hb2.mono E1.size); obtain ⟨y0, y1, y2, y3, y4, y5, e0, e1, e2, e3, e4, e5⟩ := KF.out _ E2))
    all_goals
      go_wp2_with fail
      go_meet
      exact ⟨w2, p1, A1, n1, c1, B1, m1, d1, p2, A2, n2, c2, B2, m2, d2, E2, h1.below hb2, h2, rfl⟩
  case rest =>
  obtain ⟨wy, p1, A1, n1, c1, B1, m1, d1, p2, A2, n2, c2, B2, m2, d2, E2, h1, h2, rfl⟩ := hcut
  obtain ⟨hp1, h1, i1⟩ := h1
  obtain ⟨hp2, h2, i2⟩ := h2
  have HR := hide (show qv p1 x.num.natAbs x.den + qv p2 y.num.natAbs y.den = r from by rw [fcq hp1, fcq hp2]; exact HR.out)
  have Hb := hide x.den_nz
  have Hd := hide y.den_nz
  have HX1 := hide HX.out.1
  have HX2 := hide HX.out.2
  have HY1 := hide HY.out.1
  have HY2 := hide HY.out.2
  clear hp1 hp2 HX HY hx hy KF
  generalize x.num.natAbs = u1 at *
  generalize x.den = v1 at *
  generalize y.num.natAbs = u2 at *
  generalize y.den = v2 at *
  have b0 := b0.below' E2
  have b1 := b1.below' E2
  have bR := bR.below' E2
  have hbA := hbW.trans (E2.mono hbW.size)
  clear E2 hbW lt0 lt1 ltR
  generalize hW3 : ((wy.setCell _ _).setCell _ _).setCell _ _ = W3
  obtain ⟨b0, -, N3, B3, X3⟩ := put3 b0 hW3
  have b1 := X3 _ _ _ (by simp) b1
  have bR := X3 _ _ _ (by omega) bR
  have h1 := N3 _ _ _ _ h1
  have i1 := N3 _ _ _ _ i1
  have h2 := N3 _ _ _ _ h2
  have i2 := N3 _ _ _ _ i2
  have hbA := B3 _ _ hbA (Nat.le_refl _)
  clear hW3 N3 B3 X3
  generalize hW4 : ((W3.setCell _ _).setCell _ _).setCell _ _ = W4
  obtain ⟨b1, -, N3, B3, X3⟩ := put3 b1 hW4
  have b0 := X3 _ _ _ (by simp) b0
  have bR := X3 _ _ _ (by simp) bR
  have h1 := N3 _ _ _ _ h1
  have i1 := N3 _ _ _ _ i1
  have h2 := N3 _ _ _ _ h2
  have i2 := N3 _ _ _ _ i2
  have hbA := B3 _ _ hbA (by omega)
  clear hW4 N3 B3 X3
  have HU1 := hide (mulL HX1.out HY2.out)
  have HU2 := hide (mulL HY1.out HX2.out)
  have HU3 := hide (mulL HX2.out HY2.out)
  obtain ⟨X, hX⟩ : ∃ X, u1 * v2 = X := ⟨_, rfl⟩
  obtain ⟨Y, hY⟩ : ∃ Y, u2 * v1 = Y := ⟨_, rfl⟩
  obtain ⟨Z, hZ⟩ : ∃ Z, v1 * v2 = Z := ⟨_, rfl⟩
  rw [hX] at HU1
  rw [hY] at HU2
  rw [hZ] at HU3
  have HRS := hide (show p1 = p2 → qv p1 (X + Y) Z = r from fun h => by rw [← hX, ← hY, ← hZ, ← qv_add_same p1 Hb.out Hd.out]; rw [← h] at HR; exact HR.out)
  have HRG := hide (show ¬p1 = p2 → Y ≤ X → qv p1 (X - Y) Z = r from fun h h' => by rw [← hX, ← hY, ← hZ, ← qv_add_ge p1 Hb.out Hd.out (by rw [hX, hY]; exact h')]; rw [ne_not h] at HR; exact HR.out)
  have HRL := hide (show ¬p1 = p2 → X ≤ Y → qv p2 (Y - X) Z = r from fun h h' => by rw [← hX, ← hY, ← hZ, ne_not h, ← qv_add_lt p1 Hb.out Hd.out (by rw [hX, hY]; exact h')]; rw [ne_not h] at HR; exact HR.out)
  have HX := hide hX
  have HY := hide hY
  have HZ := hide hZ
  clear hX hY hZ HR Hb Hd
  have k1 : W4.cell? ⟨w.heap.size, 1, none⟩ = some (.slice A1 n1 c1) := b0.at_ 1
  have k5 : W4.cell? ⟨w.heap.size + 1, 2, none⟩ = some (.slice B2 m2 d2) := b1.at_ 2
  have lt0 := b0.lt
  have lt1 := b1.lt
  go_wp2_with fail
  clear k1 k5
  refine (rmul_n (L := L + 1) (h1.nt HX1.out) (i2.nt HY2.out) (by omega) X HX.out).mono fun e w5 h => ?_
  obtain ⟨A5, n5, c5, rfl, h5, hb5⟩ := h.cn
  clear h
  have hbA := hbA.trans (hb5.mono hbA.size)
  have b0 := b0.below' hb5
  have b1 := b1.below' hb5
  have bR := bR.below' hb5
  have h1 := h1.below hb5
  have i1 := i1.below hb5
  have h2 := h2.below hb5
  have i2 := i2.below hb5
  clear hb5
  have k2 : w5.cell? ⟨w.heap.size, 2, none⟩ = some (.slice B1 m1 d1) := b0.at_ 2
  have k4 : w5.cell? ⟨w.heap.size + 1, 1, none⟩ = some (.slice A2 n2 c2) := b1.at_ 1
  have lt0 := b0.lt
  have lt1 := b1.lt
  have HZ5 : Hid (w.heap.size + 2 < w5.heap.size) := bR.lt
  go_wp2_with fail
  clear k2 k4
  generalize hW : w5.alloc _ = W5
  obtain ⟨hb, b5, -⟩ := boxesA1 hW
  clear hW
  have hbA := hbA.trans (hb.mono hbA.size)
  have b0 := b0.below' hb
  have b1 := b1.below' hb
  have bR := bR.below' hb
  have h1 := h1.below hb
  have i1 := i1.below hb
  have h2 := h2.below hb
  have i2 := i2.below hb
  have h5 := h5.below hb
  clear hb
  refine (rmul_n (L := L + 1) (h2.nt HY1.out) (i1.nt HX2.out) (by omega) Y HY.out).mono fun e w6 h => ?_
  obtain ⟨A6, n6, c6, rfl, h6, hb6⟩ := h.cn
  clear h
  have hbA := hbA.trans (hb6.mono hbA.size)
  have b0 := b0.below' hb6
  have b1 := b1.below' hb6
  have bR := bR.below' hb6
  have b5 := b5.below' hb6
  have i1 := i1.below hb6
  have i2 := i2.below hb6
  have h5 := h5.below hb6
  clear hb6
  have k2 : w6.cell? ⟨w.heap.size, 2, none⟩ = some (.slice B1 m1 d1) := b0.at_ 2
  have k5 : w6.cell? ⟨w.heap.size + 1, 2, none⟩ = some (.slice B2 m2 d2) := b1.at_ 2
  have lt0 := b0.lt
  have lt1 := b1.lt
  have lt5 := b5.lt
  have HZ6 : Hid (w.heap.size + 2 < w6.heap.size) := bR.lt
  go_wp2_with fail
  clear k2 k5 lt5
  generalize hW : w6.alloc _ = W6
  obtain ⟨hb, b6, -⟩ := boxesA1 hW
  clear hW
  have hbA := hbA.trans (hb.mono hbA.size)
  have b0 := b0.below' hb
  have b1 := b1.below' hb
  have bR := bR.below' hb
  have b5 := b5.below' hb
  have i1 := i1.below hb
  have i2 := i2.below hb
  have h5 := h5.below hb
  have h6 := h6.below hb
  clear hb
  refine (rmul_n (L := L + 1) (i1.nt HX2.out) (i2.nt HY2.out) (by omega) Z HZ.out).mono fun e w7 h => ?_
  obtain ⟨A7, n7, c7, rfl, h7, hb7⟩ := h.cn
  clear h
  have hbA := hbA.trans (hb7.mono hbA.size)
  have b0 := b0.below' hb7
  have b1 := b1.below' hb7
  have bR := bR.below' hb7
  have b5 := b5.below' hb7
  have b6 := b6.below' hb7
  have h5 := h5.below hb7
  have h6 := h6.below hb7
  clear hb7
  have k0 : w7.cell? ⟨w.heap.size, 0, none⟩ = some (.bool p1) := b0.at_ 0
  have k3 : w7.cell? ⟨w.heap.size + 1, 0, none⟩ = some (.bool p2) := b1.at_ 0
  have lt0 := b0.lt
  have lt1 := b1.lt
  have HS5 : Hid (w.heap.size + 2 < w5.heap.size) := HZ5
  have HS6 : Hid (w.heap.size + 2 < w6.heap.size) := HZ6
  have HS7 : Hid (w.heap.size + 2 < w7.heap.size) := bR.lt
  by_cases hpp : p1 = p2
  · subst hpp
    have HRQ := hide (HRS.out rfl)
    clear HRS
    have hpe : (p1 == p1) = true := by simp
    go_wp2_with fail
    clear k0 k3 hpe lt0 lt1
    generalize hW : w7.alloc _ = W8
    obtain ⟨hb, b7, -⟩ := boxesA1 hW
    clear hW
    have hbA := hbA.trans (hb.mono hbA.size)
    have b0 := b0.below' hb
    have b1 := b1.below' hb
    have bR := bR.below' hb
    have b5 := b5.below' hb
    have b6 := b6.below' hb
    have h5 := h5.below hb
    have h6 := h6.below hb
    have h7 := h7.below hb
    clear hb
    obtain ⟨T, hT⟩ : ∃ T, X + Y = T := ⟨_, rfl⟩
    rw [hT] at HRQ
    have HT := hide hT
    have HTL := hide (show T < B9 ^ (2 * L + 3) from by rw [← hT]; exact addB HU1.out HU2.out)
    clear hT
    have lt0 := b0.lt
    have lt5 := b5.lt
    have lt6 := b6.lt
    have lt7 := b7.lt
    have ltR := bR.lt
    have n5R : w5.heap.size ≠ w.heap.size + 1 + 1 := by have := HS5.out; omega
    have n6R : w6.heap.size ≠ w.heap.size + 1 + 1 := by have := HS6.out; omega
    have n7R : w7.heap.size ≠ w.heap.size + 1 + 1 := by have := HS7.out; omega
    have P0 : Below W8.heap.size W8 W8.drew := (Below.refl _ _).drew
    have KS : Hid (∀ w', Below W8.heap.size W8 w' → w'.cell? ⟨w.heap.size, 0, none⟩ = some (.bool p1) ∧ w'.cell? ⟨w5.heap.size, 0, none⟩ = some (.slice A5 n5 c5) ∧ w'.cell? ⟨w6.heap.size, 0, none⟩ = some (.slice A6 n6 c6) ∧ w'.cell? ⟨w7.heap.size, 0, none⟩ = some (.slice A7 n7 c7)) := fun w' h =>
      ⟨(b0.below h lt0).at_ 0, (b5.below h lt5).cell, (b6.below h lt6).cell, (b7.below h lt7).cell⟩
    have KB : Hid (∀ w', Below W8.heap.size W8 w' → Box w' (w.heap.size + 1 + 1) #[.bool false, .slice none 0 0, .slice none 0 0] 26) := fun w' h => bR.below h ltR
    have HF : Hid (∀ w', Box w' (w.heap.size + 1 + 1) #[.bool false, .slice none 0 0, .slice none 0 0] 26 → w'.cell? ⟨w.heap.size + 1 + 1, 0, none⟩ = some (.bool false) ∧ w'.cell? ⟨w.heap.size + 1 + 1, 1, none⟩ = some (.slice none 0 0) ∧ w'.cell? ⟨w.heap.size + 1 + 1, 2, none⟩ = some (.slice none 0 0) ∧ w'.frozen? ⟨w.heap.size + 1 + 1, 0, none⟩ = false ∧ w'.frozen? ⟨w.heap.size + 1 + 1, 1, none⟩ = false ∧ w'.frozen? ⟨w.heap.size + 1 + 1, 2, none⟩ = false) :=
      fun w' h => ⟨h.at_ 0, h.at_ 1, h.at_ 2, h.frozen 0, h.frozen 1, h.frozen 2⟩
    have ST : Hid (∀ w' (x y z : Value), Below W8.heap.size W8 w' → (fun w' => w'.cell? ⟨w.heap.size, 0, none⟩ = some (.bool p1) ∧ w'.cell? ⟨w5.heap.size, 0, none⟩ = some (.slice A5 n5 c5) ∧ w'.cell? ⟨w6.heap.size, 0, none⟩ = some (.slice A6 n6 c6) ∧ w'.cell? ⟨w7.heap.size, 0, none⟩ = some (.slice A7 n7 c7)) (((w'.setCell ⟨w.heap.size + 1 + 1, 0, none⟩ x).setCell ⟨w.heap.size + 1 + 1, 1, none⟩ y).setCell ⟨w.heap.size + 1 + 1, 2, none⟩ z)) := fun w' x y z h => by
      obtain ⟨q0, q1, q2, q3⟩ := KS.out w' h
      refine ⟨?_, ?_, ?_, ?_⟩
      · rw [cell_far _ _ _ _ (by simp; omega), cell_far _ _ _ _ (by simp; omega), cell_far _ _ _ _ (by simp; omega)]; exact q0
      · rw [cell_far _ _ _ _ n5R, cell_far _ _ _ _ n5R, cell_far _ _ _ _ n5R]; exact q1
      · rw [cell_far _ _ _ _ n6R, cell_far _ _ _ _ n6R, cell_far _ _ _ _ n6R]; exact q2
      · rw [cell_far _ _ _ _ n7R, cell_far _ _ _ _ n7R, cell_far _ _ _ _ n7R]; exact q3
    go_region_held3 (fun w' => w'.cell? ⟨w.heap.size, 0, none⟩ = some (.bool p1) ∧ w'.cell? ⟨w5.heap.size, 0, none⟩ = some (.slice A5 n5 c5) ∧ w'.cell? ⟨w6.heap.size, 0, none⟩ = some (.slice A6 n6 c6) ∧ w'.cell? ⟨w7.heap.size, 0, none⟩ = some (.slice A7 n7 c7))
      (first | exact KS.out _ En | exact KS.out _ Es | exact ST.out _ _ _ _ En | exact ST.out _ _ _ _ Es | exact KS.out _ (Below.refl _ _) | exact KS.out _ P0)
      (first | (go_at_call_of 87 (Value.slice A5 n5 c5); (with_reducible refine (radd_n (L := 2 * L + 2) ((h5.below P0).nt HU1.out) ((h6.below P0).nt HU2.out) (by omega) T HT.out).mono ?_); rintro e ws ⟨As, ns, cs, rfl, rs, ls, ms, hxws⟩; have Es := (P0).trans (hxws.mono (P0).size); have hs : Cn ws As ns cs T := ⟨rs, ls, ms⟩) | (go_at_call 48; (with_reducible refine (gnew_f (p := p1) (L := 2 * L + 3) (frMk (hs.nt HTL.out) (((h7.below Es).nt HU3.out).up (by omega)) HRQ.out) (by omega) (by omega)).mono ?_); rintro e wn ⟨p4, A4, n4, c4, B4, m4, d4, rfl, h4, hxwn⟩; have En := (Es).trans (hxwn.mono (Es).size); obtain ⟨g0, g1, g2, f0, f1, f2⟩ := HF.out _ (KB.out _ En)))
    clear g0 g1 g2 f0 f1 f2
    have X10 := KB.out _ En
    have hbA := hbA.trans (En.mono hbA.size)
    generalize hW10 : ((wn.setCell _ _).setCell _ _).setCell _ _ = W10
    obtain ⟨b10, -, C10, B10, -⟩ := put3 X10 hW10
    clear hW10
    go_wp2
    have k0 : W10.cell? ⟨w.heap.size + 1 + 1, 0, none⟩ = some (.bool p4) := b10.at_ 0
    have k1 : W10.cell? ⟨w.heap.size + 1 + 1, 1, none⟩ = some (.slice A4 n4 c4) := b10.at_ 1
    have k2 : W10.cell? ⟨w.heap.size + 1 + 1, 2, none⟩ = some (.slice B4 m4 d4) := b10.at_ 2
    refine bodyPost_ret (v := .agg #[.bool p4, .slice A4 n4 c4, .slice B4 m4 d4]) (by simp [results, Tryz.results57, go_sem, k0, k1, k2]) rfl ?_
    exact ⟨_, _, _, _, _, _, _, rfl, ⟨h4.1, C10 _ _ _ _ h4.2.1, C10 _ _ _ _ h4.2.2⟩, B10 _ _ hbA (by omega)⟩
  · have HRG := hide (HRG.out hpp)
    have HRL := hide (HRL.out hpp)
    have hpe : (p1 == p2) = false := by simp [hpp]
    have lt5 := b5.lt
    have lt6 := b6.lt
    have k5 := b5.cell
    have k6 := b6.cell
    go_wp2_with fail
    clear k0 k3 hpe lt0 lt1 k5 k6 lt5 lt6
    generalize hW : w7.alloc _ = W8
    obtain ⟨hb, b7, -⟩ := boxesA1 hW
    clear hW
    have hbA := hbA.trans (hb.mono hbA.size)
    have b0 := b0.below' hb
    have b1 := b1.below' hb
    have bR := bR.below' hb
    have b5 := b5.below' hb
    have b6 := b6.below' hb
    have h5 := h5.below hb
    have h6 := h6.below hb
    have h7 := h7.below hb
    clear hb
    by_cases hXY : X < Y
    · obtain ⟨o, ho⟩ : ∃ o, cmpI X Y = o := ⟨_, rfl⟩
      have hO : decide (0 ≤ o) = false := by
        rw [← ho]
        rw [cmpI_lt hXY]; rfl
      have HO := hide ho
      have HLE := hide (show X ≤ Y from by omega)
      clear ho hXY
      refine (rcmp_n (L := 2 * L + 2) (h5.nt HU1.out) (h6.nt HU2.out) (by omega) o HO.out).mono ?_
      rintro e w8 ⟨rfl, hb8⟩
      have hbA := hbA.trans (hb8.mono hbA.size)
      have b0 := b0.below' hb8
      have b1 := b1.below' hb8
      have bR := bR.below' hb8
      have b5 := b5.below' hb8
      have b6 := b6.below' hb8
      have b7 := b7.below' hb8
      have h5 := h5.below hb8
      have h6 := h6.below hb8
      have h7 := h7.below hb8
      clear hb8
      have lt5 := b5.lt
      have lt6 := b6.lt
      have k5 := b5.cell
      have k6 := b6.cell
      go_wp2_with fail
      clear k5 k6 lt5 lt6 hO
      obtain ⟨T, hT⟩ : ∃ T, Y - X = T := ⟨_, rfl⟩
      have HRT := hide (show qv p2 T Z = r from by rw [← hT]; exact HRL.out HLE.out)
      have HT := hide hT
      have HTL := hide (show T < B9 ^ (2 * L + 2) from by rw [← hT]; exact Nat.lt_of_le_of_lt (Nat.sub_le _ _) HU2.out)
      clear hT
      refine (rsub_n (L := 2 * L + 2) (h6.nt HU2.out) (h5.nt HU1.out) (by omega) T HT.out HLE.out).mono fun e w9 h => ?_
      obtain ⟨A9, n9, c9, rfl, h9, hb9⟩ := h.cn
      clear h
      have hbA := hbA.trans (hb9.mono hbA.size)
      have b0 := b0.below' hb9
      have b1 := b1.below' hb9
      have bR := bR.below' hb9
      have b7 := b7.below' hb9
      have h7 := h7.below hb9
      clear hb9
      have k7 := b7.cell
      have lt7 := b7.lt
      have k3 : w9.cell? ⟨w.heap.size + 1, 0, none⟩ = some (.bool p2) := b1.at_ 0
      have lt0 := b0.lt
      have lt1 := b1.lt
      go_wp2_with fail
      clear k7 lt7 lt0 lt1 k3
      generalize hW : w9.alloc _ = W9
      obtain ⟨hb, b9, -⟩ := boxesA1 hW
      clear hW
      have hbA := hbA.trans (hb.mono hbA.size)
      have bR := bR.below' hb
      have h7 := h7.below hb
      have h9 := h9.below hb
      clear hb
      refine (gnew_f (p := p2) (L := 2 * L + 2) (frMk (h9.nt HTL.out) (h7.nt HU3.out) HRT.out) (by omega) (by omega)).mono ?_
      rintro e wn ⟨p4, A4, n4, c4, B4, m4, d4, rfl, h4, hbn⟩
      have hbA := hbA.trans (hbn.mono hbA.size)
      have bR := bR.below' hbn
      clear hbn
      have g0 : wn.cell? ⟨w.heap.size + 1 + 1, 0, none⟩ = some (.bool false) := bR.at_ 0
      have g1 : wn.cell? ⟨w.heap.size + 1 + 1, 1, none⟩ = some (.slice none 0 0) := bR.at_ 1
      have g2 : wn.cell? ⟨w.heap.size + 1 + 1, 2, none⟩ = some (.slice none 0 0) := bR.at_ 2
      have f0 := bR.frozen 0
      have f1 := bR.frozen 1
      have f2 := bR.frozen 2
      go_wp2
      clear g0 g1 g2 f0 f1 f2
      generalize hW3 : ((wn.setCell _ _).setCell _ _).setCell _ _ = W3
      obtain ⟨b3, -, C3, B3, -⟩ := put3 bR hW3
      clear hW3
      have k0 : W3.cell? ⟨w.heap.size + 1 + 1, 0, none⟩ = some (.bool p4) := b3.at_ 0
      have k1 : W3.cell? ⟨w.heap.size + 1 + 1, 1, none⟩ = some (.slice A4 n4 c4) := b3.at_ 1
      have k2 : W3.cell? ⟨w.heap.size + 1 + 1, 2, none⟩ = some (.slice B4 m4 d4) := b3.at_ 2
      refine bodyPost_ret (v := .agg #[.bool p4, .slice A4 n4 c4, .slice B4 m4 d4]) (by simp [results, Tryz.results57, go_sem, k0, k1, k2]) rfl ?_
      exact ⟨_, _, _, _, _, _, _, rfl, ⟨h4.1, C3 _ _ _ _ h4.2.1, C3 _ _ _ _ h4.2.2⟩, B3 _ _ hbA (by omega)⟩
    · obtain ⟨o, ho⟩ : ∃ o, cmpI X Y = o := ⟨_, rfl⟩
      have hO : decide (0 ≤ o) = true := by
        rw [← ho]
        rcases Nat.lt_or_ge Y X with h | h
        · rw [cmpI_gt h]; rfl
        · rw [cmpI_eq (by omega)]; rfl
      have HO := hide ho
      have HLE := hide (show Y ≤ X from by omega)
      clear ho hXY
      refine (rcmp_n (L := 2 * L + 2) (h5.nt HU1.out) (h6.nt HU2.out) (by omega) o HO.out).mono ?_
      rintro e w8 ⟨rfl, hb8⟩
      have hbA := hbA.trans (hb8.mono hbA.size)
      have b0 := b0.below' hb8
      have b1 := b1.below' hb8
      have bR := bR.below' hb8
      have b5 := b5.below' hb8
      have b6 := b6.below' hb8
      have b7 := b7.below' hb8
      have h5 := h5.below hb8
      have h6 := h6.below hb8
      have h7 := h7.below hb8
      clear hb8
      have lt5 := b5.lt
      have lt6 := b6.lt
      have k5 := b5.cell
      have k6 := b6.cell
      go_wp2_with fail
      clear k5 k6 lt5 lt6 hO
      obtain ⟨T, hT⟩ : ∃ T, X - Y = T := ⟨_, rfl⟩
      have HRT := hide (show qv p1 T Z = r from by rw [← hT]; exact HRG.out HLE.out)
      have HT := hide hT
      have HTL := hide (show T < B9 ^ (2 * L + 2) from by rw [← hT]; exact Nat.lt_of_le_of_lt (Nat.sub_le _ _) HU1.out)
      clear hT
      refine (rsub_n (L := 2 * L + 2) (h5.nt HU1.out) (h6.nt HU2.out) (by omega) T HT.out HLE.out).mono fun e w9 h => ?_
      obtain ⟨A9, n9, c9, rfl, h9, hb9⟩ := h.cn
      clear h
      have hbA := hbA.trans (hb9.mono hbA.size)
      have b0 := b0.below' hb9
      have b1 := b1.below' hb9
      have bR := bR.below' hb9
      have b7 := b7.below' hb9
      have h7 := h7.below hb9
      clear hb9
      have k7 := b7.cell
      have lt7 := b7.lt
      have k0 : w9.cell? ⟨w.heap.size, 0, none⟩ = some (.bool p1) := b0.at_ 0
      have lt0 := b0.lt
      have lt1 := b1.lt
      go_wp2_with fail
      clear k7 lt7 lt0 lt1 k0
      generalize hW : w9.alloc _ = W9
      obtain ⟨hb, b9, -⟩ := boxesA1 hW
      clear hW
      have hbA := hbA.trans (hb.mono hbA.size)
      have bR := bR.below' hb
      have h7 := h7.below hb
      have h9 := h9.below hb
      clear hb
      refine (gnew_f (p := p1) (L := 2 * L + 2) (frMk (h9.nt HTL.out) (h7.nt HU3.out) HRT.out) (by omega) (by omega)).mono ?_
      rintro e wn ⟨p4, A4, n4, c4, B4, m4, d4, rfl, h4, hbn⟩
      have hbA := hbA.trans (hbn.mono hbA.size)
      have bR := bR.below' hbn
      clear hbn
      have g0 : wn.cell? ⟨w.heap.size + 1 + 1, 0, none⟩ = some (.bool false) := bR.at_ 0
      have g1 : wn.cell? ⟨w.heap.size + 1 + 1, 1, none⟩ = some (.slice none 0 0) := bR.at_ 1
      have g2 : wn.cell? ⟨w.heap.size + 1 + 1, 2, none⟩ = some (.slice none 0 0) := bR.at_ 2
      have f0 := bR.frozen 0
      have f1 := bR.frozen 1
      have f2 := bR.frozen 2
      go_wp2
      clear g0 g1 g2 f0 f1 f2
      generalize hW3 : ((wn.setCell _ _).setCell _ _).setCell _ _ = W3
      obtain ⟨b3, -, C3, B3, -⟩ := put3 bR hW3
      clear hW3
      have k0 : W3.cell? ⟨w.heap.size + 1 + 1, 0, none⟩ = some (.bool p4) := b3.at_ 0
      have k1 : W3.cell? ⟨w.heap.size + 1 + 1, 1, none⟩ = some (.slice A4 n4 c4) := b3.at_ 1
      have k2 : W3.cell? ⟨w.heap.size + 1 + 1, 2, none⟩ = some (.slice B4 m4 d4) := b3.at_ 2
      refine bodyPost_ret (v := .agg #[.bool p4, .slice A4 n4 c4, .slice B4 m4 d4]) (by simp [results, Tryz.results57, go_sem, k0, k1, k2]) rfl ?_
      exact ⟨_, _, _, _, _, _, _, rfl, ⟨h4.1, C3 _ _ _ _ h4.2.1, C3 _ _ _ _ h4.2.2⟩, B3 _ _ hbA (by omega)⟩
end Go.Proofs.YtgfdeihfinlfoaaGreatDoor
