/- The contract of fraction.sum. -/
import Derived.Test.YtoeknkakdoemfaaGreatDoorFProd
import Derived.Deep.RegionLaw
import Derived.Deep.CutRange
import Derived.Deep.RegionHeld3
namespace Go.Proofs.YtoeknkakdoemfaaGreatDoor
open Go Go.RowKit

theorem Below.drewS {w W : World} (h : Below w.heap.size w W) : Below w.heap.size w W.drew := h.drew
theorem Below.allocS {w W : World} (h : Below w.heap.size w W) (o : Obj) : Below w.heap.size w (W.alloc o) := h.alloc h.size o
theorem Below.setS {w W : World} (h : Below w.heap.size w W) {g i : Nat} (hg : w.heap.size ≤ g) (v : Value) : Below w.heap.size w (W.setCell ⟨g, i, none⟩ v) := h.setCell hg v
theorem Below.next {w W W' : World} (h : Below w.heap.size w W) (hx : Below W.heap.size W W') : Below w.heap.size w W' := h.trans (hx.mono h.size)

/-- the call gives a fraction of this number -/
def GivesS (L : Nat) (r : Rat) (w : World) (e : Ending) (w' : World) : Prop := ∃ p u v, qv p u v = r ∧ GivesQ L p u v w e w'
/-- two fractions are made proper in their boxes -/
def Propers (W : World) (L g0 g1 : Nat) (q q' : Rat) (wx : World) : Prop :=
  ∃ wy p1 u1 v1 A1 n1 c1 B1 m1 d1 p2 u2 v2 A2 n2 c2 B2 m2 d2, Below W.heap.size W wy ∧ v1 ≠ 0 ∧ qv p1 u1 v1 = q ∧ v2 ≠ 0 ∧ qv p2 u2 v2 = q' ∧ Nt wy L A1 n1 c1 u1 ∧ Nt wy L B1 m1 d1 v1 ∧ Nt wy L A2 n2 c2 u2 ∧ Nt wy L B2 m2 d2 v2 ∧
    wx = (((((wy.setCell ⟨g0, 0, none⟩ (.bool p1)).setCell ⟨g0, 1, none⟩ (.slice A1 n1 c1)).setCell ⟨g0, 2, none⟩ (.slice B1 m1 d1)).setCell ⟨g1, 0, none⟩ (.bool p2)).setCell ⟨g1, 1, none⟩ (.slice A2 n2 c2)).setCell ⟨g1, 2, none⟩ (.slice B2 m2 d2)

/-- the greater of two naturals first, with the sign that it brings -/
def Swapped (w : World) (g5 g6 g7 : Nat) (r : Rat) (L z : Nat) (A7 : Option Addr) (n7 c7 : Nat) (wx : World) : Prop :=
  ∃ q S T s s' t t' XL XR AL nl cl AR nr cr, XR ≤ XL ∧ XL < B9 ^ (2 * L + 2) ∧ XR < B9 ^ (2 * L + 2) ∧ qv q (XL - XR) z = r ∧ Box wx w.heap.size #[.bool q, .slice S s s', .slice T t t'] 26 ∧ Box wx g5 #[.slice AL nl cl] 24 ∧ Box wx g6 #[.slice AR nr cr] 24 ∧
    Cn wx AL nl cl XL ∧ Cn wx AR nr cr XR ∧ Box wx g7 #[.slice A7 n7 c7] 24 ∧ Cn wx A7 n7 c7 z ∧ Box wx (w.heap.size + 1 + 1) #[.bool false, .slice none 0 0, .slice none 0 0] 26 ∧ Below w.heap.size w wx
/-- two naturals in boxes of their own -/
def Lefts (W : World) (x y : Nat) (s5 s6 : Value) (wx : World) : Prop :=
  ∃ g5 g6 A5 n5 c5 A6 n6 c6, s5 = .pointer (some ⟨g5, 0, none⟩) ∧ s6 = .pointer (some ⟨g6, 0, none⟩) ∧ g5 ≠ g6 ∧ W.heap.size ≤ g5 ∧ W.heap.size ≤ g6 ∧ Box wx g5 #[.slice A5 n5 c5] 24 ∧ Box wx g6 #[.slice A6 n6 c6] 24 ∧ Cn wx A5 n5 c5 x ∧ Cn wx A6 n6 c6 y ∧ Below W.heap.size W wx

theorem Box.drewS {w : World} {g : Nat} {vs : Array Value} {t : TypeId} (h : Box w g vs t) : Box w.drew g vs t := h
theorem Box.new1 (w : World) (o : Obj) (vs : Array Value) (t : TypeId) : Box ((w.alloc o).alloc (.cells vs t)) (w.heap.size + 1) vs t := by
  have := Box.new (w.alloc o) vs t
  simpa using this
section
variable {W w6 : World} {x y g g' : Nat} {A5 A6 : Option Addr} {n5 c5 n6 c6 : Nat} (E : Below W.heap.size W w6) (h5 : Cn w6 A5 n5 c5 x) (h6 : Cn w6 A6 n6 c6 y)
include E h5 h6
theorem lefts_aa : Lefts W x y (.pointer (some ⟨w6.heap.size, 0, none⟩)) (.pointer (some ⟨w6.heap.size + 1, 0, none⟩)) ((w6.alloc (.cells #[.slice A5 n5 c5] 24)).alloc (.cells #[.slice A6 n6 c6] 24)) := by
  have B : Below w6.heap.size w6 ((w6.alloc (.cells #[.slice A5 n5 c5] 24)).alloc (.cells #[.slice A6 n6 c6] 24)) := by ((repeat (first | assumption | exact Below.refl _ _ | (with_reducible refine Below.drewS ?_) | (with_reducible refine Below.allocS ?_ _) | (with_reducible refine Below.setS ?_ (by first | omega | (simp; omega)) _))); (first | done | fail))
  exact ⟨_, _, _, _, _, _, _, _, rfl, rfl, by omega, E.size, Nat.le_succ_of_le E.size, (Box.new _ _ _).alloc _, Box.new1 _ _ _ _, h5.below B, h6.below B, Below.next E B⟩
theorem lefts_aa' : Lefts W x y (.pointer (some ⟨w6.heap.size + 1, 0, none⟩)) (.pointer (some ⟨w6.heap.size, 0, none⟩)) ((w6.alloc (.cells #[.slice A6 n6 c6] 24)).alloc (.cells #[.slice A5 n5 c5] 24)) := by
  have B : Below w6.heap.size w6 ((w6.alloc (.cells #[.slice A6 n6 c6] 24)).alloc (.cells #[.slice A5 n5 c5] 24)) := by ((repeat (first | assumption | exact Below.refl _ _ | (with_reducible refine Below.drewS ?_) | (with_reducible refine Below.allocS ?_ _) | (with_reducible refine Below.setS ?_ (by first | omega | (simp; omega)) _))); (first | done | fail))
  exact ⟨_, _, _, _, _, _, _, _, rfl, rfl, by omega, Nat.le_succ_of_le E.size, E.size, Box.new1 _ _ _ _, (Box.new _ _ _).alloc _, h5.below B, h6.below B, Below.next E B⟩
variable (e : Box w6 g #[.slice none 0 0] 24) (hg : W.heap.size ≤ g)
include e hg
theorem lefts_sa : Lefts W x y (.pointer (some ⟨g, 0, none⟩)) (.pointer (some ⟨w6.heap.size, 0, none⟩)) ((w6.setCell ⟨g, 0, none⟩ (.slice A5 n5 c5)).alloc (.cells #[.slice A6 n6 c6] 24)) := by
  have lt := e.lt
  have hs : (w6.setCell ⟨g, 0, none⟩ (.slice A5 n5 c5)).heap.size = w6.heap.size := by simp
  have b2 := Box.new (w6.setCell ⟨g, 0, none⟩ (.slice A5 n5 c5)) #[.slice A6 n6 c6] 24
  rw [hs] at b2
  have B : Below (w6.setCell ⟨g, 0, none⟩ (.slice A5 n5 c5)).heap.size (w6.setCell ⟨g, 0, none⟩ (.slice A5 n5 c5)) ((w6.setCell ⟨g, 0, none⟩ (.slice A5 n5 c5)).alloc (.cells #[.slice A6 n6 c6] 24)) := by ((repeat (first | assumption | exact Below.refl _ _ | (with_reducible refine Below.drewS ?_) | (with_reducible refine Below.allocS ?_ _) | (with_reducible refine Below.setS ?_ (by first | omega | (simp; omega)) _))); (first | done | fail))
  exact ⟨_, _, _, _, _, _, _, _, rfl, rfl, by omega, hg, E.size, (e.put _).alloc _, b2, (h5.far e noInt1 _).below B, (h6.far e noInt1 _).below B, Below.allocS (E.setCell hg _) _⟩
theorem lefts_as : Lefts W x y (.pointer (some ⟨w6.heap.size, 0, none⟩)) (.pointer (some ⟨g, 0, none⟩)) ((w6.setCell ⟨g, 0, none⟩ (.slice A6 n6 c6)).alloc (.cells #[.slice A5 n5 c5] 24)) := by
  have lt := e.lt
  have hs : (w6.setCell ⟨g, 0, none⟩ (.slice A6 n6 c6)).heap.size = w6.heap.size := by simp
  have b2 := Box.new (w6.setCell ⟨g, 0, none⟩ (.slice A6 n6 c6)) #[.slice A5 n5 c5] 24
  rw [hs] at b2
  have B : Below (w6.setCell ⟨g, 0, none⟩ (.slice A6 n6 c6)).heap.size (w6.setCell ⟨g, 0, none⟩ (.slice A6 n6 c6)) ((w6.setCell ⟨g, 0, none⟩ (.slice A6 n6 c6)).alloc (.cells #[.slice A5 n5 c5] 24)) := by ((repeat (first | assumption | exact Below.refl _ _ | (with_reducible refine Below.drewS ?_) | (with_reducible refine Below.allocS ?_ _) | (with_reducible refine Below.setS ?_ (by first | omega | (simp; omega)) _))); (first | done | fail))
  exact ⟨_, _, _, _, _, _, _, _, rfl, rfl, by omega, E.size, hg, b2, (e.put _).alloc _, (h5.far e noInt1 _).below B, (h6.far e noInt1 _).below B, Below.allocS (E.setCell hg _) _⟩
theorem lefts_ss (e' : Box w6 g' #[.slice none 0 0] 24) (hg' : W.heap.size ≤ g') (hne : g ≠ g') : Lefts W x y (.pointer (some ⟨g, 0, none⟩)) (.pointer (some ⟨g', 0, none⟩)) ((w6.setCell ⟨g, 0, none⟩ (.slice A5 n5 c5)).setCell ⟨g', 0, none⟩ (.slice A6 n6 c6)) := by
  have f := e'.far (p := ⟨g, 0, none⟩) (fun h => hne h.symm) (.slice A5 n5 c5)
  exact ⟨_, _, _, _, _, _, _, _, rfl, rfl, hne, hg, hg', (e.put _).far hne _, f.put _, (h5.far e noInt1 _).far f noInt1 _, (h6.far e noInt1 _).far f noInt1 _, (E.setCell hg _).setCell hg' _⟩
end
set_option maxHeartbeats 4000000 in
set_option maxRecDepth 4000 in
theorem fsum_any (L : Nat) (h1L : 1 ≤ L) (hL : L ≤ 10000) (p : Bool) (A : Option Addr) (n c u : Nat) (B : Option Addr) (m d v : Nat) (p' : Bool) (A' : Option Addr) (n' c' u' : Nat) (B' : Option Addr) (m' d' v' : Nat) (w : World)
    (hA : Nt w L A n c u) (hB : Nt w L B m d v) (hA' : Nt w L A' n' c' u') (hB' : Nt w L B' m' d' v') (r : Rat) (hr : qv p u v + qv p' u' v' = r) :
    Calls Tryz.prog 44 #[.agg #[.bool p, .slice A n c, .slice B m d], .agg #[.bool p', .slice A' n' c', .slice B' m' d']] w (GivesS (2 * L + 3) r w) := by
  have HR := hide hr
  clear hr
  go_enter Tryz.func44, Tryz.ntmps44
  go_wp2_with fail
  generalize hW : ((w.alloc _).alloc _).alloc _ = W
  obtain ⟨hbW, b0, b1, bR, hz⟩ := boxesA3 hW
  have HZ := hide hz
  have hbW' : Hid (W.heap.size = w.heap.size + 3) := hide hz
  clear hW hz
  have hA := hA.below hbW
  have hB := hB.below hbW
  have hA' := hA'.below hbW
  have hB' := hB'.below hbW
  have lt0 := b0.lt
  have lt1 := b1.lt
  have ltR := bR.lt
  have KF : Hid (∀ w', Below W.heap.size W w' → w'.cell? ⟨w.heap.size, 0, none⟩ = some (.bool p) ∧ w'.cell? ⟨w.heap.size, 1, none⟩ = some (.slice A n c) ∧ w'.cell? ⟨w.heap.size, 2, none⟩ = some (.slice B m d) ∧ w'.cell? ⟨w.heap.size + 1, 0, none⟩ = some (.bool p') ∧ w'.cell? ⟨w.heap.size + 1, 1, none⟩ = some (.slice A' n' c') ∧ w'.cell? ⟨w.heap.size + 1, 2, none⟩ = some (.slice B' m' d') ∧
      w'.frozen? ⟨w.heap.size, 0, none⟩ = false ∧ w'.frozen? ⟨w.heap.size, 1, none⟩ = false ∧ w'.frozen? ⟨w.heap.size, 2, none⟩ = false ∧ w'.frozen? ⟨w.heap.size + 1, 0, none⟩ = false ∧ w'.frozen? ⟨w.heap.size + 1, 1, none⟩ = false ∧ w'.frozen? ⟨w.heap.size + 1, 2, none⟩ = false) := fun w' h =>
    ⟨(b0.below h lt0).at_ 0, (b0.below h lt0).at_ 1, (b0.below h lt0).at_ 2, (b1.below h lt1).at_ 0, (b1.below h lt1).at_ 1, (b1.below h lt1).at_ 2, (b0.below h lt0).frozen 0, (b0.below h lt0).frozen 1, (b0.below h lt0).frozen 2, (b1.below h lt1).frozen 0, (b1.below h lt1).frozen 1, (b1.below h lt1).frozen 2⟩
  go_cut [] from 10 to 14 (fun wx => Propers W L w.heap.size (w.heap.size + 1) (qv p u v) (qv p' u' v') wx)
  case first =>
    have P0 : Below W.heap.size W W.drew := (Below.refl _ _).drew
    obtain ⟨k0, k1, k2, k3, k4, k5, -⟩ := KF.out _ P0
    go_region_law (first
      | (go_simp; go_at_call 40; (with_reducible refine (proper_p L h1L (by omega) p A n c u B m d v _ (hA.below P0) (hB.below P0)).mono ?_); rintro e w1 ⟨p1, u1, v1, hv1, hq1, -, -, A1, n1, c1, B1, m1, d1, rfl, h1, i1, hb1⟩; have E1 := P0.trans (hb1.mono P0.size); obtain ⟨x0, x1, x2, x3, x4, x5, -⟩ := KF.out _ E1)
      | (go_simp; go_at_call 40; (with_reducible refine (proper_p L h1L (by omega) p' A' n' c' u' B' m' d' v' _ (hA'.below E1) (hB'.below E1)).mono ?_); rintro e w2 ⟨p2, u2, v2, hv2, hq2, -, -, A2, n2, c2, B2, m2, d2, rfl, h2, i2, hb2⟩; have E2 := E1.trans (hb2.mono E1.size); obtain ⟨y0, y1, y2, y3, y4, y5, e0, e1, e2, e3, e4, e5⟩ := KF.out _ E2))
    all_goals
      go_wp2_with fail
      go_meet
      exact ⟨w2, p1, u1, v1, A1, n1, c1, B1, m1, d1, p2, u2, v2, A2, n2, c2, B2, m2, d2, E2, hv1, hq1, hv2, hq2, h1.below hb2, i1.below hb2, h2, i2, rfl⟩
  case rest =>
  obtain ⟨wy, p1, u1, v1, A1, n1, c1, B1, m1, d1, p2, u2, v2, A2, n2, c2, B2, m2, d2, E2, hv1, hq1, hv2, hq2, h1, i1, h2, i2, rfl⟩ := hcut
  have HV1 := hide hv1
  have HV2 := hide hv2
  have HR := hide (show qv p1 u1 v1 + qv p2 u2 v2 = r from by rw [hq1, hq2]; exact HR.out)
  clear hv1 hv2 hq1 hq2 hA hB hA' hB' KF
  have b0 := b0.below' E2
  have b1 := b1.below' E2
  have bR := bR.below' E2
  have hbA := hbW.trans (E2.mono hbW.size)
  clear E2 hbW lt0 lt1 ltR
  generalize hW3 : ((wy.setCell _ _).setCell _ _).setCell _ _ = W3
  obtain ⟨b0, N3, -, B3, X3⟩ := put3 b0 hW3
  have b1 := X3 _ _ _ (by simp) b1
  have bR := X3 _ _ _ (by omega) bR
  have h1 := N3 _ _ _ _ _ h1
  have i1 := N3 _ _ _ _ _ i1
  have h2 := N3 _ _ _ _ _ h2
  have i2 := N3 _ _ _ _ _ i2
  have hbA := B3 _ _ hbA (Nat.le_refl _)
  clear hW3 N3 B3 X3
  generalize hW4 : ((W3.setCell _ _).setCell _ _).setCell _ _ = W4
  obtain ⟨b1, N3, -, B3, X3⟩ := put3 b1 hW4
  have b0 := X3 _ _ _ (by simp) b0
  have bR := X3 _ _ _ (by simp) bR
  have h1 := N3 _ _ _ _ _ h1
  have i1 := N3 _ _ _ _ _ i1
  have h2 := N3 _ _ _ _ _ h2
  have i2 := N3 _ _ _ _ _ i2
  have hbA := B3 _ _ hbA (by omega)
  clear hW4 N3 B3 X3
  have lt0 := b0.lt
  have lt1 := b1.lt
  have ltR := bR.lt
  have K2 : Hid (∀ w', Below W4.heap.size W4 w' → w'.cell? ⟨w.heap.size, 1, none⟩ = some (.slice A1 n1 c1) ∧ w'.cell? ⟨w.heap.size, 2, none⟩ = some (.slice B1 m1 d1) ∧ w'.cell? ⟨w.heap.size + 1, 1, none⟩ = some (.slice A2 n2 c2) ∧ w'.cell? ⟨w.heap.size + 1, 2, none⟩ = some (.slice B2 m2 d2)) := fun w' h =>
    ⟨(b0.below h lt0).at_ 1, (b0.below h lt0).at_ 2, (b1.below h lt1).at_ 1, (b1.below h lt1).at_ 2⟩
  have HU1 := hide (mulL h1.lt i2.lt)
  have HU2 := hide (mulL h2.lt i1.lt)
  have HU3 := hide (mulL i1.lt i2.lt)
  obtain ⟨x, hx⟩ : ∃ x, u1 * v2 = x := ⟨_, rfl⟩
  obtain ⟨y, hy⟩ : ∃ y, u2 * v1 = y := ⟨_, rfl⟩
  obtain ⟨z, hz⟩ : ∃ z, v1 * v2 = z := ⟨_, rfl⟩
  rw [hx] at HU1
  rw [hy] at HU2
  rw [hz] at HU3
  have HX := hide hx
  have HY := hide hy
  have HZZ := hide hz
  clear hx hy hz
  go_wp2_with fail
  go_cut [5, 6] from 14 to 24 (fun s5 s6 wx => Lefts W4 x y s5 s6 wx)
  case first =>
    go_region_held3 (fun w' => w'.cell? ⟨w.heap.size, 1, none⟩ = some (.slice A1 n1 c1) ∧ w'.cell? ⟨w.heap.size, 2, none⟩ = some (.slice B1 m1 d1) ∧ w'.cell? ⟨w.heap.size + 1, 1, none⟩ = some (.slice A2 n2 c2) ∧ w'.cell? ⟨w.heap.size + 1, 2, none⟩ = some (.slice B2 m2 d2))
      (first | exact K2.out _ (by ((repeat (first | assumption | exact Below.refl _ _ | (with_reducible refine Below.drewS ?_) | (with_reducible refine Below.allocS ?_ _) | (with_reducible refine Below.setS ?_ (by first | omega | (simp; omega)) _))); (first | done | fail))))
      (first
        | (go_at_call_of 52 (Value.slice A1 n1 c1); (with_reducible refine (mul_n (h1.below (by ((repeat (first | assumption | exact Below.refl _ _ | (with_reducible refine Below.drewS ?_) | (with_reducible refine Below.allocS ?_ _) | (with_reducible refine Below.setS ?_ (by first | omega | (simp; omega)) _))); (first | done | fail)))) (i2.below (by ((repeat (first | assumption | exact Below.refl _ _ | (with_reducible refine Below.drewS ?_) | (with_reducible refine Below.allocS ?_ _) | (with_reducible refine Below.setS ?_ (by first | omega | (simp; omega)) _))); (first | done | fail)))) (by omega) x HX.out).mono ?_); rintro e w5 ⟨A5, n5, c5, rfl, r5, l5, m5, hb5⟩; have E5 : Below W4.heap.size W4 w5 := Below.next (by ((repeat (first | assumption | exact Below.refl _ _ | (with_reducible refine Below.drewS ?_) | (with_reducible refine Below.allocS ?_ _) | (with_reducible refine Below.setS ?_ (by first | omega | (simp; omega)) _))); (first | done | fail))) hb5; have z5 := E5.size; have y5 := hb5.size; (try simp at y5); (try (have q1 : W4.heap.size < w5.heap.size := by omega)); (try (have q2 : W4.heap.size + 1 < w5.heap.size := by omega)); obtain ⟨cl5, fz5⟩ := bcell hb5; (try (have e1 : Box w5 (W4.heap.size) #[.slice none 0 0] 24 := Box.below' (by ((repeat (first | assumption | (with_reducible exact Box.new _ _ _) | (with_reducible exact Box.new1 _ _ _ _) | (with_reducible refine Box.drewS ?_) | (with_reducible refine Box.alloc ?_ _))); (first | done | fail))) hb5)); (try (have e2 : Box w5 (W4.heap.size + 1) #[.slice none 0 0] 24 := Box.below' (by ((repeat (first | assumption | (with_reducible exact Box.new _ _ _) | (with_reducible exact Box.new1 _ _ _ _) | (with_reducible refine Box.drewS ?_) | (with_reducible refine Box.alloc ?_ _))); (first | done | fail))) hb5)))
        | (go_at_call_of 52 (Value.slice A2 n2 c2); (with_reducible refine (mul_n (h2.below (by ((repeat (first | assumption | exact Below.refl _ _ | (with_reducible refine Below.drewS ?_) | (with_reducible refine Below.allocS ?_ _) | (with_reducible refine Below.setS ?_ (by first | omega | (simp; omega)) _))); (first | done | fail)))) (i1.below (by ((repeat (first | assumption | exact Below.refl _ _ | (with_reducible refine Below.drewS ?_) | (with_reducible refine Below.allocS ?_ _) | (with_reducible refine Below.setS ?_ (by first | omega | (simp; omega)) _))); (first | done | fail)))) (by omega) y HY.out).mono ?_); rintro e w6 ⟨A6, n6, c6, rfl, r6, l6, m6, hb6⟩; have E6 : Below W4.heap.size W4 w6 := Below.next (by ((repeat (first | assumption | exact Below.refl _ _ | (with_reducible refine Below.drewS ?_) | (with_reducible refine Below.allocS ?_ _) | (with_reducible refine Below.setS ?_ (by first | omega | (simp; omega)) _))); (first | done | fail))) hb6; have z6 := E6.size; have y6 := hb6.size; (try simp at y6); (try (have q3 : W4.heap.size < w6.heap.size := by omega)); (try (have q4 : W4.heap.size + 1 < w6.heap.size := by omega)); (try (have q5 : w5.heap.size < w6.heap.size := by omega)); (try (have q6 : w5.heap.size + 1 < w6.heap.size := by omega)); obtain ⟨cl6, fz6⟩ := bcell hb6; (try (have e3 : Box w6 (W4.heap.size) #[.slice none 0 0] 24 := Box.below' (by ((repeat (first | assumption | (with_reducible exact Box.new _ _ _) | (with_reducible exact Box.new1 _ _ _ _) | (with_reducible refine Box.drewS ?_) | (with_reducible refine Box.alloc ?_ _))); (first | done | fail))) hb6)); (try (have e4 : Box w6 (W4.heap.size + 1) #[.slice none 0 0] 24 := Box.below' (by ((repeat (first | assumption | (with_reducible exact Box.new _ _ _) | (with_reducible exact Box.new1 _ _ _ _) | (with_reducible refine Box.drewS ?_) | (with_reducible refine Box.alloc ?_ _))); (first | done | fail))) hb6)); (try (have e5 : Box w6 (w5.heap.size) #[.slice none 0 0] 24 := Box.below' (by ((repeat (first | assumption | (with_reducible exact Box.new _ _ _) | (with_reducible exact Box.new1 _ _ _ _) | (with_reducible refine Box.drewS ?_) | (with_reducible refine Box.alloc ?_ _))); (first | done | fail))) hb6)); (try (have e6 : Box w6 (w5.heap.size + 1) #[.slice none 0 0] 24 := Box.below' (by ((repeat (first | assumption | (with_reducible exact Box.new _ _ _) | (with_reducible exact Box.new1 _ _ _ _) | (with_reducible refine Box.drewS ?_) | (with_reducible refine Box.alloc ?_ _))); (first | done | fail))) hb6)); have t5 : Cn w6 A5 n5 c5 x := Cn.below ⟨r5, l5, m5⟩ (Below.next (by ((repeat (first | assumption | exact Below.refl _ _ | (with_reducible refine Below.drewS ?_) | (with_reducible refine Below.allocS ?_ _) | (with_reducible refine Below.setS ?_ (by first | omega | (simp; omega)) _))); (first | done | fail))) hb6); have t6 : Cn w6 A6 n6 c6 y := ⟨r6, l6, m6⟩))
    all_goals
      go_wp2_with fail
      go_meet
      first
        | exact lefts_aa E6 t5 t6
        | exact lefts_aa' E6 t5 t6
        | exact lefts_sa E6 t5 t6 (by assumption) (by omega)
        | exact lefts_as E6 t5 t6 (by assumption) (by omega)
        | exact lefts_ss E6 t5 t6 (by assumption) (by omega) (by assumption) (by omega) (by omega)
  case rest =>
  obtain ⟨g5, g6, A5, n5, c5, A6, n6, c6, rfl, rfl, hne, hg5, hg6, b5, b6, h5, h6, E5⟩ := hcut
  have h1 := h1.below E5
  have i1 := i1.below E5
  have h2 := h2.below E5
  have i2 := i2.below E5
  have hbA := Below.trans hbA (E5.mono hbA.size)
  have b0 := b0.below' E5
  have b1 := b1.below' E5
  have bR := bR.below' E5
  have lt0 := b0.lt
  have lt1 := b1.lt
  have ltR := bR.lt
  have lt5 := b5.lt
  have lt6 := b6.lt
  have k0 : wc.cell? ⟨w.heap.size, 0, none⟩ = some (.bool p1) := b0.at_ 0
  have k2 : wc.cell? ⟨w.heap.size, 2, none⟩ = some (.slice B1 m1 d1) := b0.at_ 2
  have k3 : wc.cell? ⟨w.heap.size + 1, 0, none⟩ = some (.bool p2) := b1.at_ 0
  have k5 : wc.cell? ⟨w.heap.size + 1, 2, none⟩ = some (.slice B2 m2 d2) := b1.at_ 2
  clear K2
  go_wp2_with fail
  refine (mul_n i1 i2 (by omega) z HZZ.out).mono ?_
  rintro e w7 ⟨A7, n7, c7, rfl, r7, l7, m7, hb7⟩
  have h7 : Cn w7 A7 n7 c7 z := ⟨r7, l7, m7⟩
  have hbA := hbA.trans (hb7.mono hbA.size)
  have b0 := b0.below' hb7
  have b1 := b1.below' hb7
  have bR := bR.below' hb7
  have b5 := b5.below' hb7
  have b6 := b6.below' hb7
  have h5 := h5.below hb7
  have h6 := h6.below hb7
  have hg7 := hb7.size
  clear r7 l7 m7 hb7 k0 k2 k3 k5 h1 i1 h2 i2
  have lt0 := b0.lt
  have lt1 := b1.lt
  have ltR := bR.lt
  have lt5 := b5.lt
  have lt6 := b6.lt
  have k0 : w7.cell? ⟨w.heap.size, 0, none⟩ = some (.bool p1) := b0.at_ 0
  have k3 : w7.cell? ⟨w.heap.size + 1, 0, none⟩ = some (.bool p2) := b1.at_ 0
  have k5 := b5.cell
  have k6 := b6.cell
  have hwz := hbW'.out
  by_cases hp : p1 = p2
  · subst hp
    go_wp2_with fail
    generalize hW8 : w7.alloc _ = W8
    obtain ⟨hb8, b7, hs8⟩ := boxesA1 hW8
    clear hW8
    have h5 := h5.below hb8
    have h6 := h6.below hb8
    have h7 := h7.below hb8
    have hbA := hbA.trans (hb8.mono hbA.size)
    have b0 := b0.below' hb8
    have b1 := b1.below' hb8
    have bR := bR.below' hb8
    have b5 := b5.below' hb8
    have b6 := b6.below' hb8
    clear hb8 k0 k3 k5 k6 lt0 lt1 lt5 lt6 ltR
    have lt0 := b0.lt
    have lt1 := b1.lt
    have lt5 := b5.lt
    have lt6 := b6.lt
    have lt7 := b7.lt
    have ltR := bR.lt
    have n5R : g5 ≠ w.heap.size + 1 + 1 := by omega
    have n6R : g6 ≠ w.heap.size + 1 + 1 := by omega
    have n7R : w7.heap.size ≠ w.heap.size + 1 + 1 := by omega
    have P0 : Below W8.heap.size W8 W8.drew := (Below.refl _ _).drew
    obtain ⟨x2, hx2⟩ : ∃ x2, x + y = x2 := ⟨_, rfl⟩
    have HX2 := hide hx2
    clear hx2
    have KS : Hid (∀ w', Below W8.heap.size W8 w' → w'.cell? ⟨w.heap.size, 0, none⟩ = some (.bool p1) ∧ w'.cell? ⟨g5, 0, none⟩ = some (.slice A5 n5 c5) ∧ w'.cell? ⟨g6, 0, none⟩ = some (.slice A6 n6 c6) ∧ w'.cell? ⟨w7.heap.size, 0, none⟩ = some (.slice A7 n7 c7)) := fun w' h =>
      ⟨(b0.below h lt0).at_ 0, (b5.below h lt5).cell, (b6.below h lt6).cell, (b7.below h lt7).cell⟩
    have KB : Hid (∀ w', Below W8.heap.size W8 w' → Box w' (w.heap.size + 1 + 1) #[.bool false, .slice none 0 0, .slice none 0 0] 26) := fun w' h => bR.below h ltR
    have HF : Hid (∀ w', Box w' (w.heap.size + 1 + 1) #[.bool false, .slice none 0 0, .slice none 0 0] 26 → w'.cell? ⟨w.heap.size + 1 + 1, 0, none⟩ = some (.bool false) ∧ w'.cell? ⟨w.heap.size + 1 + 1, 1, none⟩ = some (.slice none 0 0) ∧ w'.cell? ⟨w.heap.size + 1 + 1, 2, none⟩ = some (.slice none 0 0) ∧ w'.frozen? ⟨w.heap.size + 1 + 1, 0, none⟩ = false ∧ w'.frozen? ⟨w.heap.size + 1 + 1, 1, none⟩ = false ∧ w'.frozen? ⟨w.heap.size + 1 + 1, 2, none⟩ = false) :=
      fun w' h => ⟨h.at_ 0, h.at_ 1, h.at_ 2, h.frozen 0, h.frozen 1, h.frozen 2⟩
    have ST : Hid (∀ w' (x y z : Value), Below W8.heap.size W8 w' → (fun w' => w'.cell? ⟨w.heap.size, 0, none⟩ = some (.bool p1) ∧ w'.cell? ⟨g5, 0, none⟩ = some (.slice A5 n5 c5) ∧ w'.cell? ⟨g6, 0, none⟩ = some (.slice A6 n6 c6) ∧ w'.cell? ⟨w7.heap.size, 0, none⟩ = some (.slice A7 n7 c7)) (((w'.setCell ⟨w.heap.size + 1 + 1, 0, none⟩ x).setCell ⟨w.heap.size + 1 + 1, 1, none⟩ y).setCell ⟨w.heap.size + 1 + 1, 2, none⟩ z)) := fun w' x y z h => by
      obtain ⟨q0, q1, q2, q3⟩ := KS.out w' h
      refine ⟨?_, ?_, ?_, ?_⟩
      · rw [cell_far _ _ _ _ (by simp; omega), cell_far _ _ _ _ (by simp; omega), cell_far _ _ _ _ (by simp; omega)]; exact q0
      · rw [cell_far _ _ _ _ n5R, cell_far _ _ _ _ n5R, cell_far _ _ _ _ n5R]; exact q1
      · rw [cell_far _ _ _ _ n6R, cell_far _ _ _ _ n6R, cell_far _ _ _ _ n6R]; exact q2
      · rw [cell_far _ _ _ _ n7R, cell_far _ _ _ _ n7R, cell_far _ _ _ _ n7R]; exact q3
    go_region_held3 (fun w' => w'.cell? ⟨w.heap.size, 0, none⟩ = some (.bool p1) ∧ w'.cell? ⟨g5, 0, none⟩ = some (.slice A5 n5 c5) ∧ w'.cell? ⟨g6, 0, none⟩ = some (.slice A6 n6 c6) ∧ w'.cell? ⟨w7.heap.size, 0, none⟩ = some (.slice A7 n7 c7))
      (first | exact KS.out _ E9 | exact ST.out _ _ _ _ E9 | exact KS.out _ (Below.refl _ _) | exact KS.out _ P0)
      (first | (go_at_call_of 51 (Value.slice A5 n5 c5); (with_reducible refine (add_n ((h5.below P0).nt HU1.out) ((h6.below P0).nt HU2.out) (by omega) x2 HX2.out).mono ?_); rintro e w9 ⟨A9, n9, c9, rfl, r9, l9, m9, hxw9⟩; have E9 := (P0).trans (hxw9.mono (P0).size); have h9 : Cn w9 A9 n9 c9 x2 := ⟨r9, l9, m9⟩; obtain ⟨j0, j1, j2, f0, f1, f2⟩ := HF.out _ (KB.out _ E9)))
    clear j0 j1 j2 f0 f1 f2
    have X10 := KB.out _ E9
    have hbZ := hbA.trans (E9.mono hbA.size)
    generalize hW10 : ((w9.setCell _ _).setCell _ _).setCell _ _ = W10
    obtain ⟨b10, N10, C10, B10, -⟩ := put3 X10 hW10
    clear hW10
    have k0 : W10.cell? ⟨w.heap.size + 1 + 1, 0, none⟩ = some (.bool p1) := b10.at_ 0
    have k1 : W10.cell? ⟨w.heap.size + 1 + 1, 1, none⟩ = some (.slice A9 n9 c9) := b10.at_ 1
    have k2 : W10.cell? ⟨w.heap.size + 1 + 1, 2, none⟩ = some (.slice A7 n7 c7) := b10.at_ 2
    go_wp2
    refine bodyPost_ret (v := .agg #[.bool p1, .slice A9 n9 c9, .slice A7 n7 c7]) (by simp [results, Tryz.results44, go_sem, k0, k1, k2]) rfl ?_
    have HQ : qv p1 x2 z = r := by rw [← HR.out, qv_add_same p1 HV1.out HV2.out, HX.out, HY.out, HZZ.out, HX2.out]
    have HL2 : x2 < B9 ^ (2 * L + 2 + 1) := by rw [← HX2.out]; exact addB HU1.out HU2.out
    exact ⟨p1, x2, z, HQ, A9, n9, c9, A7, n7, c7, rfl, (C10 _ _ _ _ h9).nt HL2, ((C10 _ _ _ _ (h7.below E9)).nt HU3.out).up (by omega), B10 _ _ hbZ (by omega)⟩
  · have hp2 : (p1 == p2) = false := by simp [hp]
    obtain ⟨o, hc⟩ : ∃ o, cmpI x y = o := ⟨_, rfl⟩
    have HC := hide hc
    clear hc
    go_wp2_with fail
    generalize hW8 : w7.alloc _ = W8
    obtain ⟨hb8, b7, hs8⟩ := boxesA1 hW8
    clear hW8
    have h5 := h5.below hb8
    have h6 := h6.below hb8
    have h7 := h7.below hb8
    have hbA := hbA.trans (hb8.mono hbA.size)
    have b0 := b0.below' hb8
    have b1 := b1.below' hb8
    have bR := bR.below' hb8
    have b5 := b5.below' hb8
    have b6 := b6.below' hb8
    clear hb8 k0 k3 k5 k6 lt0 lt1 lt5 lt6 ltR
    have lt0 := b0.lt
    have lt1 := b1.lt
    have lt5 := b5.lt
    have lt6 := b6.lt
    have lt7 := b7.lt
    have ltR := bR.lt
    refine (cmp_n (h5.nt HU1.out) (h6.nt HU2.out) (by omega) o HC.out).mono ?_
    rintro e w9 ⟨rfl, hb9⟩
    have hbA := hbA.trans (hb9.mono hbA.size)
    have b0 := b0.below' hb9
    have b1 := b1.below' hb9
    have bR := bR.below' hb9
    have b5 := b5.below' hb9
    have b6 := b6.below' hb9
    have b7 := b7.below' hb9
    have h5 := h5.below hb9
    have h6 := h6.below hb9
    have h7 := h7.below hb9
    clear hb9 lt0 lt1 lt5 lt6 lt7 ltR
    have lt0 := b0.lt
    have lt1 := b1.lt
    have lt5 := b5.lt
    have lt6 := b6.lt
    have lt7 := b7.lt
    have ltR := bR.lt
    have HPN : Hid (p2 = !p1) := hide (by cases p1 <;> cases p2 <;> simp_all)
    have HNE := hide hne
    have HG5 := hide (show w.heap.size ≤ g5 from by omega)
    have HG6 := hide (show w.heap.size ≤ g6 from by omega)
    have N5 := hide (show g5 ≠ w.heap.size ∧ g5 ≠ w.heap.size + 1 ∧ g5 ≠ w.heap.size + 1 + 1 from ⟨by omega, by omega, by omega⟩)
    have N6 := hide (show g6 ≠ w.heap.size ∧ g6 ≠ w.heap.size + 1 ∧ g6 ≠ w.heap.size + 1 + 1 from ⟨by omega, by omega, by omega⟩)
    have N7 := hide (show w7.heap.size ≠ w.heap.size ∧ w7.heap.size ≠ w.heap.size + 1 + 1 ∧ w7.heap.size ≠ g5 ∧ w7.heap.size ≠ g6 from ⟨by omega, by omega, by omega, by omega⟩)
    clear hp hp2
    go_upto_if 44 with (fail)
    go_cut [] from 44 to 48 (fun wx => Swapped w g5 g6 w7.heap.size r L z A7 n7 c7 wx)
    case first =>
      by_cases hxy : x < y
      · have hc : decide (o < 0) = true := by rw [← HC.out, cmpI_lt hxy]; rfl
        have HXY := hide hxy
        clear hxy
        have k0 : w9.cell? ⟨w.heap.size, 0, none⟩ = some (.bool p1) := b0.at_ 0
        have k1 : w9.cell? ⟨w.heap.size, 1, none⟩ = some (.slice A1 n1 c1) := b0.at_ 1
        have k2 : w9.cell? ⟨w.heap.size, 2, none⟩ = some (.slice B1 m1 d1) := b0.at_ 2
        have k3 : w9.cell? ⟨w.heap.size + 1, 0, none⟩ = some (.bool p2) := b1.at_ 0
        have k4 : w9.cell? ⟨w.heap.size + 1, 1, none⟩ = some (.slice A2 n2 c2) := b1.at_ 1
        have k5 : w9.cell? ⟨w.heap.size + 1, 2, none⟩ = some (.slice B2 m2 d2) := b1.at_ 2
        have k6 := b5.cell
        have k7 := b6.cell
        have f0 := b0.frozen 0
        have f1 := b0.frozen 1
        have f2 := b0.frozen 2
        have f3 := b5.frozen 0
        have f4 := b6.frozen 0
        have e1 := N5.out.1
        have e2 := N6.out.1
        have e3 := HNE.out
        have e4 := e1.symm
        have e5 := e2.symm
        have e6 := e3.symm
        simp only [hc]
        go_wp2_with fail
        go_region
        go_wp2_with fail
        go_meet
        clear k0 k1 k2 k3 k4 k5 k6 k7 f0 f1 f2 f3 f4 e1 e2 e3 e4 e5 e6
        generalize hW3 : ((w9.setCell _ _).setCell _ _).setCell _ _ = W3
        obtain ⟨b0, -, C3, B3, X3⟩ := put3 b0 hW3
        clear hW3
        have b5 := X3 _ _ _ N5.out.1 b5
        have b6 := X3 _ _ _ N6.out.1 b6
        have b7 := X3 _ _ _ N7.out.1 b7
        have bR := X3 _ _ _ (by omega) bR
        have h5 := C3 _ _ _ _ h5
        have h6 := C3 _ _ _ _ h6
        have h7 := C3 _ _ _ _ h7
        have hbA := B3 _ _ hbA (Nat.le_refl _)
        have b0 := b0.far (p := ⟨g5, 0, none⟩) N5.out.1.symm (.slice A6 n6 c6)
        have b6 := b6.far (p := ⟨g5, 0, none⟩) HNE.out.symm (.slice A6 n6 c6)
        have b7 := b7.far (p := ⟨g5, 0, none⟩) N7.out.2.2.1 (.slice A6 n6 c6)
        have bR := bR.far (p := ⟨g5, 0, none⟩) N5.out.2.2.symm (.slice A6 n6 c6)
        have h5 := h5.far (i := 0) b5 noInt1 (.slice A6 n6 c6)
        have h6 := h6.far (i := 0) b5 noInt1 (.slice A6 n6 c6)
        have h7 := h7.far (i := 0) b5 noInt1 (.slice A6 n6 c6)
        have b5 := b5.put (.slice A6 n6 c6)
        have hbA : Below w.heap.size w (W3.setCell ⟨g5, 0, none⟩ (.slice A6 n6 c6)) := hbA.setCell HG5.out _
        generalize W3.setCell (⟨g5, 0, none⟩ : Addr) (.slice A6 n6 c6) = W5 at *
        have b0 := b0.far (p := ⟨g6, 0, none⟩) N6.out.1.symm (.slice A5 n5 c5)
        have b5 := b5.far (p := ⟨g6, 0, none⟩) HNE.out (.slice A5 n5 c5)
        have b7 := b7.far (p := ⟨g6, 0, none⟩) N7.out.2.2.2 (.slice A5 n5 c5)
        have bR := bR.far (p := ⟨g6, 0, none⟩) N6.out.2.2.symm (.slice A5 n5 c5)
        have h5 := h5.far (i := 0) b6 noInt1 (.slice A5 n5 c5)
        have h6 := h6.far (i := 0) b6 noInt1 (.slice A5 n5 c5)
        have h7 := h7.far (i := 0) b6 noInt1 (.slice A5 n5 c5)
        have b6 := b6.put (.slice A5 n5 c5)
        have hbA : Below w.heap.size w (W5.setCell ⟨g6, 0, none⟩ (.slice A5 n5 c5)) := hbA.setCell HG6.out _
        generalize W5.setCell (⟨g6, 0, none⟩ : Addr) (.slice A5 n5 c5) = W6 at *
        have D6 : Below W6.heap.size W6 W6.drew := (Below.refl _ _).drew
        have hle : x ≤ y := Nat.le_of_lt HXY.out
        have HQ : qv p2 (y - x) z = r := by
          rw [← HR.out, HPN.out, qv_add_lt p1 HV1.out HV2.out (by rw [HX.out, HY.out]; exact hle), HX.out, HY.out, HZZ.out]
        exact ⟨p2, _, _, _, _, _, _, y, x, A6, n6, c6, A5, n5, c5, hle, HU2.out, HU1.out, HQ, b0.below' D6, b5.below' D6, b6.below' D6, h6.below D6, h5.below D6, b7.below' D6, h7.below D6, bR.below' D6, hbA.drew⟩
      · have hc : decide (o < 0) = false := by
          rw [← HC.out]
          unfold cmpI
          rw [if_neg hxy]
          split <;> rfl
        have HXY := hide hxy
        clear hxy
        simp only [hc]
        go_wp2_with fail
        go_meet
        have hle : y ≤ x := Nat.le_of_not_lt HXY.out
        have HQ : qv p1 (x - y) z = r := by
          rw [← HR.out, HPN.out, qv_add_ge p1 HV1.out HV2.out (by rw [HX.out, HY.out]; exact hle), HX.out, HY.out, HZZ.out]
        exact ⟨p1, _, _, _, _, _, _, x, y, A5, n5, c5, A6, n6, c6, hle, HU1.out, HU2.out, HQ, b0, b5, b6, h5, h6, b7, h7, bR, hbA⟩
    case rest =>
    obtain ⟨q, S, T, s, s', t, t', XL, XR, AL, nl, cl, AR, nr, cr, hle, hXL, hXR, hq, b0, b5, b6, h5, h6, b7, h7, bR, hbA⟩ := hcut
    clear lt0 lt1 lt5 lt6 lt7 ltR b1
    have lt0 := b0.lt
    have lt5 := b5.lt
    have lt6 := b6.lt
    have lt7 := b7.lt
    have ltR := bR.lt
    have k5 := b5.cell
    have k6 := b6.cell
    obtain ⟨D, hD⟩ : ∃ D, XL - XR = D := ⟨_, rfl⟩
    have HD := hide hD
    have HLE := hide hle
    have HQ := hide (show qv q D z = r from by rw [← hD]; exact hq)
    have HDL := hide (show D < B9 ^ (2 * L + 3) from Nat.lt_of_le_of_lt (by rw [← hD]; exact Nat.sub_le _ _) (upB hXL (by omega)))
    clear hD hle hq
    go_wp2_with fail
    refine (sub_n (h5.nt hXL) (h6.nt hXR) (by omega) D HD.out HLE.out).mono ?_
    rintro e wd ⟨Ad, nd', cd, rfl, rd, ld, md, hbd⟩
    have hd : Cn wd Ad nd' cd D := ⟨rd, ld, md⟩
    have hbA := hbA.trans (hbd.mono hbA.size)
    have b0 := b0.below' hbd
    have bR := bR.below' hbd
    have b7 := b7.below' hbd
    have h7 := h7.below hbd
    clear rd ld md hbd k5 k6 b5 b6 h5 h6 lt0 lt5 lt6 lt7 ltR
    have lt0 := b0.lt
    have lt7 := b7.lt
    have ltR := bR.lt
    have k0 : wd.cell? ⟨w.heap.size, 0, none⟩ = some (.bool q) := b0.at_ 0
    have k7 := b7.cell
    have j0 : wd.cell? ⟨w.heap.size + 1 + 1, 0, none⟩ = some (.bool false) := bR.at_ 0
    have j1 : wd.cell? ⟨w.heap.size + 1 + 1, 1, none⟩ = some (.slice none 0 0) := bR.at_ 1
    have j2 : wd.cell? ⟨w.heap.size + 1 + 1, 2, none⟩ = some (.slice none 0 0) := bR.at_ 2
    have f0 := bR.frozen 0
    have f1 := bR.frozen 1
    have f2 := bR.frozen 2
    go_wp2_with fail
    clear k0 k7 j0 j1 j2 f0 f1 f2
    generalize hW10 : ((wd.setCell _ _).setCell _ _).setCell _ _ = W10
    obtain ⟨b10, -, C10, B10, -⟩ := put3 bR hW10
    clear hW10
    have hbZ := B10 _ _ hbA (by omega)
    have D10 : Below W10.heap.size W10 (W10.alloc (.cells #[.slice Ad nd' cd] 24)) := (Below.refl _ _).alloc (Nat.le_refl _) _
    have b10 := b10.below' D10
    have hd := (C10 _ _ _ _ hd).below D10
    have h7 := (C10 _ _ _ _ h7).below D10
    have hbZ := hbZ.trans (D10.mono hbZ.size)
    generalize W10.alloc (.cells #[.slice Ad nd' cd] 24) = W11 at *
    have k0 : W11.cell? ⟨w.heap.size + 1 + 1, 0, none⟩ = some (.bool q) := b10.at_ 0
    have k1 : W11.cell? ⟨w.heap.size + 1 + 1, 1, none⟩ = some (.slice Ad nd' cd) := b10.at_ 1
    have k2 : W11.cell? ⟨w.heap.size + 1 + 1, 2, none⟩ = some (.slice A7 n7 c7) := b10.at_ 2
    refine bodyPost_ret (v := .agg #[.bool q, .slice Ad nd' cd, .slice A7 n7 c7]) (by simp [results, Tryz.results44, go_sem, k0, k1, k2]) rfl ?_
    exact ⟨q, D, z, HQ.out, Ad, nd', cd, A7, n7, c7, rfl, hd.nt HDL.out, (h7.nt HU3.out).up (by omega), hbZ⟩
end Go.Proofs.YtoeknkakdoemfaaGreatDoor
