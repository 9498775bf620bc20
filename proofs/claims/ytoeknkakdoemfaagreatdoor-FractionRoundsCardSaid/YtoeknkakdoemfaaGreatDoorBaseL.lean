/- The contracts of fraction.magnitude, Of. -/
import Derived.Test.YtoeknkakdoemfaaGreatDoorBaseE
import Derived.Deep.RegionHeld3
import Derived.Test.YtoeknkakdoemfaaGreatDoorFSum
import Derived.Test.YtoeknkakdoemfaaGreatDoorFSign
import Derived.Deep.RegionLaw
import Derived.Deep.CutRange
namespace Go.Proofs.YtoeknkakdoemfaaGreatDoor
open Go Go.RowKit

set_option maxHeartbeats 1000000 in
theorem fmag_any (i : Int) (w : World) (h1 : -9223372036854775808 ≤ i) (h2 : i ≤ 9223372036854775807) (u : Nat) (hu : i.natAbs = u) :
    Calls Tryz.prog 61 #[.int .i64 i] w (GivesN u w) := by
  have HU := hide hu
  clear hu
  by_cases h0 : i < 0
  · have hd : decide (i < 0) = true := by simp; omega
    have hw : IntKind.u64.wrap (-IntKind.u64.wrap i) = ((u : Nat) : Int) := by
      rw [← HU.out]
      simp only [IntKind.wrap, IntKind.bits, IntKind.signed, Bool.false_and, Bool.false_eq_true, if_false]
      show -(i % 18446744073709551616) % 18446744073709551616 = _
      omega
    have HW := hide hw
    clear hw
    go_enter Tryz.func61, Tryz.ntmps61
    go_wp2_with fail
    generalize hW : w.alloc _ = W
    obtain ⟨hbW, b0, -⟩ := boxes1 hW
    clear hW
    rw [HW.out]
    refine (of_any u _ (by have := HU.out; omega)).mono ?_
    rintro e w1 ⟨A1, n1, c1, rfl, h1, hn1, hc1, hb1⟩
    have b0 := b0.below' hb1
    have hbA := hbW.trans (hb1.mono hbW.size)
    have g0 := b0.cell
    have f0 := b0.frozen 0
    clear hb1 hbW
    go_wp2
    refine bodyPost_ret (v := .agg #[.slice A1 n1 c1]) (by simp [results, Tryz.results61, go_sem, g0]) rfl ?_
    exact ⟨A1, n1, c1, rfl, h1.put b0 _, hn1, hc1, hbA.setCell (Nat.le_refl _) _⟩
  · have hd : decide (i < 0) = false := by simp; omega
    have hi : i = ((u : Nat) : Int) := by have := HU.out; omega
    subst hi
    go_enter Tryz.func61, Tryz.ntmps61
    go_wp2_with fail
    generalize hW : w.alloc _ = W
    obtain ⟨hbW, b0, -⟩ := boxes1 hW
    clear hW
    refine (of_any u _ (by omega)).mono ?_
    rintro e w1 ⟨A1, n1, c1, rfl, h1, hn1, hc1, hb1⟩
    have b0 := b0.below' hb1
    have hbA := hbW.trans (hb1.mono hbW.size)
    have g0 := b0.cell
    have f0 := b0.frozen 0
    clear hb1 hbW
    go_wp2
    refine bodyPost_ret (v := .agg #[.slice A1 n1 c1]) (by simp [results, Tryz.results61, go_sem, g0]) rfl ?_
    exact ⟨A1, n1, c1, rfl, h1.put b0 _, hn1, hc1, hbA.setCell (Nat.le_refl _) _⟩
set_option maxHeartbeats 1000000 in
theorem fof_any (i j : Int) (w : World) (h1 : -9223372036854775808 ≤ i) (h2 : i ≤ 9223372036854775807) (h3 : -9223372036854775808 ≤ j) (h4 : j ≤ 9223372036854775807) (r : Rat) (hr : qv (decide (i < 0) != decide (j < 0)) i.natAbs j.natAbs = r) :
    Calls Tryz.prog 25 #[.int .i64 i, .int .i64 j] w (GivesR r w) := by
  have HR := hide hr
  have HU := hide (show i.natAbs < B9 ^ 3 from by show i.natAbs < 1000000000 ^ 3; omega)
  have HV := hide (show j.natAbs < B9 ^ 3 from by show j.natAbs < 1000000000 ^ 3; omega)
  have G1 := hide (show -9223372036854775808 ≤ i ∧ i ≤ 9223372036854775807 from ⟨h1, h2⟩)
  have G2 := hide (show -9223372036854775808 ≤ j ∧ j ≤ 9223372036854775807 from ⟨h3, h4⟩)
  clear hr h1 h2 h3 h4
  obtain ⟨u, hu⟩ : ∃ u, i.natAbs = u := ⟨_, rfl⟩
  obtain ⟨v, hv⟩ : ∃ v, j.natAbs = v := ⟨_, rfl⟩
  rw [hu, hv] at HR
  rw [hu] at HU
  rw [hv] at HV
  have HI := hide hu
  have HJ := hide hv
  clear hu hv
  go_enter Tryz.func25, Tryz.ntmps25
  go_wp2_with fail
  generalize hW : w.alloc _ = W
  obtain ⟨hbW, bR, -⟩ := boxesA1 hW
  clear hW
  refine (fmag_any i _ G1.out.1 G1.out.2 u HI.out).mono ?_
  rintro e w1 ⟨A1, n1, c1, rfl, h1, hn1, hc1, hb1⟩
  have hbA := hbW.trans (hb1.mono hbW.size)
  have bR := bR.below' hb1
  have h1 : Cn w1 A1 n1 c1 u := ⟨h1, hn1, hc1⟩
  clear hb1 hbW hn1 hc1
  go_wp2_with fail
  refine (fmag_any j _ G2.out.1 G2.out.2 v HJ.out).mono ?_
  rintro e w2 ⟨A2, n2, c2, rfl, h2, hn2, hc2, hb2⟩
  have hbA := hbA.trans (hb2.mono hbA.size)
  have bR := bR.below' hb2
  have h1 := h1.below hb2
  have h2 : Cn w2 A2 n2 c2 v := ⟨h2, hn2, hc2⟩
  clear hb2 hn2 hc2
  go_wp2_with fail
  refine (fnorm_any 3 (by omega) (by omega) _ A1 n1 c1 u A2 n2 c2 v _ (h1.nt HU.out) (h2.nt HV.out) r HR.out).mono ?_
  rintro e w3 ⟨A4, n4, c4, B4, m4, d4, rfl, h4, i4, hb4⟩
  have hbA := hbA.trans (hb4.mono hbA.size)
  have bR := bR.below' hb4
  clear hb4 h1 h2
  have g0 : w3.cell? ⟨w.heap.size, 0, none⟩ = some (.bool false) := bR.at_ 0
  have g1 : w3.cell? ⟨w.heap.size, 1, none⟩ = some (.slice none 0 0) := bR.at_ 1
  have g2 : w3.cell? ⟨w.heap.size, 2, none⟩ = some (.slice none 0 0) := bR.at_ 2
  have f0 := bR.frozen 0
  have f1 := bR.frozen 1
  have f2 := bR.frozen 2
  go_wp2
  clear g0 g1 g2 f0 f1 f2
  generalize hW3 : ((w3.setCell _ _).setCell _ _).setCell _ _ = W3
  obtain ⟨b3, N3, C3, B3, -⟩ := put3 bR hW3
  clear hW3
  have k0 : W3.cell? ⟨w.heap.size, 0, none⟩ = some (.bool (decide (r.num < 0))) := b3.at_ 0
  have k1 : W3.cell? ⟨w.heap.size, 1, none⟩ = some (.slice A4 n4 c4) := b3.at_ 1
  have k2 : W3.cell? ⟨w.heap.size, 2, none⟩ = some (.slice B4 m4 d4) := b3.at_ 2
  refine bodyPost_ret (v := .agg #[.bool (decide (r.num < 0)), .slice A4 n4 c4, .slice B4 m4 d4]) (by simp [results, Tryz.results25, go_sem, k0, k1, k2]) rfl ?_
  exact ⟨A4, n4, c4, B4, m4, d4, rfl, C3 _ _ _ _ h4, C3 _ _ _ _ i4, B3 _ _ hbA (Nat.le_refl _)⟩
end Go.Proofs.YtoeknkakdoemfaaGreatDoor

/- The contracts of fraction.Add, Sub, Cmp. -/
namespace Go.Proofs.YtoeknkakdoemfaaGreatDoor
open Go Go.RowKit

set_option maxHeartbeats 1000000 in
theorem fadd_any (L : Nat) (h1L : 1 ≤ L) (hL : L ≤ 10000) (p : Bool) (A : Option Addr) (n c u : Nat) (B : Option Addr) (m d v : Nat) (p' : Bool) (A' : Option Addr) (n' c' u' : Nat) (B' : Option Addr) (m' d' v' : Nat) (w : World) (hA : Nt w L A n c u) (hB : Nt w L B m d v) (hA' : Nt w L A' n' c' u') (hB' : Nt w L B' m' d' v') (r : Rat) (hr : qv p u v + qv p' u' v' = r) :
    Calls Tryz.prog 28 #[.agg #[.bool p, .slice A n c, .slice B m d], .agg #[.bool p', .slice A' n' c', .slice B' m' d']] w (GivesR r w) := by
  have HR := hide hr
  clear hr
  go_enter Tryz.func28, Tryz.ntmps28
  go_wp2_with fail
  generalize hW : ((w.alloc _).alloc _).alloc _ = W
  obtain ⟨hbW, b0, b1, bR, -⟩ := boxesA3 hW
  clear hW
  have hA := hA.below hbW
  have hB := hB.below hbW
  have hA' := hA'.below hbW
  have hB' := hB'.below hbW
  refine (fsum_any L h1L hL p A n c u B m d v p' A' n' c' u' B' m' d' v' _ hA hB hA' hB' r HR.out).mono ?_
  rintro e w1 ⟨p1, u1, v1, hq, A1, n1, c1, B1, m1, d1, rfl, h1, i1, hb1⟩
  have HQ := hide hq
  clear hq
  have hbA := hbW.trans (hb1.mono hbW.size)
  have bR := bR.below' hb1
  clear hb1 hbW hA hB hA' hB' b0 b1
  go_wp2_with fail
  refine (fnorm_any (2 * L + 3) (by omega) (by omega) p1 A1 n1 c1 u1 B1 m1 d1 v1 _ h1 i1 r HQ.out).mono ?_
  rintro e w2 ⟨A2, n2, c2, B2, m2, d2, rfl, h2, i2, hb2⟩
  have hbA := hbA.trans (hb2.mono hbA.size)
  have bR := bR.below' hb2
  clear hb2 h1 i1
  have g0 : w2.cell? ⟨w.heap.size + 1 + 1, 0, none⟩ = some (.bool false) := bR.at_ 0
  have g1 : w2.cell? ⟨w.heap.size + 1 + 1, 1, none⟩ = some (.slice none 0 0) := bR.at_ 1
  have g2 : w2.cell? ⟨w.heap.size + 1 + 1, 2, none⟩ = some (.slice none 0 0) := bR.at_ 2
  have f0 := bR.frozen 0
  have f1 := bR.frozen 1
  have f2 := bR.frozen 2
  go_wp2
  clear g0 g1 g2 f0 f1 f2
  generalize hW3 : ((w2.setCell _ _).setCell _ _).setCell _ _ = W3
  obtain ⟨b3, N3, C3, B3, -⟩ := put3 bR hW3
  clear hW3
  have k0 : W3.cell? ⟨w.heap.size + 1 + 1, 0, none⟩ = some (.bool (decide (r.num < 0))) := b3.at_ 0
  have k1 : W3.cell? ⟨w.heap.size + 1 + 1, 1, none⟩ = some (.slice A2 n2 c2) := b3.at_ 1
  have k2 : W3.cell? ⟨w.heap.size + 1 + 1, 2, none⟩ = some (.slice B2 m2 d2) := b3.at_ 2
  refine bodyPost_ret (v := .agg #[.bool (decide (r.num < 0)), .slice A2 n2 c2, .slice B2 m2 d2]) (by simp [results, Tryz.results28, go_sem, k0, k1, k2]) rfl ?_
  exact ⟨A2, n2, c2, B2, m2, d2, rfl, C3 _ _ _ _ h2, C3 _ _ _ _ i2, B3 _ _ hbA (by omega)⟩
set_option maxHeartbeats 1000000 in
theorem fsub_any (L : Nat) (h1L : 1 ≤ L) (hL : L ≤ 10000) (p : Bool) (A : Option Addr) (n c u : Nat) (B : Option Addr) (m d v : Nat) (p' : Bool) (A' : Option Addr) (n' c' u' : Nat) (B' : Option Addr) (m' d' v' : Nat) (w : World) (hA : Nt w L A n c u) (hB : Nt w L B m d v) (hA' : Nt w L A' n' c' u') (hB' : Nt w L B' m' d' v') (r : Rat) (hr : qv p u v - qv p' u' v' = r) :
    Calls Tryz.prog 27 #[.agg #[.bool p, .slice A n c, .slice B m d], .agg #[.bool p', .slice A' n' c', .slice B' m' d']] w (GivesR r w) := by
  have HR := hide (show qv p u v + qv (!p') u' v' = r from by rw [← hr, ← qv_minus, Rat.sub_eq_add_neg])
  have hL2 := hL
  clear hr
  go_enter Tryz.func27, Tryz.ntmps27
  go_wp2_with fail
  generalize hW : ((w.alloc _).alloc _).alloc _ = W
  obtain ⟨hbW, b0, b1, bR, -⟩ := boxesA3 hW
  clear hW
  have hA := hA.below hbW
  have hB := hB.below hbW
  have hA' := hA'.below hbW
  have hB' := hB'.below hbW
  have lt0 := b0.lt
  have lt1 := b1.lt
  have ltR := bR.lt
  have P0 : Below W.heap.size W W.drew := (Below.refl _ _).drew
  have KS : Hid (∀ w', Below W.heap.size W w' → w'.cell? ⟨w.heap.size, 0, none⟩ = some (.bool p) ∧ w'.cell? ⟨w.heap.size, 1, none⟩ = some (.slice A n c) ∧ w'.cell? ⟨w.heap.size, 2, none⟩ = some (.slice B m d) ∧ w'.cell? ⟨w.heap.size + 1, 0, none⟩ = some (.bool p') ∧ w'.cell? ⟨w.heap.size + 1, 1, none⟩ = some (.slice A' n' c') ∧ w'.cell? ⟨w.heap.size + 1, 2, none⟩ = some (.slice B' m' d')) := fun w' h =>
    ⟨(b0.below h lt0).at_ 0, (b0.below h lt0).at_ 1, (b0.below h lt0).at_ 2, (b1.below h lt1).at_ 0, (b1.below h lt1).at_ 1, (b1.below h lt1).at_ 2⟩
  have KB : Hid (∀ w', Below W.heap.size W w' → Box w' (w.heap.size + 1 + 1) #[.bool false, .slice none 0 0, .slice none 0 0] 26) := fun w' h => bR.below h ltR
  have HF : Hid (∀ w', Box w' (w.heap.size + 1 + 1) #[.bool false, .slice none 0 0, .slice none 0 0] 26 → w'.cell? ⟨w.heap.size + 1 + 1, 0, none⟩ = some (.bool false) ∧ w'.cell? ⟨w.heap.size + 1 + 1, 1, none⟩ = some (.slice none 0 0) ∧ w'.cell? ⟨w.heap.size + 1 + 1, 2, none⟩ = some (.slice none 0 0) ∧ w'.frozen? ⟨w.heap.size + 1 + 1, 0, none⟩ = false ∧ w'.frozen? ⟨w.heap.size + 1 + 1, 1, none⟩ = false ∧ w'.frozen? ⟨w.heap.size + 1 + 1, 2, none⟩ = false) :=
    fun w' h => ⟨h.at_ 0, h.at_ 1, h.at_ 2, h.frozen 0, h.frozen 1, h.frozen 2⟩
  have ST : Hid (∀ w' (x y z : Value), Below W.heap.size W w' → (fun w' => w'.cell? ⟨w.heap.size, 0, none⟩ = some (.bool p) ∧ w'.cell? ⟨w.heap.size, 1, none⟩ = some (.slice A n c) ∧ w'.cell? ⟨w.heap.size, 2, none⟩ = some (.slice B m d) ∧ w'.cell? ⟨w.heap.size + 1, 0, none⟩ = some (.bool p') ∧ w'.cell? ⟨w.heap.size + 1, 1, none⟩ = some (.slice A' n' c') ∧ w'.cell? ⟨w.heap.size + 1, 2, none⟩ = some (.slice B' m' d')) (((w'.setCell ⟨w.heap.size + 1 + 1, 0, none⟩ x).setCell ⟨w.heap.size + 1 + 1, 1, none⟩ y).setCell ⟨w.heap.size + 1 + 1, 2, none⟩ z)) := fun w' x y z h => by
    obtain ⟨q0, q1, q2, q3, q4, q5⟩ := KS.out w' h
    refine ⟨?_, ?_, ?_, ?_, ?_, ?_⟩
    · rw [cell_far _ _ _ _ (by simp; omega), cell_far _ _ _ _ (by simp; omega), cell_far _ _ _ _ (by simp; omega)]; exact q0
    · rw [cell_far _ _ _ _ (by simp; omega), cell_far _ _ _ _ (by simp; omega), cell_far _ _ _ _ (by simp; omega)]; exact q1
    · rw [cell_far _ _ _ _ (by simp; omega), cell_far _ _ _ _ (by simp; omega), cell_far _ _ _ _ (by simp; omega)]; exact q2
    · rw [cell_far _ _ _ _ (by simp), cell_far _ _ _ _ (by simp), cell_far _ _ _ _ (by simp)]; exact q3
    · rw [cell_far _ _ _ _ (by simp), cell_far _ _ _ _ (by simp), cell_far _ _ _ _ (by simp)]; exact q4
    · rw [cell_far _ _ _ _ (by simp), cell_far _ _ _ _ (by simp), cell_far _ _ _ _ (by simp)]; exact q5
  clear b0 b1 lt0 lt1
  go_region_held3 (fun w' => w'.cell? ⟨w.heap.size, 0, none⟩ = some (.bool p) ∧ w'.cell? ⟨w.heap.size, 1, none⟩ = some (.slice A n c) ∧ w'.cell? ⟨w.heap.size, 2, none⟩ = some (.slice B m d) ∧ w'.cell? ⟨w.heap.size + 1, 0, none⟩ = some (.bool p') ∧ w'.cell? ⟨w.heap.size + 1, 1, none⟩ = some (.slice A' n' c') ∧ w'.cell? ⟨w.heap.size + 1, 2, none⟩ = some (.slice B' m' d'))
    (first | exact KS.out _ En | exact KS.out _ Es | exact KS.out _ Em | exact ST.out _ _ _ _ En | exact ST.out _ _ _ _ Es | exact ST.out _ _ _ _ Em | exact KS.out _ (Below.refl _ _) | exact KS.out _ P0)
    (first | (go_at_call_of 45 (Value.slice A' n' c'); (with_reducible refine (minus_any L p' A' n' c' u' B' m' d' v' _ (hA'.below P0) (hB'.below P0)).mono ?_); rintro e wm ⟨Am, nm, cm, Bm, mm, dm, rfl, hAm, hBm, hxwm⟩; have Em := (P0).trans (hxwm.mono (P0).size)) | (go_at_call_of 44 (Value.slice A n c); (with_reducible refine (fsum_any L h1L hL2 p A n c u B m d v (!p') Am nm cm u' Bm mm dm v' _ (hA.below Em) (hB.below Em) hAm hBm r HR.out).mono ?_); rintro e ws ⟨p1, u1, v1, hq, A1, n1, c1, B1, m1, d1, rfl, h1, i1, hxws⟩; have Es := (Em).trans (hxws.mono (Em).size); have HQ := hide (hq); clear hq) | (go_at_call_of 14 (Value.slice A1 n1 c1); (with_reducible refine (fnorm_any (2 * L + 3) (by omega) (by omega) p1 A1 n1 c1 u1 B1 m1 d1 v1 _ h1 i1 r HQ.out).mono ?_); rintro e wn ⟨A2, n2, c2, B2, m2, d2, rfl, h2, i2, hxwn⟩; have En := (Es).trans (hxwn.mono (Es).size); obtain ⟨g0, g1, g2, f0, f1, f2⟩ := HF.out _ (KB.out _ En)))
  clear g0 g1 g2 f0 f1 f2
  have X10 := KB.out _ En
  have hbZ := hbW.trans (En.mono hbW.size)
  generalize hW10 : ((wn.setCell _ _).setCell _ _).setCell _ _ = W10
  obtain ⟨b10, N10, C10, B10, -⟩ := put3 X10 hW10
  clear hW10
  have k0 : W10.cell? ⟨w.heap.size + 1 + 1, 0, none⟩ = some (.bool (decide (r.num < 0))) := b10.at_ 0
  have k1 : W10.cell? ⟨w.heap.size + 1 + 1, 1, none⟩ = some (.slice A2 n2 c2) := b10.at_ 1
  have k2 : W10.cell? ⟨w.heap.size + 1 + 1, 2, none⟩ = some (.slice B2 m2 d2) := b10.at_ 2
  go_wp2
  refine bodyPost_ret (v := .agg #[.bool (decide (r.num < 0)), .slice A2 n2 c2, .slice B2 m2 d2]) (by simp [results, Tryz.results27, go_sem, k0, k1, k2]) rfl ?_
  exact ⟨A2, n2, c2, B2, m2, d2, rfl, C10 _ _ _ _ h2, C10 _ _ _ _ i2, B10 _ _ hbZ (by omega)⟩
set_option maxHeartbeats 1000000 in
theorem fcmp_any (L : Nat) (h1L : 1 ≤ L) (hL : L ≤ 5000) (p : Bool) (A : Option Addr) (n c u : Nat) (B : Option Addr) (m d v : Nat) (p' : Bool) (A' : Option Addr) (n' c' u' : Nat) (B' : Option Addr) (m' d' v' : Nat) (w : World) (hA : Nt w L A n c u) (hB : Nt w L B m d v) (hA' : Nt w L A' n' c' u') (hB' : Nt w L B' m' d' v') (r : Int) (hr : (qv p u v - qv p' u' v').num.sign = r) :
    Calls Tryz.prog 15 #[.agg #[.bool p, .slice A n c, .slice B m d], .agg #[.bool p', .slice A' n' c', .slice B' m' d']] w fun e w' => e = .returned (.int .i64 r) ∧ Below w.heap.size w w' := by
  have HR := hide (show ∀ p1 u1 v1, qv p1 u1 v1 = qv p u v + qv (!p') u' v' → sg p1 u1 v1 = r from fun p1 u1 v1 h => by rw [sg_sign, h, ← qv_minus, ← Rat.sub_eq_add_neg, hr])
  have hL2 : L ≤ 10000 := by omega
  clear hr
  go_enter Tryz.func15, Tryz.ntmps15
  go_wp2_with fail
  generalize hW : (w.alloc _).alloc _ = W
  obtain ⟨hbW, b0, b1, -⟩ := boxesA2 hW
  clear hW
  have hA := hA.below hbW
  have hB := hB.below hbW
  have hA' := hA'.below hbW
  have hB' := hB'.below hbW
  have lt0 := b0.lt
  have lt1 := b1.lt
  have P0 : Below W.heap.size W W.drew := (Below.refl _ _).drew
  have KS : Hid (∀ w', Below W.heap.size W w' → w'.cell? ⟨w.heap.size, 0, none⟩ = some (.bool p) ∧ w'.cell? ⟨w.heap.size, 1, none⟩ = some (.slice A n c) ∧ w'.cell? ⟨w.heap.size, 2, none⟩ = some (.slice B m d) ∧ w'.cell? ⟨w.heap.size + 1, 0, none⟩ = some (.bool p') ∧ w'.cell? ⟨w.heap.size + 1, 1, none⟩ = some (.slice A' n' c') ∧ w'.cell? ⟨w.heap.size + 1, 2, none⟩ = some (.slice B' m' d')) := fun w' h =>
    ⟨(b0.below h lt0).at_ 0, (b0.below h lt0).at_ 1, (b0.below h lt0).at_ 2, (b1.below h lt1).at_ 0, (b1.below h lt1).at_ 1, (b1.below h lt1).at_ 2⟩
  clear b0 b1 lt0 lt1
  go_region_held3 (fun w' => w'.cell? ⟨w.heap.size, 0, none⟩ = some (.bool p) ∧ w'.cell? ⟨w.heap.size, 1, none⟩ = some (.slice A n c) ∧ w'.cell? ⟨w.heap.size, 2, none⟩ = some (.slice B m d) ∧ w'.cell? ⟨w.heap.size + 1, 0, none⟩ = some (.bool p') ∧ w'.cell? ⟨w.heap.size + 1, 1, none⟩ = some (.slice A' n' c') ∧ w'.cell? ⟨w.heap.size + 1, 2, none⟩ = some (.slice B' m' d'))
    (first | exact KS.out _ En | exact KS.out _ Es | exact KS.out _ Em | exact KS.out _ (Below.refl _ _) | exact KS.out _ P0)
    (first | (go_at_call_of 45 (Value.slice A' n' c'); (with_reducible refine (minus_any L p' A' n' c' u' B' m' d' v' _ (hA'.below P0) (hB'.below P0)).mono ?_); rintro e wm ⟨Am, nm, cm, Bm, mm, dm, rfl, hAm, hBm, hxwm⟩; have Em := (P0).trans (hxwm.mono (P0).size)) | (go_at_call_of 44 (Value.slice A n c); (with_reducible refine (fsum_any L h1L hL2 p A n c u B m d v (!p') Am nm cm u' Bm mm dm v' _ (hA.below Em) (hB.below Em) hAm hBm _ rfl).mono ?_); rintro e ws ⟨p1, u1, v1, hq, A1, n1, c1, B1, m1, d1, rfl, h1, i1, hxws⟩; have Es := (Em).trans (hxws.mono (Em).size); have HQ := hide (HR.out p1 u1 v1 hq); clear hq) | (go_at_call_of 29 (Value.slice A1 n1 c1); (with_reducible refine (fsign_any (2 * L + 3) (by omega) p1 A1 n1 c1 u1 B1 m1 d1 v1 _ h1 i1 r HQ.out).mono ?_); rintro e wn ⟨rfl, hxwn⟩; have En := (Es).trans (hxwn.mono (Es).size)))
  have hbA := hbW.trans (En.mono hbW.size)
  clear En Es Em hxwn hxws hxwm h1 i1 hAm hBm KS
  go_wp2
  go_ret
  exact ⟨rfl, hbA⟩
end Go.Proofs.YtoeknkakdoemfaaGreatDoor

/- The contract of fraction.Div. -/
namespace Go.Proofs.YtoeknkakdoemfaaGreatDoor
open Go Go.RowKit

/-- the canonical fraction of a number, and an error's number -/
def GivesRE (r : Rat) (er : Int) (w : World) (e : Ending) (w' : World) : Prop :=
  ∃ A n c B m d, e = .returned (.tuple #[.agg #[.bool (decide (r.num < 0)), .slice A n c, .slice B m d], .int .i64 er]) ∧ Cn w' A n c r.num.natAbs ∧ Cn w' B m d r.den ∧ Below w.heap.size w w'

set_option maxHeartbeats 1000000 in
theorem fdiv_ok (L : Nat) (hL : L ≤ 10000) (p : Bool) (A : Option Addr) (n c u : Nat) (B : Option Addr) (m d v : Nat) (p' : Bool) (A' : Option Addr) (n' c' u' : Nat) (B' : Option Addr) (m' d' v' : Nat) (w : World)
    (hA : Nt w L A n c u) (hB : Nt w L B m d v) (hA' : Nt w L A' n' c' u') (hB' : Nt w L B' m' d' v') (hs : sg p' u' v' ≠ 0) (r : Rat) (hr : qv p u v / qv p' u' v' = r) :
    Calls Tryz.prog 30 #[.agg #[.bool p, .slice A n c, .slice B m d], .agg #[.bool p', .slice A' n' c', .slice B' m' d']] w (GivesRE r 0 w) := by
  have HR := hide ((qv_div p p' u v u' v').symm.trans hr)
  clear hr
  obtain ⟨o, ho⟩ : ∃ o, sg p' u' v' = o := ⟨_, rfl⟩
  have HO := hide ho
  rw [ho] at hs
  have hs2 : (o == 0) = false := by simp [hs]
  have hs3 : decide (o = 0) = false := by simp [hs]
  clear ho hs
  go_enter Tryz.func30, Tryz.ntmps30
  go_wp2_with fail
  generalize hW : (((w.alloc _).alloc _).alloc _) = W
  obtain ⟨hbW, b0, b1, bR, -⟩ := boxesA3 hW
  clear hW
  have hA := hA.below hbW
  have hB := hB.below hbW
  have hA' := hA'.below hbW
  have hB' := hB'.below hbW
  refine (fsign_any L (by omega) p' A' n' c' u' B' m' d' v' _ hA' hB' o HO.out).mono ?_
  rintro e w1 ⟨rfl, hb1⟩
  have hbA := hbW.trans (hb1.mono hbW.size)
  have hA := hA.below hb1
  have hB := hB.below hb1
  have hA' := hA'.below hb1
  have hB' := hB'.below hb1
  have b0 := b0.below' hb1
  have b1 := b1.below' hb1
  have bR := bR.below' hb1
  clear hb1 hbW
  have k0 : w1.cell? ⟨w.heap.size, 0, none⟩ = some (.bool p) := b0.at_ 0
  have k1 : w1.cell? ⟨w.heap.size, 1, none⟩ = some (.slice A n c) := b0.at_ 1
  have k2 : w1.cell? ⟨w.heap.size, 2, none⟩ = some (.slice B m d) := b0.at_ 2
  have k3 : w1.cell? ⟨w.heap.size + 1, 0, none⟩ = some (.bool p') := b1.at_ 0
  have k4 : w1.cell? ⟨w.heap.size + 1, 1, none⟩ = some (.slice A' n' c') := b1.at_ 1
  have k5 : w1.cell? ⟨w.heap.size + 1, 2, none⟩ = some (.slice B' m' d') := b1.at_ 2
  go_wp2_with fail
  refine (fproduct_any L (by omega) p A n c u B m d v p' B' m' d' v' A' n' c' u' _ hA hB hB' hA').mono ?_
  rintro e w2 ⟨A2, n2, c2, B2, m2, d2, rfl, h2, i2, hb2⟩
  have hbA := hbA.trans (hb2.mono hbA.size)
  have bR := bR.below' hb2
  clear hb2 hA hB hA' hB' b0 b1 k0 k1 k2 k3 k4 k5
  go_wp2_with fail
  refine (fnorm_any (2 * L + 2) (by omega) (by omega) (p != p') A2 n2 c2 (u * v') B2 m2 d2 (v * u') _ h2 i2 r HR.out).mono ?_
  rintro e w3 ⟨A3, n3, c3, B3, m3, d3, rfl, h3, i3, hb3⟩
  have hbA := hbA.trans (hb3.mono hbA.size)
  have bR := bR.below' hb3
  clear hb3 h2 i2
  have g0 : w3.cell? ⟨w.heap.size + 1 + 1, 0, none⟩ = some (.bool false) := bR.at_ 0
  have g1 : w3.cell? ⟨w.heap.size + 1 + 1, 1, none⟩ = some (.slice none 0 0) := bR.at_ 1
  have g2 : w3.cell? ⟨w.heap.size + 1 + 1, 2, none⟩ = some (.slice none 0 0) := bR.at_ 2
  have f0 := bR.frozen 0
  have f1 := bR.frozen 1
  have f2 := bR.frozen 2
  go_wp2_with fail
  clear g0 g1 g2 f0 f1 f2
  generalize hW3 : ((w3.setCell _ _).setCell _ _).setCell _ _ = W3
  obtain ⟨b3, -, C3, B4, -⟩ := put3 bR hW3
  clear hW3
  have k0 : W3.cell? ⟨w.heap.size + 1 + 1, 0, none⟩ = some (.bool (decide (r.num < 0))) := b3.at_ 0
  have k1 : W3.cell? ⟨w.heap.size + 1 + 1, 1, none⟩ = some (.slice A3 n3 c3) := b3.at_ 1
  have k2 : W3.cell? ⟨w.heap.size + 1 + 1, 2, none⟩ = some (.slice B3 m3 d3) := b3.at_ 2
  refine bodyPost_ret (v := .tuple #[.agg #[.bool (decide (r.num < 0)), .slice A3 n3 c3, .slice B3 m3 d3], .int .i64 0]) (by simp [results, Tryz.results30, go_sem, k0, k1, k2]) rfl ?_
  exact ⟨A3, n3, c3, B3, m3, d3, rfl, C3 _ _ _ _ h3, C3 _ _ _ _ i3, B4 _ _ hbA (by omega)⟩
set_option maxHeartbeats 1000000 in
theorem fdiv_zero (L : Nat) (hL : L ≤ 10000) (p : Bool) (A : Option Addr) (n c : Nat) (B : Option Addr) (m d : Nat) (p' : Bool) (A' : Option Addr) (n' c' u' : Nat) (B' : Option Addr) (m' d' v' : Nat) (w : World)
    (hA' : Nt w L A' n' c' u') (hB' : Nt w L B' m' d' v') (hs : sg p' u' v' = 0) :
    Calls Tryz.prog 30 #[.agg #[.bool p, .slice A n c, .slice B m d], .agg #[.bool p', .slice A' n' c', .slice B' m' d']] w fun e w' => e = .returned (.tuple #[.agg #[.bool false, .slice none 0 0, .slice none 0 0], .int .i64 12]) ∧ Below w.heap.size w w' := by
  have HS := hide hs
  clear hs
  go_enter Tryz.func30, Tryz.ntmps30
  go_wp2_with fail
  generalize hW : (((w.alloc _).alloc _).alloc _) = W
  obtain ⟨hbW, -, -, bR, -⟩ := boxesA3 hW
  clear hW
  have hA' := hA'.below hbW
  have hB' := hB'.below hbW
  refine (fsign_any L (by omega) p' A' n' c' u' B' m' d' v' _ hA' hB' 0 HS.out).mono ?_
  rintro e w1 ⟨rfl, hb1⟩
  have hbA := hbW.trans (hb1.mono hbW.size)
  have bR := bR.below' hb1
  clear hb1 hbW hA' hB'
  have g0 : w1.cell? ⟨w.heap.size + 1 + 1, 0, none⟩ = some (.bool false) := bR.at_ 0
  have g1 : w1.cell? ⟨w.heap.size + 1 + 1, 1, none⟩ = some (.slice none 0 0) := bR.at_ 1
  have g2 : w1.cell? ⟨w.heap.size + 1 + 1, 2, none⟩ = some (.slice none 0 0) := bR.at_ 2
  have f0 := bR.frozen 0
  have f1 := bR.frozen 1
  have f2 := bR.frozen 2
  go_wp2_with fail
  clear g0 g1 g2 f0 f1 f2
  generalize hW3 : ((w1.setCell _ _).setCell _ _).setCell _ _ = W3
  obtain ⟨b3, -, C3, B4, -⟩ := put3 bR hW3
  clear hW3
  have k0 : W3.cell? ⟨w.heap.size + 1 + 1, 0, none⟩ = some (.bool false) := b3.at_ 0
  have k1 : W3.cell? ⟨w.heap.size + 1 + 1, 1, none⟩ = some (.slice none 0 0) := b3.at_ 1
  have k2 : W3.cell? ⟨w.heap.size + 1 + 1, 2, none⟩ = some (.slice none 0 0) := b3.at_ 2
  refine bodyPost_ret (v := .tuple #[.agg #[.bool false, .slice none 0 0, .slice none 0 0], .int .i64 12]) (by simp [results, Tryz.results30, go_sem, k0, k1, k2]) rfl ?_
  exact ⟨rfl, B4 _ _ hbA (by omega)⟩
end Go.Proofs.YtoeknkakdoemfaaGreatDoor

/- The contract of fraction.Floor. -/
namespace Go.Proofs.YtoeknkakdoemfaaGreatDoor
open Go Go.RowKit

/-- the greatest whole number that is at most a fraction -/
def fl (p : Bool) (u v : Nat) : Rat := if v = 0 then 0 else qv p (if p then (if u % v = 0 then u / v else u / v + 1) else u / v) 1
theorem fl_proper {p p1 : Bool} {u u1 v v1 : Nat} (h1 : v ≠ 0 → p1 = p ∧ u1 = u ∧ v1 = v) (h2 : v = 0 → p1 = false ∧ u1 = 0 ∧ v1 = 1) : fl p1 u1 v1 = fl p u v := by
  by_cases hv : v = 0
  · obtain ⟨rfl, rfl, rfl⟩ := h2 hv
    simp [fl, hv, qv]
  · obtain ⟨rfl, rfl, rfl⟩ := h1 hv
    rfl
end Go.Proofs.YtoeknkakdoemfaaGreatDoor
