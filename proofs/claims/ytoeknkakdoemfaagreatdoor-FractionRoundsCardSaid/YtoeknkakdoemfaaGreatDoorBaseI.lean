/- The contracts of the reference's of, zero and New (fractions). -/
import Derived.Test.YtoeknkakdoemfaaGreatDoorBaseE
import Derived.Test.YtoeknkakdoemfaaGreatDoorBaseG
import Derived.Test.YtoeknkakdoemfaaGreatDoorROf
import Derived.Test.YtoeknkakdoemfaaGreatDoorFRat
import Derived.Deep.RegionHeld3
namespace Go.Proofs.YtoeknkakdoemfaaGreatDoor
open Go Go.RowKit

theorem gof_any (k : Nat) (w : World) (hk : k < 9223372036854775808) : Calls Tryz.prog 38 #[.int .i64 (k : Int)] w (GivesN k w) := by
  obtain ⟨x, hx⟩ : ∃ x : Int, (k : Int) = x := ⟨_, rfl⟩
  have HX := hide hx
  have h1 : 0 ≤ x := by omega
  have h2 : x < 9223372036854775808 := by omega
  rw [hx]
  clear hx
  have hw : IntKind.u64.wrap x = x := IntWalk.u64_in (by omega) (by omega)
  go_enter Tryz.func38, Tryz.ntmps38
  go_wp2_with fail
  generalize hW : w.alloc _ = W
  obtain ⟨hbW, b0, -⟩ := boxes1 hW
  clear hW
  rw [← HX.out]
  refine (rof_any k _ (by omega)).mono ?_
  rintro e w1 ⟨A1, n1, c1, rfl, h1, hn1, hc1, hb1⟩
  have hbA := hbW.trans (hb1.mono hbW.size)
  have b0 := b0.below' hb1
  have g0 := b0.cell
  have f0 := b0.frozen 0
  go_wp2
  refine bodyPost_ret (v := .agg #[.slice A1 n1 c1]) (by simp [results, Tryz.results38, go_sem, (b0.put (.slice A1 n1 c1)).cell]) rfl ?_
  exact ⟨A1, n1, c1, rfl, h1.put (i := 0) b0 _, hn1, hc1, hbA.setCell (Nat.le_refl _) _⟩
theorem gof_one (w : World) : Calls Tryz.prog 38 #[.int .i64 1] w (GivesN 1 w) := gof_any 1 w (by omega)
theorem gzero_any (L : Nat) (hL : L ≤ 100000) (A : Option Addr) (n c u : Nat) (w : World) (h : Nt w L A n c u) (b : Bool) (hb : decide (u = 0) = b) :
    Calls Tryz.prog 47 #[.agg #[.slice A n c]] w fun e w' => e = .returned (.bool b) ∧ Below w.heap.size w w' := by
  have HB := hide hb
  clear hb
  obtain ⟨r, hR⟩ : ∃ r, cmpI u 0 = r := ⟨_, rfl⟩
  have hr : (r == 0) = b := by
    rw [← HB.out, ← hR, cmpI_zero]
    by_cases h0 : u = 0 <;> simp [h0]
  have HR := hide hR
  clear hR
  go_enter Tryz.func47, Tryz.ntmps47
  go_wp2_with fail
  generalize hW : w.alloc _ = W
  obtain ⟨hbW, b0, hz⟩ := boxes1 hW
  clear hW
  refine (rcmp_n (h.below hbW) (Nt.nil_ W L) hL r HR.out).mono ?_
  rintro e w1 ⟨rfl, hb1⟩
  have hbA := hbW.trans (hb1.mono hbW.size)
  clear hb1 hbW h b0
  go_wp2
  go_ret
  exact ⟨rfl, hbA⟩
set_option maxHeartbeats 1000000 in
theorem gnew_u0 (L : Nat) (hL : L ≤ 40000) (p : Bool) (A : Option Addr) (n c u : Nat) (B : Option Addr) (m d v : Nat) (w : World) (hA : Nt w L A n c u) (_hB : Nt w L B m d v) (hu : u = 0) :
    Calls Tryz.prog 48 #[.bool p, .agg #[.slice A n c], .agg #[.slice B m d]] w (GivesR 0 w) := by
  go_enter Tryz.func48, Tryz.ntmps48
  go_wp2_with fail
  generalize hW : ((w.alloc _).alloc _).alloc _ = W
  obtain ⟨hbW, b0, b1, bR, -⟩ := boxesA3 hW
  clear hW
  refine (gzero_any L (by omega) A n c u _ (hA.below hbW) true (by rw [hu]; rfl)).mono ?_
  rintro e w1 ⟨rfl, hb1⟩
  have hbA := hbW.trans (hb1.mono hbW.size)
  have bR := bR.below' hb1
  clear hb1 hbW hA b0 b1 hu
  go_wp2_with fail
  refine (gof_one _).mono ?_
  rintro e w5 ⟨A5, n5, c5, rfl, h5, hn5, hc5, hb5⟩
  have hbA := hbA.trans (hb5.mono hbA.size)
  have bR := bR.below' hb5
  have H5 : Cn w5 A5 n5 c5 1 := ⟨h5, hn5, hc5⟩
  clear hb5 h5 hn5 hc5
  have g0 : w5.cell? ⟨w.heap.size + 1 + 1, 0, none⟩ = some (.bool false) := bR.at_ 0
  have g1 : w5.cell? ⟨w.heap.size + 1 + 1, 1, none⟩ = some (.slice none 0 0) := bR.at_ 1
  have g2 : w5.cell? ⟨w.heap.size + 1 + 1, 2, none⟩ = some (.slice none 0 0) := bR.at_ 2
  have f0 := bR.frozen 0
  have f1 := bR.frozen 1
  have f2 := bR.frozen 2
  go_wp2
  clear g0 g1 g2 f0 f1 f2
  generalize hW3 : ((w5.setCell _ _).setCell _ _).setCell _ _ = W3
  obtain ⟨b3, -, C3, B4, -⟩ := put3 bR hW3
  clear hW3
  have k0 : W3.cell? ⟨w.heap.size + 1 + 1, 0, none⟩ = some (.bool false) := b3.at_ 0
  have k1 : W3.cell? ⟨w.heap.size + 1 + 1, 1, none⟩ = some (.slice none 0 0) := b3.at_ 1
  have k2 : W3.cell? ⟨w.heap.size + 1 + 1, 2, none⟩ = some (.slice A5 n5 c5) := b3.at_ 2
  refine bodyPost_ret (v := .agg #[.bool false, .slice none 0 0, .slice A5 n5 c5]) (by simp [results, Tryz.results48, go_sem, k0, k1, k2]) rfl ?_
  exact ⟨none, 0, 0, A5, n5, c5, rfl, ⟨RL.nil_, by omega, by simp [maxLen]⟩, C3 _ _ _ _ H5, B4 _ _ hbA (by omega)⟩
set_option maxHeartbeats 1000000 in
theorem gnew_v0 (L : Nat) (hL : L ≤ 40000) (p : Bool) (A : Option Addr) (n c u : Nat) (B : Option Addr) (m d v : Nat) (w : World) (hA : Nt w L A n c u) (hB : Nt w L B m d v) (hu : u ≠ 0) (hv : v = 0) :
    Calls Tryz.prog 48 #[.bool p, .agg #[.slice A n c], .agg #[.slice B m d]] w (GivesR 0 w) := by
  go_enter Tryz.func48, Tryz.ntmps48
  go_wp2_with fail
  generalize hW : ((w.alloc _).alloc _).alloc _ = W
  obtain ⟨hbW, b0, b1, bR, -⟩ := boxesA3 hW
  clear hW
  have HV := hide hv
  have HU := hide hu
  clear hu hv
  refine (gzero_any L (by omega) A n c u _ (hA.below hbW) false (by simp [HU.out])).mono ?_
  rintro e w1 ⟨rfl, hb1⟩
  have hbA := hbW.trans (hb1.mono hbW.size)
  have hB := hB.below hbA
  have bR := bR.below' hb1
  have b1 := b1.below' hb1
  have k2 := b1.cell
  clear hb1 hbW hA b0
  go_wp2_with fail
  refine (gzero_any L (by omega) B m d v _ hB true (by rw [HV.out]; rfl)).mono ?_
  rintro e w2 ⟨rfl, hb2⟩
  have hbA := hbA.trans (hb2.mono hbA.size)
  have bR := bR.below' hb2
  clear hb2 hB k2 b1
  go_wp2_with fail
  refine (gof_one _).mono ?_
  rintro e w5 ⟨A5, n5, c5, rfl, h5, hn5, hc5, hb5⟩
  have hbA := hbA.trans (hb5.mono hbA.size)
  have bR := bR.below' hb5
  have H5 : Cn w5 A5 n5 c5 1 := ⟨h5, hn5, hc5⟩
  clear hb5 h5 hn5 hc5
  have g0 : w5.cell? ⟨w.heap.size + 1 + 1, 0, none⟩ = some (.bool false) := bR.at_ 0
  have g1 : w5.cell? ⟨w.heap.size + 1 + 1, 1, none⟩ = some (.slice none 0 0) := bR.at_ 1
  have g2 : w5.cell? ⟨w.heap.size + 1 + 1, 2, none⟩ = some (.slice none 0 0) := bR.at_ 2
  have f0 := bR.frozen 0
  have f1 := bR.frozen 1
  have f2 := bR.frozen 2
  go_wp2
  clear g0 g1 g2 f0 f1 f2
  generalize hW3 : ((w5.setCell _ _).setCell _ _).setCell _ _ = W3
  obtain ⟨b3, -, C3, B4, -⟩ := put3 bR hW3
  clear hW3
  have k0 : W3.cell? ⟨w.heap.size + 1 + 1, 0, none⟩ = some (.bool false) := b3.at_ 0
  have k1 : W3.cell? ⟨w.heap.size + 1 + 1, 1, none⟩ = some (.slice none 0 0) := b3.at_ 1
  have k2 : W3.cell? ⟨w.heap.size + 1 + 1, 2, none⟩ = some (.slice A5 n5 c5) := b3.at_ 2
  refine bodyPost_ret (v := .agg #[.bool false, .slice none 0 0, .slice A5 n5 c5]) (by simp [results, Tryz.results48, go_sem, k0, k1, k2]) rfl ?_
  exact ⟨none, 0, 0, A5, n5, c5, rfl, ⟨RL.nil_, by omega, by simp [maxLen]⟩, C3 _ _ _ _ H5, B4 _ _ hbA (by omega)⟩
set_option maxHeartbeats 1000000 in
theorem gnew_nz (L : Nat) (h1L : 1 ≤ L) (hL : L ≤ 30000) (p : Bool) (A : Option Addr) (n c u : Nat) (B : Option Addr) (m d v : Nat) (w : World) (hA : Nt w L A n c u) (hB : Nt w L B m d v) (hu : u ≠ 0) (hv : v ≠ 0) (r : Rat) (hr : qv p u v = r) :
    Calls Tryz.prog 48 #[.bool p, .agg #[.slice A n c], .agg #[.slice B m d]] w (GivesR r w) := by
  have HR := hide hr
  have HU := hide hu
  have HV1 := hide hv
  clear hr hu hv
  go_enter Tryz.func48, Tryz.ntmps48
  go_wp2_with fail
  generalize hW : ((w.alloc _).alloc _).alloc _ = W
  obtain ⟨hbW, b0, b1, bR, -⟩ := boxesA3 hW
  clear hW
  refine (gzero_any L (by omega) A n c u _ (hA.below hbW) false (by simp [HU.out])).mono ?_
  rintro e w1 ⟨rfl, hb1⟩
  have hbA := hbW.trans (hb1.mono hbW.size)
  have hA := hA.below hbA
  have hB := hB.below hbA
  have b0 := b0.below' hb1
  have b1 := b1.below' hb1
  have bR := bR.below' hb1
  have k2 := b1.cell
  clear hb1 hbW
  go_wp2_with fail
  refine (gzero_any L (by omega) B m d v _ hB false (by simp [HV1.out])).mono ?_
  rintro e w2 ⟨rfl, hb2⟩
  have hbA := hbA.trans (hb2.mono hbA.size)
  have hA := hA.below hb2
  have hB := hB.below hb2
  have b0 := b0.below' hb2
  have b1 := b1.below' hb2
  have bR := bR.below' hb2
  clear hb2 k2
  have k1 := b0.cell
  have k2 := b1.cell
  go_wp2_with fail
  obtain ⟨g, hg⟩ : ∃ g, Nat.gcd u v = g := ⟨_, rfl⟩
  have hg0 : g ≠ 0 := by rw [← hg]; exact fun h => HV1.out (Nat.eq_zero_of_gcd_eq_zero_right h)
  have hAl := hA.lt
  have hgl : g < B9 ^ (L + 1) := Nat.lt_of_le_of_lt (by rw [← hg]; exact Nat.gcd_le_right _ (Nat.pos_of_ne_zero HV1.out)) hB.lt
  refine (rgcd_n hA hB (by omega) g hg).mono fun e w3 h => ?_
  obtain ⟨A2, n2, c2, rfl, h2, hb3⟩ := h.cn
  clear h k1 k2
  have hbA := hbA.trans (hb3.mono hbA.size)
  have b0 := b0.below' hb3
  have b1 := b1.below' hb3
  have bR := bR.below' hb3
  have hA := hA.below hb3
  have hB := hB.below hb3
  clear hb3
  have HG := hide hg
  have HG0 := hide hg0
  have HGL := hide hgl
  clear hg hg0 hgl
  have k1 := b0.cell
  have lt0 := b0.lt
  go_wp2_with fail
  clear k1
  generalize hW4 : w3.alloc _ = W4
  obtain ⟨hb4, bg, -⟩ := boxesA1 hW4
  clear hW4
  have hA := (hA.below hb4).up (Nat.le_succ L)
  have hB := (hB.below hb4).up (Nat.le_succ L)
  have hG := (h2.below hb4).nt HGL.out
  have hbA := hbA.trans (hb4.mono hbA.size)
  have b1 := b1.below' hb4
  have bR := bR.below' hb4
  clear hb4 h2 b0 lt0
  have hu1l : u < B9 ^ (L + 1) := hAl
  obtain ⟨q, hq⟩ : ∃ q, u / g = q := ⟨_, rfl⟩
  refine (rdiv_n hA hG (by omega) HG0.out q (u % g) hq rfl).mono fun e w5 h => ?_
  obtain ⟨A5, n5, c5, A6, n6, c6, rfl, h5, -, hb5⟩ := h.cn
  clear h
  have hbA := hbA.trans (hb5.mono hbA.size)
  have b1 := b1.below' hb5
  have bR := bR.below' hb5
  have bg := bg.below' hb5
  have hB := hB.below hb5
  have hG := hG.below hb5
  have hb51 : Hid (w.heap.size + 1 + 1 < w5.heap.size) := bR.lt
  clear hb5 hA
  have HQ := hide hq
  clear hq
  have lt1 := b1.lt
  have lt2 := bg.lt
  have k2 := b1.cell
  have k3 := bg.cell
  have lt0 : w.heap.size < w5.heap.size := by omega
  go_wp2_with fail
  clear k2 k3
  generalize hW6 : (w5.alloc _).alloc _ = W6
  obtain ⟨hb6, bn, bo, -⟩ := boxesA2 hW6
  clear hW6
  have hB := hB.below hb6
  have hG := hG.below hb6
  have h5 := h5.below hb6
  have hbA := hbA.trans (hb6.mono hbA.size)
  have bR := bR.below' hb6
  clear hb6 bg bo b1 lt1 lt2
  obtain ⟨t, ht⟩ : ∃ t, v / g = t := ⟨_, rfl⟩
  refine (rdiv_n hB hG (by omega) HG0.out t (v % g) ht rfl).mono fun e w7 h => ?_
  obtain ⟨A7, n7, c7, A8, n8, c8, rfl, h7, -, hb7⟩ := h.cn
  clear h
  have hbA := hbA.trans (hb7.mono hbA.size)
  have bR := bR.below' hb7
  have bn := bn.below' hb7
  have h5 := h5.below hb7
  have hb71 : Hid (w.heap.size + 1 + 1 < w7.heap.size) := bR.lt
  clear hb7 hB hG
  have HT := hide ht
  clear ht
  have ltR := bR.lt
  have lt2 := bn.lt
  have k3 := bn.cell
  have lt0 : w.heap.size < w7.heap.size := by omega
  have lt1 : w.heap.size + 1 < w7.heap.size := by omega
  have g0 : w7.cell? ⟨w.heap.size + 1 + 1, 0, none⟩ = some (.bool false) := bR.at_ 0
  have g1 : w7.cell? ⟨w.heap.size + 1 + 1, 1, none⟩ = some (.slice none 0 0) := bR.at_ 1
  have g2 : w7.cell? ⟨w.heap.size + 1 + 1, 2, none⟩ = some (.slice none 0 0) := bR.at_ 2
  have f0 := bR.frozen 0
  have f1 := bR.frozen 1
  have f2 := bR.frozen 2
  go_wp2_with fail
  clear g0 g1 g2 f0 f1 f2
  generalize hW3 : ((w7.setCell _ _).setCell _ _).setCell _ _ = W3
  obtain ⟨b3, -, C3, B4, -⟩ := put3 bR hW3
  clear hW3
  have D : Below W3.heap.size W3 ((W3.alloc (.cells #[.slice A7 n7 c7] 24)).alloc (.cells #[.slice A8 n8 c8] 24)) := ((Below.refl _ _).alloc (Nat.le_refl _) _).alloc (by simp) _
  have b4 := b3.below' D
  generalize (W3.alloc _).alloc _ = W4 at *
  have k0 : W4.cell? ⟨w.heap.size + 1 + 1, 0, none⟩ = some (.bool p) := b4.at_ 0
  have k1 : W4.cell? ⟨w.heap.size + 1 + 1, 1, none⟩ = some (.slice A5 n5 c5) := b4.at_ 1
  have k2 : W4.cell? ⟨w.heap.size + 1 + 1, 2, none⟩ = some (.slice A7 n7 c7) := b4.at_ 2
  refine bodyPost_ret (v := .agg #[.bool p, .slice A5 n5 c5, .slice A7 n7 c7]) (by simp [results, Tryz.results48, go_sem, k0, k1, k2]) rfl ?_
  have hbZ := B4 _ _ hbA (by omega)
  have q0 : q ≠ 0 := by
    rw [← HQ.out, ← HG.out]
    exact Nat.ne_of_gt (Nat.div_pos (Nat.gcd_le_left _ (Nat.pos_of_ne_zero HU.out)) (Nat.gcd_pos_of_pos_left _ (Nat.pos_of_ne_zero HU.out)))
  obtain ⟨e1, e2, e3⟩ := fin_norm (b := false) HV1.out HG.out HQ.out HT.out (by simp [q0]) HR.out
  refine ⟨A5, n5, c5, A7, n7, c7, by rw [e3]; simp, by rw [e1]; exact (C3 _ _ _ _ h5).below D, by rw [e2]; exact (C3 _ _ _ _ h7).below D, hbZ.trans (D.mono hbZ.size)⟩
theorem gnew_any (L : Nat) (h1L : 1 ≤ L) (hL : L ≤ 30000) (p : Bool) (A : Option Addr) (n c u : Nat) (B : Option Addr) (m d v : Nat) (w : World) (hA : Nt w L A n c u) (hB : Nt w L B m d v) (r : Rat) (hr : qv p u v = r) :
    Calls Tryz.prog 48 #[.bool p, .agg #[.slice A n c], .agg #[.slice B m d]] w (GivesR r w) := by
  by_cases hu : u = 0
  · have h0 : r = 0 := by
      rw [← hr, hu]
      cases p <;> simp [qv]
    rw [h0]
    exact gnew_u0 L (by omega) p A n c u B m d v w hA hB hu
  · by_cases hv : v = 0
    · have h0 : r = 0 := by rw [← hr, hv, qv_zero]
      rw [h0]
      exact gnew_v0 L (by omega) p A n c u B m d v w hA hB hu hv
    · exact gnew_nz L h1L hL p A n c u B m d v w hA hB hu hv r hr
end Go.Proofs.YtoeknkakdoemfaaGreatDoor

/- The contracts of the reference's fractions: Of, Norm, Neg, Mul, Sign. -/
namespace Go.Proofs.YtoeknkakdoemfaaGreatDoor
open Go Go.RowKit

theorem gnew_f {w : World} {L : Nat} {p : Bool} {A : Option Addr} {n c : Nat} {B : Option Addr} {m d : Nat} {x : Rat} (hx : Fr w L p A n c B m d x) (h1L : 1 ≤ L) (hL : L ≤ 30000) : Calls Tryz.prog 48 #[.bool p, .agg #[.slice A n c], .agg #[.slice B m d]] w (GivesF x w) := by
  obtain ⟨u, v, h1, h2, h3⟩ := hx
  exact (gnew_any L h1L hL p A n c u B m d v w h1 h2 x h3).mono fun _ _ h => h.f
theorem frMk {w : World} {L : Nat} {p : Bool} {A : Option Addr} {n c u : Nat} {B : Option Addr} {m d v : Nat} {x : Rat} (h1 : Nt w L A n c u) (h2 : Nt w L B m d v) (h3 : qv p u v = x) : Fr w L p A n c B m d x := ⟨u, v, h1, h2, h3⟩
theorem Fr.neg {w : World} {L : Nat} {p : Bool} {A : Option Addr} {n c : Nat} {B : Option Addr} {m d : Nat} {x : Rat} (hx : Fr w L p A n c B m d x) : Fr w L (!p) A n c B m d (-x) := by
  obtain ⟨u, v, h1, h2, h3⟩ := hx
  exact ⟨u, v, h1, h2, by rw [← qv_minus, h3]⟩
set_option maxHeartbeats 1000000 in
theorem gmag_any (i : Int) (w : World) (h1 : -9223372036854775808 ≤ i) (h2 : i ≤ 9223372036854775807) (u : Nat) (hu : i.natAbs = u) :
    Calls Tryz.prog 85 #[.int .i64 i] w (GivesN u w) := by
  have HU := hide hu
  clear hu
  by_cases h0 : i < 0
  · have hd : decide (i < 0) = true := by simp; omega
    have hw : IntKind.u64.wrap (-IntKind.u64.wrap i) = ((u : Nat) : Int) := by
      rw [← HU.out]
      simp only [IntKind.wrap, IntKind.bits, IntKind.signed, Bool.false_and, Bool.false_eq_true, if_false]
      show -(i % 18446744073709551616) % 18446744073709551616 = _
      omega
    have HW := hide hw
    clear hw
    go_enter Tryz.func85, Tryz.ntmps85
    go_wp2_with fail
    generalize hW : w.alloc _ = W
    obtain ⟨hbW, b0, -⟩ := boxes1 hW
    clear hW
    rw [HW.out]
    refine (rof_any u _ (by have := HU.out; omega)).mono ?_
    rintro e w1 ⟨A1, n1, c1, rfl, h1, hn1, hc1, hb1⟩
    have b0 := b0.below' hb1
    have hbA := hbW.trans (hb1.mono hbW.size)
    have g0 := b0.cell
    have f0 := b0.frozen 0
    clear hb1 hbW
    go_wp2
    refine bodyPost_ret (v := .agg #[.slice A1 n1 c1]) (by simp [results, Tryz.results85, go_sem, g0]) rfl ?_
    exact ⟨A1, n1, c1, rfl, h1.put b0 _, hn1, hc1, hbA.setCell (Nat.le_refl _) _⟩
  · have hd : decide (i < 0) = false := by simp; omega
    have hi : i = ((u : Nat) : Int) := by have := HU.out; omega
    subst hi
    go_enter Tryz.func85, Tryz.ntmps85
    go_wp2_with fail
    generalize hW : w.alloc _ = W
    obtain ⟨hbW, b0, -⟩ := boxes1 hW
    clear hW
    refine (rof_any u _ (by omega)).mono ?_
    rintro e w1 ⟨A1, n1, c1, rfl, h1, hn1, hc1, hb1⟩
    have b0 := b0.below' hb1
    have hbA := hbW.trans (hb1.mono hbW.size)
    have g0 := b0.cell
    have f0 := b0.frozen 0
    clear hb1 hbW
    go_wp2
    refine bodyPost_ret (v := .agg #[.slice A1 n1 c1]) (by simp [results, Tryz.results85, go_sem, g0]) rfl ?_
    exact ⟨A1, n1, c1, rfl, h1.put b0 _, hn1, hc1, hbA.setCell (Nat.le_refl _) _⟩
set_option maxHeartbeats 1000000 in
theorem gof2_any (i j : Int) (w : World) (h1 : -9223372036854775808 ≤ i) (h2 : i ≤ 9223372036854775807) (h3 : -9223372036854775808 ≤ j) (h4 : j ≤ 9223372036854775807) (r : Rat) (hr : qv (decide (i < 0) != decide (j < 0)) i.natAbs j.natAbs = r) :
    Calls Tryz.prog 56 #[.int .i64 i, .int .i64 j] w (GivesR r w) := by
  have HR := hide hr
  have HU := hide (show i.natAbs < B9 ^ 3 from by show i.natAbs < 1000000000 ^ 3; omega)
  have HV := hide (show j.natAbs < B9 ^ 3 from by show j.natAbs < 1000000000 ^ 3; omega)
  have G1 := hide (show -9223372036854775808 ≤ i ∧ i ≤ 9223372036854775807 from ⟨h1, h2⟩)
  have G2 := hide (show -9223372036854775808 ≤ j ∧ j ≤ 9223372036854775807 from ⟨h3, h4⟩)
  clear hr h1 h2 h3 h4
  obtain ⟨u, hu⟩ : ∃ u, i.natAbs = u := ⟨_, rfl⟩
  obtain ⟨v, hv⟩ : ∃ v, j.natAbs = v := ⟨_, rfl⟩
  rw [hu, hv] at HR
  rw [hu] at HU
  rw [hv] at HV
  have HI := hide hu
  have HJ := hide hv
  clear hu hv
  go_enter Tryz.func56, Tryz.ntmps56
  go_wp2_with fail
  generalize hW : w.alloc _ = W
  obtain ⟨hbW, bR, -⟩ := boxesA1 hW
  clear hW
  refine (gmag_any i _ G1.out.1 G1.out.2 u HI.out).mono ?_
  rintro e w1 ⟨A1, n1, c1, rfl, h1, hn1, hc1, hb1⟩
  have hbA := hbW.trans (hb1.mono hbW.size)
  have bR := bR.below' hb1
  have h1 : Cn w1 A1 n1 c1 u := ⟨h1, hn1, hc1⟩
  clear hb1 hbW hn1 hc1
  go_wp2_with fail
  refine (gmag_any j _ G2.out.1 G2.out.2 v HJ.out).mono ?_
  rintro e w2 ⟨A2, n2, c2, rfl, h2, hn2, hc2, hb2⟩
  have hbA := hbA.trans (hb2.mono hbA.size)
  have bR := bR.below' hb2
  have h1 := h1.below hb2
  have h2 : Cn w2 A2 n2 c2 v := ⟨h2, hn2, hc2⟩
  clear hb2 hn2 hc2
  go_wp2_with fail
  refine (gnew_any 3 (by omega) (by omega) _ A1 n1 c1 u A2 n2 c2 v _ (h1.nt HU.out) (h2.nt HV.out) r HR.out).mono ?_
  rintro e w3 ⟨A4, n4, c4, B4, m4, d4, rfl, h4, i4, hb4⟩
  have hbA := hbA.trans (hb4.mono hbA.size)
  have bR := bR.below' hb4
  clear hb4 h1 h2
  have g0 : w3.cell? ⟨w.heap.size, 0, none⟩ = some (.bool false) := bR.at_ 0
  have g1 : w3.cell? ⟨w.heap.size, 1, none⟩ = some (.slice none 0 0) := bR.at_ 1
  have g2 : w3.cell? ⟨w.heap.size, 2, none⟩ = some (.slice none 0 0) := bR.at_ 2
  have f0 := bR.frozen 0
  have f1 := bR.frozen 1
  have f2 := bR.frozen 2
  go_wp2
  clear g0 g1 g2 f0 f1 f2
  generalize hW3 : ((w3.setCell _ _).setCell _ _).setCell _ _ = W3
  obtain ⟨b3, N3, C3, B3, -⟩ := put3 bR hW3
  clear hW3
  have k0 : W3.cell? ⟨w.heap.size, 0, none⟩ = some (.bool (decide (r.num < 0))) := b3.at_ 0
  have k1 : W3.cell? ⟨w.heap.size, 1, none⟩ = some (.slice A4 n4 c4) := b3.at_ 1
  have k2 : W3.cell? ⟨w.heap.size, 2, none⟩ = some (.slice B4 m4 d4) := b3.at_ 2
  refine bodyPost_ret (v := .agg #[.bool (decide (r.num < 0)), .slice A4 n4 c4, .slice B4 m4 d4]) (by simp [results, Tryz.results56, go_sem, k0, k1, k2]) rfl ?_
  exact ⟨A4, n4, c4, B4, m4, d4, rfl, C3 _ _ _ _ h4, C3 _ _ _ _ i4, B3 _ _ hbA (Nat.le_refl _)⟩
theorem gof_f (i j : Int) (w : World) (h1 : -9223372036854775808 ≤ i) (h2 : i ≤ 9223372036854775807) (h3 : -9223372036854775808 ≤ j) (h4 : j ≤ 9223372036854775807) (r : Rat) (hr : (i : Rat) / (j : Rat) = r) :
    Calls Tryz.prog 56 #[.int .i64 i, .int .i64 j] w (GivesF r w) :=
  (gof2_any i j w h1 h2 h3 h4 r (by rw [qv_quo]; exact hr)).mono fun _ _ h => h.f
set_option maxHeartbeats 1000000 in
theorem gnorm_f {w : World} {L : Nat} {p : Bool} {A : Option Addr} {n c : Nat} {B : Option Addr} {m d : Nat} {x : Rat} (hx : Fr w L p A n c B m d x) (h1L : 1 ≤ L) (hL : L ≤ 30000) (r : Rat) (hr : x = r) : Calls Tryz.prog 35 #[.agg #[.bool p, .slice A n c, .slice B m d]] w (GivesF r w) := by
  subst hr
  go_enter Tryz.func35, Tryz.ntmps35
  go_wp2_with fail
  generalize hW : (w.alloc _).alloc _ = W
  obtain ⟨hbW, -, bR, -⟩ := boxesA2 hW
  clear hW
  refine (gnew_f (hx.below hbW) h1L (by omega)).mono ?_
  rintro e w1 ⟨p4, A4, n4, c4, B4, m4, d4, rfl, h4, hb1⟩
  have hbA := hbW.trans (hb1.mono hbW.size)
  have bR := bR.below' hb1
  clear hb1 hbW hx
  have g0 : w1.cell? ⟨w.heap.size + 1, 0, none⟩ = some (.bool false) := bR.at_ 0
  have g1 : w1.cell? ⟨w.heap.size + 1, 1, none⟩ = some (.slice none 0 0) := bR.at_ 1
  have g2 : w1.cell? ⟨w.heap.size + 1, 2, none⟩ = some (.slice none 0 0) := bR.at_ 2
  have f0 := bR.frozen 0
  have f1 := bR.frozen 1
  have f2 := bR.frozen 2
  go_wp2
  clear g0 g1 g2 f0 f1 f2
  generalize hW3 : ((w1.setCell _ _).setCell _ _).setCell _ _ = W3
  obtain ⟨b3, -, C3, B3, -⟩ := put3 bR hW3
  clear hW3
  have k0 : W3.cell? ⟨w.heap.size + 1, 0, none⟩ = some (.bool p4) := b3.at_ 0
  have k1 : W3.cell? ⟨w.heap.size + 1, 1, none⟩ = some (.slice A4 n4 c4) := b3.at_ 1
  have k2 : W3.cell? ⟨w.heap.size + 1, 2, none⟩ = some (.slice B4 m4 d4) := b3.at_ 2
  refine bodyPost_ret (v := .agg #[.bool p4, .slice A4 n4 c4, .slice B4 m4 d4]) (by simp [results, Tryz.results35, go_sem, k0, k1, k2]) rfl ?_
  exact ⟨_, _, _, _, _, _, _, rfl, ⟨h4.1, C3 _ _ _ _ h4.2.1, C3 _ _ _ _ h4.2.2⟩, B3 _ _ hbA (by omega)⟩
set_option maxHeartbeats 1000000 in
theorem gmul_f {w : World} {L : Nat} {p : Bool} {A : Option Addr} {n c : Nat} {B : Option Addr} {m d : Nat} {x : Rat} {p' : Bool} {A' : Option Addr} {n' c' : Nat} {B' : Option Addr} {m' d' : Nat} {y : Rat} (hx : Fr w L p A n c B m d x) (hy : Fr w L p' A' n' c' B' m' d' y) (h1L : 1 ≤ L) (hL : L ≤ 10000) (r : Rat) (hr : x * y = r) : Calls Tryz.prog 84 #[.agg #[.bool p, .slice A n c, .slice B m d], .agg #[.bool p', .slice A' n' c', .slice B' m' d']] w (GivesF r w) := by
  obtain ⟨u, v, hA, hB, h3⟩ := hx
  obtain ⟨u', v', hA', hB', h6⟩ := hy
  have HR := hide (show qv (!(p == p')) (u * u') (v * v') = r from by show qv (p != p') _ _ = r; rw [← qv_mul, h3, h6]; exact hr)
  have hU := hide (mulL hA.lt hA'.lt)
  have hV := hide (mulL hB.lt hB'.lt)
  clear hr h3 h6
  go_enter Tryz.func84, Tryz.ntmps84
  go_wp2_with fail
  generalize hW : ((w.alloc _).alloc _).alloc _ = W
  obtain ⟨hbW, b0, b1, bR, -⟩ := boxesA3 hW
  clear hW
  have hA := hA.below hbW
  have hB := hB.below hbW
  have hA' := hA'.below hbW
  have hB' := hB'.below hbW
  have lt0 := b0.lt
  have lt1 := b1.lt
  have ltR := bR.lt
  have P0 : Below W.heap.size W W.drew := (Below.refl _ _).drew
  have KS : Hid (∀ w', Below W.heap.size W w' → w'.cell? ⟨w.heap.size, 0, none⟩ = some (.bool p) ∧ w'.cell? ⟨w.heap.size, 1, none⟩ = some (.slice A n c) ∧ w'.cell? ⟨w.heap.size, 2, none⟩ = some (.slice B m d) ∧ w'.cell? ⟨w.heap.size + 1, 0, none⟩ = some (.bool p') ∧ w'.cell? ⟨w.heap.size + 1, 1, none⟩ = some (.slice A' n' c') ∧ w'.cell? ⟨w.heap.size + 1, 2, none⟩ = some (.slice B' m' d')) := fun w' h =>
    ⟨(b0.below h lt0).at_ 0, (b0.below h lt0).at_ 1, (b0.below h lt0).at_ 2, (b1.below h lt1).at_ 0, (b1.below h lt1).at_ 1, (b1.below h lt1).at_ 2⟩
  have KB : Hid (∀ w', Below W.heap.size W w' → Box w' (w.heap.size + 1 + 1) #[.bool false, .slice none 0 0, .slice none 0 0] 26) := fun w' h => bR.below h ltR
  have HF : Hid (∀ w', Box w' (w.heap.size + 1 + 1) #[.bool false, .slice none 0 0, .slice none 0 0] 26 → w'.cell? ⟨w.heap.size + 1 + 1, 0, none⟩ = some (.bool false) ∧ w'.cell? ⟨w.heap.size + 1 + 1, 1, none⟩ = some (.slice none 0 0) ∧ w'.cell? ⟨w.heap.size + 1 + 1, 2, none⟩ = some (.slice none 0 0) ∧ w'.frozen? ⟨w.heap.size + 1 + 1, 0, none⟩ = false ∧ w'.frozen? ⟨w.heap.size + 1 + 1, 1, none⟩ = false ∧ w'.frozen? ⟨w.heap.size + 1 + 1, 2, none⟩ = false) :=
    fun w' h => ⟨h.at_ 0, h.at_ 1, h.at_ 2, h.frozen 0, h.frozen 1, h.frozen 2⟩
  have ST : Hid (∀ w' (x y z : Value), Below W.heap.size W w' → (fun w' => w'.cell? ⟨w.heap.size, 0, none⟩ = some (.bool p) ∧ w'.cell? ⟨w.heap.size, 1, none⟩ = some (.slice A n c) ∧ w'.cell? ⟨w.heap.size, 2, none⟩ = some (.slice B m d) ∧ w'.cell? ⟨w.heap.size + 1, 0, none⟩ = some (.bool p') ∧ w'.cell? ⟨w.heap.size + 1, 1, none⟩ = some (.slice A' n' c') ∧ w'.cell? ⟨w.heap.size + 1, 2, none⟩ = some (.slice B' m' d')) (((w'.setCell ⟨w.heap.size + 1 + 1, 0, none⟩ x).setCell ⟨w.heap.size + 1 + 1, 1, none⟩ y).setCell ⟨w.heap.size + 1 + 1, 2, none⟩ z)) := fun w' x y z h => by
    obtain ⟨q0, q1, q2, q3, q4, q5⟩ := KS.out w' h
    refine ⟨?_, ?_, ?_, ?_, ?_, ?_⟩
    · rw [cell_far _ _ _ _ (by simp; omega), cell_far _ _ _ _ (by simp; omega), cell_far _ _ _ _ (by simp; omega)]; exact q0
    · rw [cell_far _ _ _ _ (by simp; omega), cell_far _ _ _ _ (by simp; omega), cell_far _ _ _ _ (by simp; omega)]; exact q1
    · rw [cell_far _ _ _ _ (by simp; omega), cell_far _ _ _ _ (by simp; omega), cell_far _ _ _ _ (by simp; omega)]; exact q2
    · rw [cell_far _ _ _ _ (by simp), cell_far _ _ _ _ (by simp), cell_far _ _ _ _ (by simp)]; exact q3
    · rw [cell_far _ _ _ _ (by simp), cell_far _ _ _ _ (by simp), cell_far _ _ _ _ (by simp)]; exact q4
    · rw [cell_far _ _ _ _ (by simp), cell_far _ _ _ _ (by simp), cell_far _ _ _ _ (by simp)]; exact q5
  clear b0 b1 lt0 lt1
  go_region_held3 (fun w' => w'.cell? ⟨w.heap.size, 0, none⟩ = some (.bool p) ∧ w'.cell? ⟨w.heap.size, 1, none⟩ = some (.slice A n c) ∧ w'.cell? ⟨w.heap.size, 2, none⟩ = some (.slice B m d) ∧ w'.cell? ⟨w.heap.size + 1, 0, none⟩ = some (.bool p') ∧ w'.cell? ⟨w.heap.size + 1, 1, none⟩ = some (.slice A' n' c') ∧ w'.cell? ⟨w.heap.size + 1, 2, none⟩ = some (.slice B' m' d'))
    (first | exact KS.out _ En | exact KS.out _ Es | exact KS.out _ Em | exact ST.out _ _ _ _ En | exact ST.out _ _ _ _ Es | exact ST.out _ _ _ _ Em | exact KS.out _ (Below.refl _ _) | exact KS.out _ P0)
    (first | (go_at_call_of 86 (Value.slice A n c); (with_reducible refine (rmul_n (hA.below P0) (hA'.below P0) (by omega) (u * u') rfl).mono ?_); rintro e wm ⟨Am, nm, cm, rfl, rm, lm, mm, hxwm⟩; have Em := (P0).trans (hxwm.mono (P0).size); have hm : Cn wm Am nm cm (u * u') := ⟨rm, lm, mm⟩) | (go_at_call_of 86 (Value.slice B m d); (with_reducible refine (rmul_n (hB.below Em) (hB'.below Em) (by omega) (v * v') rfl).mono ?_); rintro e ws ⟨As, ns, cs, rfl, rs, ls, ms, hxws⟩; have Es := (Em).trans (hxws.mono (Em).size); have hs : Cn ws As ns cs (v * v') := ⟨rs, ls, ms⟩; have hm := hm.below hxws) | (go_at_call 48; (with_reducible refine (gnew_f (p := !(p == p')) (L := 2 * L + 2) (frMk (hm.nt hU.out) (hs.nt hV.out) HR.out) (by omega) (by omega)).mono ?_); rintro e wn ⟨p4, A4, n4, c4, B4, m4, d4, rfl, h4, hxwn⟩; have En := (Es).trans (hxwn.mono (Es).size); obtain ⟨g0, g1, g2, f0, f1, f2⟩ := HF.out _ (KB.out _ En)))
  clear g0 g1 g2 f0 f1 f2
  have X10 := KB.out _ En
  have hbA := hbW.trans (En.mono hbW.size)
  generalize hW10 : ((wn.setCell _ _).setCell _ _).setCell _ _ = W10
  obtain ⟨b10, -, C10, B10, -⟩ := put3 X10 hW10
  clear hW10
  go_wp2
  have k0 : W10.cell? ⟨w.heap.size + 1 + 1, 0, none⟩ = some (.bool p4) := b10.at_ 0
  have k1 : W10.cell? ⟨w.heap.size + 1 + 1, 1, none⟩ = some (.slice A4 n4 c4) := b10.at_ 1
  have k2 : W10.cell? ⟨w.heap.size + 1 + 1, 2, none⟩ = some (.slice B4 m4 d4) := b10.at_ 2
  refine bodyPost_ret (v := .agg #[.bool p4, .slice A4 n4 c4, .slice B4 m4 d4]) (by simp [results, Tryz.results84, go_sem, k0, k1, k2]) rfl ?_
  exact ⟨_, _, _, _, _, _, _, rfl, ⟨h4.1, C10 _ _ _ _ h4.2.1, C10 _ _ _ _ h4.2.2⟩, B10 _ _ hbA (by omega)⟩
end Go.Proofs.YtoeknkakdoemfaaGreatDoor

/- The contracts of the reference's fractions: Sign. -/
namespace Go.Proofs.YtoeknkakdoemfaaGreatDoor
open Go Go.RowKit

end Go.Proofs.YtoeknkakdoemfaaGreatDoor
