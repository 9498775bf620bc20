/- The contracts of fraction.isZero, proper. -/
import Derived.Test.YtoeknkakdoemfaaGreatDoorNatG
namespace Go.Proofs.YtoeknkakdoemfaaGreatDoor
open Go Go.RowKit

theorem cmpI_zero (u : Nat) : cmpI u 0 = if u = 0 then 0 else 1 := by
  by_cases h : u = 0
  · subst h; simp [cmp_refl]
  · rw [if_neg h, cmp_pos h]
theorem isZero_any (L : Nat) (hL : L ≤ 100000) (A : Option Addr) (n c u : Nat) (w : World) (h : Nt w L A n c u) (b : Bool) (hb : decide (u = 0) = b) :
    Calls Tryz.prog 43 #[.agg #[.slice A n c]] w fun e w' => e = .returned (.bool b) ∧ Below w.heap.size w w' := by
  have HB := hide hb
  clear hb
  obtain ⟨r, hR⟩ : ∃ r, cmpI u 0 = r := ⟨_, rfl⟩
  have hr : (r == 0) = b := by
    rw [← HB.out, ← hR, cmpI_zero]
    by_cases h0 : u = 0 <;> simp [h0]
  have HR := hide hR
  clear hR
  go_enter Tryz.func43, Tryz.ntmps43
  go_wp2_with fail
  generalize hW : w.alloc _ = W
  obtain ⟨hbW, b0, hz⟩ := boxes1 hW
  clear hW
  refine (cmp_n (h.below hbW) (Nt.nil_ W L) hL r HR.out).mono ?_
  rintro e w1 ⟨rfl, hb1⟩
  have hbA := hbW.trans (hb1.mono hbW.size)
  clear hb1 hbW h b0
  go_wp2
  go_ret
  exact ⟨rfl, hbA⟩
theorem proper_any (L : Nat) (_h1L : 1 ≤ L) (hL : L ≤ 100000) (p : Bool) (A : Option Addr) (n c u : Nat) (B : Option Addr) (m d v : Nat) (w : World) (hA : Nt w L A n c u) (hB : Nt w L B m d v) (hv : v ≠ 0) :
    Calls Tryz.prog 40 #[.agg #[.bool p, .slice A n c, .slice B m d]] w (GivesQ L p u v w) := by
  go_enter Tryz.func40, Tryz.ntmps40
  go_wp2_with fail
  generalize hW : (w.alloc _).alloc _ = W
  obtain ⟨hbW, b0, b1, hz⟩ := boxesA2 hW
  clear hW
  have hA := hA.below hbW
  have hB := hB.below hbW
  refine (isZero_any L hL B m d v _ hB false (by simp [hv])).mono ?_
  rintro e w1 ⟨rfl, hb1⟩
  have hbA := hbW.trans (hb1.mono hbW.size)
  have hA := hA.below hb1
  have hB := hB.below hb1
  have b0 := b0.below' hb1
  have b1 := b1.below' hb1
  have k0 : w1.cell? ⟨w.heap.size, 0, none⟩ = some (.bool p) := b0.at_ 0
  have k1 : w1.cell? ⟨w.heap.size, 1, none⟩ = some (.slice A n c) := b0.at_ 1
  have k2 : w1.cell? ⟨w.heap.size, 2, none⟩ = some (.slice B m d) := b0.at_ 2
  have g0 : w1.cell? ⟨w.heap.size + 1, 0, none⟩ = some (.bool false) := b1.at_ 0
  have g1 : w1.cell? ⟨w.heap.size + 1, 1, none⟩ = some (.slice none 0 0) := b1.at_ 1
  have g2 : w1.cell? ⟨w.heap.size + 1, 2, none⟩ = some (.slice none 0 0) := b1.at_ 2
  have f0 := b1.frozen 0
  have f1 := b1.frozen 1
  have f2 := b1.frozen 2
  clear hb1 hbW hz
  go_wp2
  clear k0 k1 k2 g0 g1 g2 f0 f1 f2
  generalize hW3 : ((w1.setCell _ _).setCell _ _).setCell _ _ = W3
  obtain ⟨b3, N3, _, B3, _⟩ := put3 b1 hW3
  clear hW3
  have k0 : W3.cell? ⟨w.heap.size + 1, 0, none⟩ = some (.bool p) := b3.at_ 0
  have k1 : W3.cell? ⟨w.heap.size + 1, 1, none⟩ = some (.slice A n c) := b3.at_ 1
  have k2 : W3.cell? ⟨w.heap.size + 1, 2, none⟩ = some (.slice B m d) := b3.at_ 2
  refine bodyPost_ret (v := .agg #[.bool p, .slice A n c, .slice B m d]) (by simp [results, Tryz.results40, go_sem, k0, k1, k2]) rfl ?_
  exact ⟨A, n, c, B, m, d, rfl, N3 _ _ _ _ _ hA, N3 _ _ _ _ _ hB, B3 _ _ hbA (by omega)⟩
theorem proper_z (L : Nat) (h1L : 1 ≤ L) (hL : L ≤ 100000) (p : Bool) (A : Option Addr) (n c : Nat) (B : Option Addr) (m d : Nat) (w : World) (hB : Nt w L B m d 0) :
    Calls Tryz.prog 40 #[.agg #[.bool p, .slice A n c, .slice B m d]] w (GivesQ L false 0 1 w) := by
  go_enter Tryz.func40, Tryz.ntmps40
  go_wp2_with fail
  generalize hW : (w.alloc _).alloc _ = W
  obtain ⟨hbW, b0, b1, hz⟩ := boxesA2 hW
  clear hW
  have hB := hB.below hbW
  refine (isZero_any L hL B m d 0 _ hB true (by simp)).mono ?_
  rintro e w1 ⟨rfl, hb1⟩
  have hbA := hbW.trans (hb1.mono hbW.size)
  have b1 := b1.below' hb1
  clear hb1 hbW hz
  go_wp2_with fail
  refine (of_one _).mono fun e w2 h => ?_
  obtain ⟨A1, n1, c1, rfl, h1, hb1⟩ := h.cn
  have hbA := hbA.trans (hb1.mono hbA.size)
  have b1 := b1.below' hb1
  have g0 : w2.cell? ⟨w.heap.size + 1, 0, none⟩ = some (.bool false) := b1.at_ 0
  have g1 : w2.cell? ⟨w.heap.size + 1, 1, none⟩ = some (.slice none 0 0) := b1.at_ 1
  have g2 : w2.cell? ⟨w.heap.size + 1, 2, none⟩ = some (.slice none 0 0) := b1.at_ 2
  have f0 := b1.frozen 0
  have f1 := b1.frozen 1
  have f2 := b1.frozen 2
  clear hb1 h
  go_wp2
  clear g0 g1 g2 f0 f1 f2
  generalize hW3 : ((w2.setCell _ _).setCell _ _).setCell _ _ = W3
  obtain ⟨b3, N3, C3, B3, _⟩ := put3 b1 hW3
  clear hW3
  have k0 : W3.cell? ⟨w.heap.size + 1, 0, none⟩ = some (.bool false) := b3.at_ 0
  have k1 : W3.cell? ⟨w.heap.size + 1, 1, none⟩ = some (.slice none 0 0) := b3.at_ 1
  have k2 : W3.cell? ⟨w.heap.size + 1, 2, none⟩ = some (.slice A1 n1 c1) := b3.at_ 2
  refine bodyPost_ret (v := .agg #[.bool false, .slice none 0 0, .slice A1 n1 c1]) (by simp [results, Tryz.results40, go_sem, k0, k1, k2]) rfl ?_
  exact ⟨_, _, _, _, _, _, rfl, Nt.nil_ _ _, ((C3 _ _ _ _ h1).nt (L := 1) (by decide)).up h1L, B3 _ _ hbA (by omega)⟩
/-- what proper gives: a fraction whose denominator is not 0 -/
def GivesP (L : Nat) (p : Bool) (u v : Nat) (w : World) (e : Ending) (w' : World) : Prop :=
  ∃ p' u' v', v' ≠ 0 ∧ qv p' u' v' = qv p u v ∧ (v ≠ 0 → p' = p ∧ u' = u ∧ v' = v) ∧ (v = 0 → p' = false ∧ u' = 0 ∧ v' = 1) ∧ GivesQ L p' u' v' w e w'
theorem proper_p (L : Nat) (h1L : 1 ≤ L) (hL : L ≤ 100000) (p : Bool) (A : Option Addr) (n c u : Nat) (B : Option Addr) (m d v : Nat) (w : World) (hA : Nt w L A n c u) (hB : Nt w L B m d v) :
    Calls Tryz.prog 40 #[.agg #[.bool p, .slice A n c, .slice B m d]] w (GivesP L p u v w) := by
  by_cases hv : v = 0
  · subst hv
    exact (proper_z L h1L hL p A n c B m d w hB).mono fun e w' h => ⟨false, 0, 1, by decide, by rw [qv_zero]; rfl, fun h => absurd rfl h, fun _ => ⟨rfl, rfl, rfl⟩, h⟩
  · exact (proper_any L h1L hL p A n c u B m d v w hA hB hv).mono fun e w' h => ⟨p, u, v, hv, rfl, fun _ => ⟨rfl, rfl, rfl⟩, fun h => absurd h hv, h⟩
end Go.Proofs.YtoeknkakdoemfaaGreatDoor

/- The contract of fraction.Norm. -/
namespace Go.Proofs.YtoeknkakdoemfaaGreatDoor
open Go Go.RowKit

theorem fin_norm {p : Bool} {u v g q t : Nat} {b : Bool} {r : Rat} (hv : v ≠ 0) (hg : Nat.gcd u v = g) (hq : u / g = q) (ht : v / g = t) (hb : decide (q = 0) = b) (hr : qv p u v = r) :
    r.num.natAbs = q ∧ r.den = t ∧ decide (r.num < 0) = (p && !b) := by
  subst hg; subst hq; subst ht; subst hb; subst hr
  exact ⟨qv_abs hv, qv_den hv, qv_neg hv⟩
set_option maxHeartbeats 1000000 in
theorem fnorm_any (L : Nat) (h1L : 1 ≤ L) (hL : L ≤ 50000) (p : Bool) (A : Option Addr) (n c u : Nat) (B : Option Addr) (m d v : Nat) (w : World) (hA : Nt w L A n c u) (hB : Nt w L B m d v) (r : Rat) (hr : qv p u v = r) :
    Calls Tryz.prog 14 #[.agg #[.bool p, .slice A n c, .slice B m d]] w (GivesR r w) := by
  have HR := hide hr
  clear hr
  go_enter Tryz.func14, Tryz.ntmps14
  go_wp2_with fail
  generalize hW : (w.alloc _).alloc _ = W
  obtain ⟨hbW, b0, b1, hz⟩ := boxesA2 hW
  clear hW
  have hA := hA.below hbW
  have hB := hB.below hbW
  refine (proper_p L h1L (by omega) p A n c u B m d v _ hA hB).mono ?_
  rintro e w1 ⟨p1, u1, v1, hv1, hq1, -, -, A1, n1, c1, B1, m1, d1, rfl, hA1, hB1, hb1⟩
  have hbA := hbW.trans (hb1.mono hbW.size)
  have b0 := b0.below' hb1
  have b1 := b1.below' hb1
  have k0 : w1.cell? ⟨w.heap.size, 0, none⟩ = some (.bool p) := b0.at_ 0
  have k1 : w1.cell? ⟨w.heap.size, 1, none⟩ = some (.slice A n c) := b0.at_ 1
  have k2 : w1.cell? ⟨w.heap.size, 2, none⟩ = some (.slice B m d) := b0.at_ 2
  have f0 := b0.frozen 0
  have f1 := b0.frozen 1
  have f2 := b0.frozen 2
  have HR := hide (hq1.trans HR.out)
  have HV1 := hide hv1
  clear hb1 hbW hz hq1 hv1 hA hB
  go_wp2_with fail
  clear k0 k1 k2 f0 f1 f2
  generalize hW3 : ((w1.setCell _ _).setCell _ _).setCell _ _ = W3
  obtain ⟨b3, N3, -, B3, X3⟩ := put3 b0 hW3
  clear hW3 b0
  have b1 := X3 _ _ _ (by simp) b1
  have hA := N3 _ _ _ _ _ hA1
  have hB := N3 _ _ _ _ _ hB1
  have hbA := B3 _ _ hbA (Nat.le_refl _)
  clear N3 B3 X3 hA1 hB1
  obtain ⟨g, hg⟩ : ∃ g, Nat.gcd u1 v1 = g := ⟨_, rfl⟩
  have hg0 : g ≠ 0 := by rw [← hg]; exact fun h => HV1.out (Nat.eq_zero_of_gcd_eq_zero_right h)
  have hAl := hA.lt
  have hgl : g < B9 ^ (L + 1) := Nat.lt_of_le_of_lt (by rw [← hg]; exact Nat.gcd_le_right _ (Nat.pos_of_ne_zero HV1.out)) hB.lt
  refine (gcd_n hA hB (by omega) g hg).mono fun e w2 h => ?_
  obtain ⟨A2, n2, c2, rfl, h2, hb2⟩ := h.cn
  clear h
  have hbA := hbA.trans (hb2.mono hbA.size)
  have b3 := b3.below' hb2
  have b1 := b1.below' hb2
  have hA := hA.below hb2
  have hB := hB.below hb2
  clear hb2
  have HG := hide hg
  have HG0 := hide hg0
  have HGL := hide hgl
  clear hg hg0 hgl
  have lt0 := b3.lt
  have lt1 := b1.lt
  have k0 : w2.cell? ⟨w.heap.size, 0, none⟩ = some (.bool p1) := b3.at_ 0
  have k1 : w2.cell? ⟨w.heap.size, 1, none⟩ = some (.slice A1 n1 c1) := b3.at_ 1
  have k2 : w2.cell? ⟨w.heap.size, 2, none⟩ = some (.slice B1 m1 d1) := b3.at_ 2
  go_wp2_with fail
  clear k0 k1 k2
  generalize hW4 : w2.alloc _ = W4
  obtain ⟨hb4, bg, -⟩ := boxesA1 hW4
  clear hW4
  have hA := (hA.below hb4).up (Nat.le_succ L)
  have hB := (hB.below hb4).up (Nat.le_succ L)
  have hG := (h2.below hb4).nt HGL.out
  have hbA := hbA.trans (hb4.mono hbA.size)
  have b3 := b3.below' hb4
  have b1 := b1.below' hb4
  clear hb4 h2
  have hu1l : u1 < B9 ^ (L + 1) := hAl
  obtain ⟨q, hq⟩ : ∃ q, u1 / g = q := ⟨_, rfl⟩
  have hs4 := b1.lt
  refine (div_n hA hG (by omega) HG0.out q (u1 % g) hq rfl).mono fun e w5 h => ?_
  obtain ⟨A5, n5, c5, A6, n6, c6, rfl, h5, -, hb5⟩ := h.cn
  clear h
  have hbA := hbA.trans (hb5.mono hbA.size)
  have b3 := b3.below' hb5
  have b1 := b1.below' hb5
  have bg := bg.below' hb5
  have hB := hB.below hb5
  have hG := hG.below hb5
  have hb51 : Hid (w.heap.size + 1 < w5.heap.size) := b1.lt
  clear hb5 hA hs4
  have HQL : Hid (q < B9 ^ (L + 1)) := hide (Nat.lt_of_le_of_lt (by rw [← hq]; exact Nat.div_le_self _ _) hu1l)
  obtain ⟨b, hb⟩ : ∃ b, decide (q = 0) = b := ⟨_, rfl⟩
  have HB := hide hb
  have HQ := hide hq
  clear hq hb
  have lt0 := b3.lt
  have lt1 := b1.lt
  have lt2 := bg.lt
  have k0 : w5.cell? ⟨w.heap.size, 0, none⟩ = some (.bool p1) := b3.at_ 0
  have k1 : w5.cell? ⟨w.heap.size, 1, none⟩ = some (.slice A1 n1 c1) := b3.at_ 1
  have k2 : w5.cell? ⟨w.heap.size, 2, none⟩ = some (.slice B1 m1 d1) := b3.at_ 2
  have k3 := bg.cell
  go_wp2_with fail
  clear k0 k1 k2 k3
  generalize hW6 : (w5.alloc _).alloc _ = W6
  obtain ⟨hb6, bn, bo, -⟩ := boxesA2 hW6
  clear hW6
  have hB := hB.below hb6
  have hG := hG.below hb6
  have h5 := h5.below hb6
  have hbA := hbA.trans (hb6.mono hbA.size)
  have b3 := b3.below' hb6
  have b1 := b1.below' hb6
  clear hb6 bg bo
  obtain ⟨t, ht⟩ : ∃ t, v1 / g = t := ⟨_, rfl⟩
  refine (div_n hB hG (by omega) HG0.out t (v1 % g) ht rfl).mono fun e w7 h => ?_
  obtain ⟨A7, n7, c7, A8, n8, c8, rfl, h7, -, hb7⟩ := h.cn
  clear h
  have hbA := hbA.trans (hb7.mono hbA.size)
  have b3 := b3.below' hb7
  have b1 := b1.below' hb7
  have bn := bn.below' hb7
  have h5 := h5.below hb7
  have hb71 : Hid (w.heap.size + 1 < w7.heap.size) := b1.lt
  clear hb7 hB hG
  have HT := hide ht
  clear ht
  have lt0 := b3.lt
  have lt1 := b1.lt
  have lt2 := bn.lt
  have k0 : w7.cell? ⟨w.heap.size, 0, none⟩ = some (.bool p1) := b3.at_ 0
  have k1 : w7.cell? ⟨w.heap.size, 1, none⟩ = some (.slice A1 n1 c1) := b3.at_ 1
  have k2 : w7.cell? ⟨w.heap.size, 2, none⟩ = some (.slice B1 m1 d1) := b3.at_ 2
  have k3 := bn.cell
  go_wp2_with fail
  clear k0 k1 k2 k3
  generalize hW8 : (w7.alloc _).alloc _ = W8
  obtain ⟨hb8, bd, -, -⟩ := boxesA2 hW8
  clear hW8
  have h5 := h5.below hb8
  have h7 := h7.below hb8
  have hbA := hbA.trans (hb8.mono hbA.size)
  have b3 := b3.below' hb8
  have b1 := b1.below' hb8
  have bn := bn.below' hb8
  clear hb8
  have lt0 := b3.lt
  have lt1 := b1.lt
  have lt2 := bn.lt
  have lt3 := bd.lt
  have KS : Hid (∀ w', Below W8.heap.size W8 w' → w'.cell? ⟨w.heap.size, 0, none⟩ = some (.bool p1) ∧ w'.cell? ⟨w5.heap.size, 0, none⟩ = some (.slice A5 n5 c5) ∧ w'.cell? ⟨w7.heap.size, 0, none⟩ = some (.slice A7 n7 c7)) := fun w' h =>
    ⟨(b3.below h lt0).at_ 0, (bn.below h lt2).cell, (bd.below h lt3).cell⟩
  have KB : Hid (∀ w', Below W8.heap.size W8 w' → Box w' (w.heap.size + 1) #[.bool false, .slice none 0 0, .slice none 0 0] 26) := fun w' h => b1.below h lt1
  have b5 : w5.heap.size ≠ w.heap.size + 1 := by have := hb51.out; omega
  have b7 : w7.heap.size ≠ w.heap.size + 1 := by have := hb71.out; omega
  have HF : Hid (∀ w', Box w' (w.heap.size + 1) #[.bool false, .slice none 0 0, .slice none 0 0] 26 → w'.cell? ⟨w.heap.size + 1, 0, none⟩ = some (.bool false) ∧ w'.cell? ⟨w.heap.size + 1, 1, none⟩ = some (.slice none 0 0) ∧ w'.cell? ⟨w.heap.size + 1, 2, none⟩ = some (.slice none 0 0) ∧ w'.frozen? ⟨w.heap.size + 1, 0, none⟩ = false ∧ w'.frozen? ⟨w.heap.size + 1, 1, none⟩ = false ∧ w'.frozen? ⟨w.heap.size + 1, 2, none⟩ = false) :=
    fun w' h => ⟨h.at_ 0, h.at_ 1, h.at_ 2, h.frozen 0, h.frozen 1, h.frozen 2⟩
  clear b3 bn bd
  have ST : Hid (∀ w' (x y z : Value), Below W8.heap.size W8 w' → (fun w' => w'.cell? ⟨w.heap.size, 0, none⟩ = some (.bool p1) ∧ w'.cell? ⟨w5.heap.size, 0, none⟩ = some (.slice A5 n5 c5) ∧ w'.cell? ⟨w7.heap.size, 0, none⟩ = some (.slice A7 n7 c7)) (((w'.setCell ⟨w.heap.size + 1, 0, none⟩ x).setCell ⟨w.heap.size + 1, 1, none⟩ y).setCell ⟨w.heap.size + 1, 2, none⟩ z)) := fun w' x y z h => by
    obtain ⟨q1, q2, q3⟩ := KS.out w' h
    refine ⟨?_, ?_, ?_⟩
    · rw [cell_far _ _ _ _ (by simp), cell_far _ _ _ _ (by simp), cell_far _ _ _ _ (by simp)]; exact q1
    · rw [cell_far _ _ _ _ b5, cell_far _ _ _ _ b5, cell_far _ _ _ _ b5]; exact q2
    · rw [cell_far _ _ _ _ b7, cell_far _ _ _ _ b7, cell_far _ _ _ _ b7]; exact q3
  cases p1
  · obtain ⟨k0, k1, k2⟩ := KS.out _ (Below.refl _ _)
    obtain ⟨g0, g1, g2, f0, f1, f2⟩ := HF.out _ (KB.out _ (Below.refl _ _))
    go_region
    clear k0 k1 k2 g0 g1 g2 f0 f1 f2
    have X10 := KB.out _ (Below.refl _ _)
    generalize hW10 : ((W8.setCell _ _).setCell _ _).setCell _ _ = W10
    obtain ⟨b10, -, C10, B10, -⟩ := put3 X10 hW10
    clear hW10
    have D10 : Below W10.heap.size W10 W10.drew := (Below.refl _ _).drew
    have b10 := b10.below' D10
    have k0 : W10.drew.cell? ⟨w.heap.size + 1, 0, none⟩ = some (.bool false) := b10.at_ 0
    have k1 : W10.drew.cell? ⟨w.heap.size + 1, 1, none⟩ = some (.slice A5 n5 c5) := b10.at_ 1
    have k2 : W10.drew.cell? ⟨w.heap.size + 1, 2, none⟩ = some (.slice A7 n7 c7) := b10.at_ 2
    have h5 := (C10 _ _ _ _ h5).below D10
    have h7 := (C10 _ _ _ _ h7).below D10
    have hbA := (B10 _ _ hbA (by omega)).drew
    generalize W10.drew = wd at *
    go_wp2
    refine bodyPost_ret (v := .agg #[.bool false, .slice A5 n5 c5, .slice A7 n7 c7]) (by simp [results, Tryz.results14, go_sem, k0, k1, k2]) rfl ?_
    obtain ⟨e1, e2, e3⟩ := fin_norm HV1.out HG.out HQ.out HT.out HB.out HR.out
    refine ⟨A5, n5, c5, A7, n7, c7, by rw [e3]; rfl, by rw [e1]; exact h5, by rw [e2]; exact h7, hbA⟩
  · go_region_held3 (fun w' => w'.cell? ⟨w.heap.size, 0, none⟩ = some (.bool true) ∧ w'.cell? ⟨w5.heap.size, 0, none⟩ = some (.slice A5 n5 c5) ∧ w'.cell? ⟨w7.heap.size, 0, none⟩ = some (.slice A7 n7 c7))
      (first | exact KS.out _ E9 | exact ST.out _ _ _ _ E9 | exact KS.out _ (Below.refl _ _) | exact KS.out _ ((Below.refl _ _).drew))
      (first | (go_at_call_of 43 (Value.slice A5 n5 c5); (with_reducible refine (isZero_any (L + 1) (by omega) A5 n5 c5 q _ ((h5.below (Below.refl _ _).drew).nt HQL.out) b HB.out).mono ?_); rintro e w9 ⟨rfl, hx9⟩; have E9 : Below W8.heap.size W8 w9 := ((Below.refl _ _).drew).trans (hx9.mono (Nat.le_refl _)); obtain ⟨g0, g1, g2, f0, f1, f2⟩ := HF.out _ (KB.out _ E9)))
    clear g0 g1 g2 f0 f1 f2
    have E10 : Below W8.heap.size W8 (w9) := E9
    have X10 := KB.out _ E10
    have h5 := h5.below E10
    have h7 := h7.below E10
    have hbA := hbA.trans (E10.mono hbA.size)
    generalize w9 = wz at *
    generalize hW10 : ((wz.setCell _ _).setCell _ _).setCell _ _ = W10
    obtain ⟨b10, -, C10, B10, -⟩ := put3 X10 hW10
    clear hW10
    have k0 : W10.cell? ⟨w.heap.size + 1, 0, none⟩ = some (.bool (!b)) := b10.at_ 0
    have k1 : W10.cell? ⟨w.heap.size + 1, 1, none⟩ = some (.slice A5 n5 c5) := b10.at_ 1
    have k2 : W10.cell? ⟨w.heap.size + 1, 2, none⟩ = some (.slice A7 n7 c7) := b10.at_ 2
    go_wp2
    refine bodyPost_ret (v := .agg #[.bool (!b), .slice A5 n5 c5, .slice A7 n7 c7]) (by simp [results, Tryz.results14, go_sem, k0, k1, k2]) rfl ?_
    obtain ⟨e1, e2, e3⟩ := fin_norm HV1.out HG.out HQ.out HT.out HB.out HR.out
    refine ⟨A5, n5, c5, A7, n7, c7, by rw [e3]; rfl, by rw [e1]; exact C10 _ _ _ _ h5, by rw [e2]; exact C10 _ _ _ _ h7, B10 _ _ hbA (by omega)⟩
end Go.Proofs.YtoeknkakdoemfaaGreatDoor

/- The contracts of fraction.minus. -/
namespace Go.Proofs.YtoeknkakdoemfaaGreatDoor
open Go Go.RowKit

set_option maxHeartbeats 1000000 in
theorem minus_any (L : Nat) (p : Bool) (A : Option Addr) (n c u : Nat) (B : Option Addr) (m d v : Nat) (w : World) (hA : Nt w L A n c u) (hB : Nt w L B m d v) :
    Calls Tryz.prog 45 #[.agg #[.bool p, .slice A n c, .slice B m d]] w (GivesQ L (!p) u v w) := by
  go_enter Tryz.func45, Tryz.ntmps45
  go_wp2_with fail
  generalize hW : (w.alloc _).alloc _ = W
  obtain ⟨hbW, -, b1, -⟩ := boxesA2 hW
  clear hW
  have k0 : W.cell? ⟨w.heap.size + 1, 0, none⟩ = some (.bool (!p)) := b1.at_ 0
  have k1 : W.cell? ⟨w.heap.size + 1, 1, none⟩ = some (.slice A n c) := b1.at_ 1
  have k2 : W.cell? ⟨w.heap.size + 1, 2, none⟩ = some (.slice B m d) := b1.at_ 2
  refine bodyPost_ret (v := .agg #[.bool (!p), .slice A n c, .slice B m d]) (by simp [results, Tryz.results45, go_sem, k0, k1, k2]) rfl ?_
  exact ⟨A, n, c, B, m, d, rfl, hA.below hbW, hB.below hbW, hbW⟩
end Go.Proofs.YtoeknkakdoemfaaGreatDoor
