/- The contract of fraction.roundedUnits. -/
import Derived.Test.YtoeknkakdoemfaaGreatDoorBaseL
import Derived.Test.YtoeknkakdoemfaaGreatDoorFUnits
import Derived.Test.YtoeknkakdoemfaaGreatDoorBaseF
import Derived.Deep.CutRange
import Derived.Deep.RegionHeld3
import Derived.Test.YtoeknkakdoemfaaGreatDoorFRat
import Derived.ChangeSlices
import Derived.ChangeArms
import Derived.Carry
import Derived.Test.YtoeknkakdoemfaaGreatDoorFTexts
import Derived.Test.YtoeknkakdoemfaaGreatDoorRepeat
import Derived.Lib.Repeat
import Derived.Test.YtoeknkakdoemfaaGreatDoorField
import Derived.Test.YtoeknkakdoemfaaGreatDoorZB
import Derived.Test.YtoeknkakdoemfaaGreatDoorZA
namespace Go.Proofs.YtoeknkakdoemfaaGreatDoor
open Go Go.RowKit

/-- how many parts of 10^-k a number has, without its sign, rounded -/
def rnd (u v k : Nat) : Nat := if v = 0 then 0 else (u * 10 ^ k * 2 + v) / (v * 2)
theorem rnd_proper {u u1 v v1 k : Nat} {p p1 : Bool} (h1 : v ≠ 0 → p1 = p ∧ u1 = u ∧ v1 = v) (h2 : v = 0 → p1 = false ∧ u1 = 0 ∧ v1 = 1) : (u1 * 10 ^ k * 2 + v1) / (v1 * 2) = rnd u v k := by
  unfold rnd
  by_cases hv : v = 0
  · obtain ⟨-, rfl, rfl⟩ := h2 hv
    rw [if_pos hv]; simp
  · obtain ⟨-, rfl, rfl⟩ := h1 hv
    rw [if_neg hv]
theorem GivesDM.fst {a b : Nat} {er : Int} {w w' : World} {e : Ending} (h : GivesDM a b er w e w') :
    ∃ A n c B m d, e = .returned (.tuple #[.agg #[.slice A n c], .agg #[.slice B m d], .int .i64 er]) ∧ Cn w' A n c a ∧ Below w.heap.size w w' := by
  obtain ⟨A, n, c, B, m, d, h1, h2, -, h3⟩ := h.cn
  exact ⟨A, n, c, B, m, d, h1, h2, h3⟩
set_option maxHeartbeats 8000000 in
theorem rounded_any (L : Nat) (h1L : 1 ≤ L) (hL : L ≤ 5000) (p : Bool) (A : Option Addr) (n c u : Nat) (B : Option Addr) (m d v : Nat) (k : Nat) (hk : k ≤ 20) (w : World) (hA : Nt w L A n c u) (hB : Nt w L B m d v) (T : Nat) (hT : rnd u v k = T) :
    Calls Tryz.prog 58 #[.agg #[.bool p, .slice A n c, .slice B m d], .int .i64 (k : Int)] w (GivesN T w) := by
  have HT := hide hT
  clear hT
  go_enter Tryz.func58, Tryz.ntmps58
  go_wp2_with fail
  generalize hW : (w.alloc _).alloc _ = W
  obtain ⟨hbW, b0, bR, hz⟩ := boxesA2 hW
  clear hW
  have hA := hA.below hbW
  have hB := hB.below hbW
  refine (proper_p L h1L (by omega) p A n c u B m d v _ hA hB).mono ?_
  rintro e w1 ⟨p1, u1, v1, hv1, -, hq1, hq2, A1, n1, c1, B1, m1, d1, rfl, hA1, hB1, hb1⟩
  have hbA := hbW.trans (hb1.mono hbW.size)
  have b0 := b0.below' hb1
  have bR := bR.below' hb1
  have k0 : w1.cell? ⟨w.heap.size, 0, none⟩ = some (.bool p) := b0.at_ 0
  have k1 : w1.cell? ⟨w.heap.size, 1, none⟩ = some (.slice A n c) := b0.at_ 1
  have k2 : w1.cell? ⟨w.heap.size, 2, none⟩ = some (.slice B m d) := b0.at_ 2
  have f0 := b0.frozen 0
  have f1 := b0.frozen 1
  have f2 := b0.frozen 2
  have HT := hide (show (u1 * 10 ^ k * 2 + v1) / (v1 * 2) = T from (rnd_proper hq1 hq2).trans HT.out)
  have HV1 := hide hv1
  clear hb1 hbW hz hq1 hq2 hv1 hA hB
  go_wp2_with fail
  clear k0 k1 k2 f0 f1 f2
  generalize hW3 : ((w1.setCell _ _).setCell _ _).setCell _ _ = W3
  obtain ⟨b3, N3, -, B3, X3⟩ := put3 b0 hW3
  clear hW3 b0
  have bR := X3 _ _ _ (by simp) bR
  have hA := N3 _ _ _ _ _ hA1
  have hB := N3 _ _ _ _ _ hB1
  have hbA := B3 _ _ hbA (Nat.le_refl _)
  clear N3 B3 X3 hA1 hB1
  refine (of_any 2 _ (by omega)).mono fun e w4 h => ?_
  obtain ⟨A4, n4, c4, rfl, h4, hb4⟩ := GivesN.cn h
  clear h
  have hbA := hbA.trans (hb4.mono hbA.size)
  have b3 := b3.below' hb4
  have bR := bR.below' hb4
  have hA := hA.below hb4
  have hB := hB.below hb4
  clear hb4
  go_wp2_with fail
  generalize hW5 : w4.alloc _ = W5
  obtain ⟨hb5, bt, -⟩ := boxesA1 hW5
  clear hW5
  have hbA := hbA.trans (hb5.mono hbA.size)
  have b3 := b3.below' hb5
  have bR := bR.below' hb5
  have hA := hA.below hb5
  have hB := hB.below hb5
  have h4 := (h4.below hb5).nt (L := 1) (by decide)
  clear hb5
  obtain ⟨q, hq⟩ : ∃ q, 10 ^ k = q := ⟨_, rfl⟩
  rw [hq] at HT
  have HQ := hide hq
  have HQL := hide (show q < B9 ^ 3 from by
    rw [← hq]
    exact Nat.lt_of_le_of_lt (Nat.pow_le_pow_right (by decide) hk) (by decide))
  have HUL := hide hA.lt
  have HVL := hide hB.lt
  clear hq
  have HMB := hide (show u1 * q < B9 ^ (L + 4) from mulB (i := L + 1) (j := 3) HUL.out HQL.out)
  have lt3 := b3.lt
  have ltt := bt.lt
  have KS : Hid (∀ w', Below W5.heap.size W5 w' → w'.cell? ⟨w.heap.size, 1, none⟩ = some (.slice A1 n1 c1) ∧ w'.cell? ⟨w4.heap.size, 0, none⟩ = some (.slice A4 n4 c4)) := fun w' h =>
    ⟨(b3.below h lt3).at_ 1, (bt.below h ltt).at_ 0⟩
  go_wp2_with fail
  go_cut [6] from 13 to 20 (fun s6 wx => MadeN W5 (u1 * q * 2) s6 wx ∧ Below W5.heap.size W5 wx)
  case first =>
    go_region_held3 (fun w' => w'.cell? ⟨w.heap.size, 1, none⟩ = some (.slice A1 n1 c1) ∧ w'.cell? ⟨w4.heap.size, 0, none⟩ = some (.slice A4 n4 c4))
      (exact KS.out _ (by ((repeat (first | (with_reducible assumption) | (with_reducible exact Below.refl _ _) | (with_reducible refine Below.drewS ?_) | (with_reducible refine Below.allocS ?_ _) | (with_reducible refine Below.setS ?_ (by first | omega | (simp; omega)) _))); (first | done | fail))))
      (first
        | (go_at_call 50; (with_reducible refine (units_any k (by omega) _ q HQ.out).mono ?_); rintro e wu ⟨Au, nu, cu, rfl, ru, lu, mu, hbu⟩; have Eu : Below W5.heap.size W5 wu := Below.next (by ((repeat (first | (with_reducible assumption) | (with_reducible exact Below.refl _ _) | (with_reducible refine Below.drewS ?_) | (with_reducible refine Below.allocS ?_ _) | (with_reducible refine Below.setS ?_ (by first | omega | (simp; omega)) _))); (first | done | fail))) hbu; have zu := Eu.size; have yu := hbu.size; (try simp at yu); have hu : Cn wu Au nu cu q := ⟨ru, lu, mu⟩; have tu : Hid (∀ w', Below wu.heap.size wu w' → Nt w' (L + 3) Au nu cu q) := fun w' hb => ((hu.below hb).nt HQL.out).up (by omega); clear hu ru lu mu)
        | (go_at_call_of 52 (Value.slice A1 n1 c1); (with_reducible refine (mul_n (L := L + 3) ((hA.below (by ((repeat (first | (with_reducible assumption) | (with_reducible exact Below.refl _ _) | (with_reducible refine Below.drewS ?_) | (with_reducible refine Below.allocS ?_ _) | (with_reducible refine Below.setS ?_ (by first | omega | (simp; omega)) _))); (first | done | fail)))).up (by omega)) (tu.out _ (by ((repeat (first | (with_reducible assumption) | (with_reducible exact Below.refl _ _) | (with_reducible refine Below.drewS ?_) | (with_reducible refine Below.allocS ?_ _) | (with_reducible refine Below.setS ?_ (by first | omega | (simp; omega)) _))); (first | done | fail)))) (by omega) (u1 * q) rfl).mono ?_); rintro e wm ⟨Am, nm, cm, rfl, rm, lm, mm, hbm⟩; have Em : Below W5.heap.size W5 wm := Below.next (by ((repeat (first | (with_reducible assumption) | (with_reducible exact Below.refl _ _) | (with_reducible refine Below.drewS ?_) | (with_reducible refine Below.allocS ?_ _) | (with_reducible refine Below.setS ?_ (by first | omega | (simp; omega)) _))); (first | done | fail))) hbm; have zm := Em.size; have ym := hbm.size; (try simp at ym); have hm : Cn wm Am nm cm (u1 * q) := ⟨rm, lm, mm⟩; have tm : Hid (∀ w', Below wm.heap.size wm w' → Nt w' (L + 4) Am nm cm (u1 * q)) := fun w' hb => (hm.below hb).nt HMB.out; clear hm rm lm mm tu)
        | (go_at_call_of 52 (Value.slice Am nm cm); (with_reducible refine (mul_n (L := L + 4) (tm.out _ (by ((repeat (first | (with_reducible assumption) | (with_reducible exact Below.refl _ _) | (with_reducible refine Below.drewS ?_) | (with_reducible refine Below.allocS ?_ _) | (with_reducible refine Below.setS ?_ (by first | omega | (simp; omega)) _))); (first | done | fail)))) ((h4.below (by ((repeat (first | (with_reducible assumption) | (with_reducible exact Below.refl _ _) | (with_reducible refine Below.drewS ?_) | (with_reducible refine Below.allocS ?_ _) | (with_reducible refine Below.setS ?_ (by first | omega | (simp; omega)) _))); (first | done | fail)))).up (by omega)) (by omega) (u1 * q * 2) rfl).mono ?_); rintro e wn ⟨An, nn, cn, rfl, rn, ln, mn, hbn⟩; have En : Below W5.heap.size W5 wn := Below.next (by ((repeat (first | (with_reducible assumption) | (with_reducible exact Below.refl _ _) | (with_reducible refine Below.drewS ?_) | (with_reducible refine Below.allocS ?_ _) | (with_reducible refine Below.setS ?_ (by first | omega | (simp; omega)) _))); (first | done | fail))) hbn; have zn := En.size; have yn := hbn.size; (try simp at yn); (try (have q0_0 : W5.heap.size < wn.heap.size := by omega)); (try (have q1_0 : wu.heap.size < wn.heap.size := by omega)); (try (have q2_0 : wm.heap.size < wn.heap.size := by omega)); (try (have e0_0 : Box wn (W5.heap.size) #[.slice none 0 0] 24 := (by ((repeat (first | (with_reducible exact Box.newE _ _ _ (by first | rfl | (simp; (first | done | fail)))) | (with_reducible refine Box.drewS ?_) | (with_reducible refine Box.alloc ?_ _) | (with_reducible refine Box.below' ?_ hbn) | (with_reducible refine Box.below' ?_ hbm) | (with_reducible refine Box.below' ?_ hbu))); (first | done | fail))); have le0_0 := Box.lt e0_0; have ke0_0 := Box.cell e0_0; have fe0_0 := Box.frozen e0_0 0)); (try (have e1_0 : Box wn (wu.heap.size) #[.slice none 0 0] 24 := (by ((repeat (first | (with_reducible exact Box.newE _ _ _ (by first | rfl | (simp; (first | done | fail)))) | (with_reducible refine Box.drewS ?_) | (with_reducible refine Box.alloc ?_ _) | (with_reducible refine Box.below' ?_ hbn) | (with_reducible refine Box.below' ?_ hbm) | (with_reducible refine Box.below' ?_ hbu))); (first | done | fail))); have le1_0 := Box.lt e1_0; have ke1_0 := Box.cell e1_0; have fe1_0 := Box.frozen e1_0 0)); (try (have e2_0 : Box wn (wm.heap.size) #[.slice none 0 0] 24 := (by ((repeat (first | (with_reducible exact Box.newE _ _ _ (by first | rfl | (simp; (first | done | fail)))) | (with_reducible refine Box.drewS ?_) | (with_reducible refine Box.alloc ?_ _) | (with_reducible refine Box.below' ?_ hbn) | (with_reducible refine Box.below' ?_ hbm) | (with_reducible refine Box.below' ?_ hbu))); (first | done | fail))); have le2_0 := Box.lt e2_0; have ke2_0 := Box.cell e2_0; have fe2_0 := Box.frozen e2_0 0)); have hn : Cn wn An nn cn (u1 * q * 2) := ⟨rn, ln, mn⟩; clear rn ln mn tm))
    all_goals
      go_wp2_with fail
      go_meet
      exact ⟨⟨_, An, nn, cn, rfl, (by first | omega | (simp; omega)), (by ((repeat (first | (with_reducible assumption) | (with_reducible exact Box.newE _ _ _ (by first | rfl | (simp; (first | done | fail)))) | (with_reducible refine Box.drewS ?_) | (with_reducible refine Box.alloc ?_ _) | (with_reducible refine Box.put1z ?_) | (with_reducible refine Box.put3z ?_) | (with_reducible refine Box.far3 ?_ (by first | omega | (simp; omega)) _ _ _) | (with_reducible refine Box.far1 ?_ (by first | omega | (simp; omega)) _))); (first | done | fail))), (by ((repeat (first | (with_reducible assumption) | (with_reducible refine Cn.drewS ?_) | (with_reducible refine Cn.allocS ?_ _) | (with_reducible refine Cn.far3z ?_ (by ((repeat (first | (with_reducible assumption) | (with_reducible exact Box.newE _ _ _ (by first | rfl | (simp; (first | done | fail)))) | (with_reducible refine Box.drewS ?_) | (with_reducible refine Box.alloc ?_ _) | (with_reducible refine Box.put1z ?_) | (with_reducible refine Box.put3z ?_) | (with_reducible refine Box.far3 ?_ (by first | omega | (simp; omega)) _ _ _) | (with_reducible refine Box.far1 ?_ (by first | omega | (simp; omega)) _))); (first | done | fail))) _ _ _ _ _ _ _) | (with_reducible refine Cn.far1z ?_ (by ((repeat (first | (with_reducible assumption) | (with_reducible exact Box.newE _ _ _ (by first | rfl | (simp; (first | done | fail)))) | (with_reducible refine Box.drewS ?_) | (with_reducible refine Box.alloc ?_ _) | (with_reducible refine Box.put1z ?_) | (with_reducible refine Box.put3z ?_) | (with_reducible refine Box.far3 ?_ (by first | omega | (simp; omega)) _ _ _) | (with_reducible refine Box.far1 ?_ (by first | omega | (simp; omega)) _))); (first | done | fail))) _))); (first | done | fail)))⟩, (by ((repeat (first | (with_reducible assumption) | (with_reducible exact Below.refl _ _) | (with_reducible refine Below.drewS ?_) | (with_reducible refine Below.allocS ?_ _) | (with_reducible refine Below.setS ?_ (by first | omega | (simp; omega)) _))); (first | done | fail)))⟩
  case rest =>
  obtain ⟨⟨g6, An, nn, cn, rfl, hg6, bn, hn⟩, E6⟩ := hcut
  have hbA := hbA.trans (E6.mono hbA.size)
  have b3 := b3.below' E6
  have bR := bR.below' E6
  have bt := bt.below' E6
  have hA := hA.below E6
  have hB := hB.below E6
  have h4 := h4.below E6
  clear E6 KS lt3 ltt
  generalize wc = W6 at *
  have HN := hide (show u1 * q * 2 < B9 ^ (L + 5) from mulB (i := L + 4) (j := 1) HMB.out (by decide))
  obtain ⟨a, ha⟩ : ∃ a, u1 * q * 2 = a := ⟨_, rfl⟩
  rw [ha] at HN HT hn
  clear ha
  have HA2 := hide (show a + v1 < B9 ^ (L + 6) from addB HN.out (upB HVL.out (by omega)))
  have HV2 := hide (show v1 * 2 < B9 ^ (L + 2) from mulB (i := L + 1) (j := 1) HVL.out (by decide))
  have HV0 := hide (show v1 * 2 ≠ 0 from by have := HV1.out; omega)
  have lt3 := b3.lt
  have ltt := bt.lt
  have ltn := bn.lt
  have KS : Hid (∀ w', Below W6.heap.size W6 w' → w'.cell? ⟨w.heap.size, 2, none⟩ = some (.slice B1 m1 d1) ∧ w'.cell? ⟨w4.heap.size, 0, none⟩ = some (.slice A4 n4 c4) ∧ w'.cell? ⟨g6, 0, none⟩ = some (.slice An nn cn)) := fun w' h =>
    ⟨(b3.below h lt3).at_ 2, (bt.below h ltt).at_ 0, (bn.below h ltn).at_ 0⟩
  have tn : Hid (∀ w', Below W6.heap.size W6 w' → Nt w' (L + 5) An nn cn a) := fun w' hb => (hn.below hb).nt HN.out
  go_wp2_with fail
  go_cut [7, 8, 9] from 20 to 33 (fun s7 _ _ wx => MadeN W6 T s7 wx ∧ Below W6.heap.size W6 wx)
  case first =>
    go_region_held3 (fun w' => w'.cell? ⟨w.heap.size, 2, none⟩ = some (.slice B1 m1 d1) ∧ w'.cell? ⟨w4.heap.size, 0, none⟩ = some (.slice A4 n4 c4) ∧ w'.cell? ⟨g6, 0, none⟩ = some (.slice An nn cn))
      (exact KS.out _ (by ((repeat (first | (with_reducible assumption) | (with_reducible exact Below.refl _ _) | (with_reducible refine Below.drewS ?_) | (with_reducible refine Below.allocS ?_ _) | (with_reducible refine Below.setS ?_ (by first | omega | (simp; omega)) _))); (first | done | fail))))
      (first
        | (go_at_call_of 51 (Value.slice An nn cn); (with_reducible refine (add_n (L := L + 5) (tn.out _ (by ((repeat (first | (with_reducible assumption) | (with_reducible exact Below.refl _ _) | (with_reducible refine Below.drewS ?_) | (with_reducible refine Below.allocS ?_ _) | (with_reducible refine Below.setS ?_ (by first | omega | (simp; omega)) _))); (first | done | fail)))) ((hB.below (by ((repeat (first | (with_reducible assumption) | (with_reducible exact Below.refl _ _) | (with_reducible refine Below.drewS ?_) | (with_reducible refine Below.allocS ?_ _) | (with_reducible refine Below.setS ?_ (by first | omega | (simp; omega)) _))); (first | done | fail)))).up (by omega)) (by omega) (a + v1) rfl).mono ?_); rintro e wa ⟨Aa, na, ca, rfl, ra, la, ma, hba⟩; have Ea : Below W6.heap.size W6 wa := Below.next (by ((repeat (first | (with_reducible assumption) | (with_reducible exact Below.refl _ _) | (with_reducible refine Below.drewS ?_) | (with_reducible refine Below.allocS ?_ _) | (with_reducible refine Below.setS ?_ (by first | omega | (simp; omega)) _))); (first | done | fail))) hba; have za := Ea.size; have ya := hba.size; (try simp at ya); have ha : Cn wa Aa na ca (a + v1) := ⟨ra, la, ma⟩; have ta : Hid (∀ w', Below wa.heap.size wa w' → Nt w' (L + 6) Aa na ca (a + v1)) := fun w' hb => (ha.below hb).nt HA2.out; clear ha ra la ma)
        | (go_at_call_of 52 (Value.slice B1 m1 d1); (with_reducible refine (mul_n (L := L + 1) ((hB.below (by ((repeat (first | (with_reducible assumption) | (with_reducible exact Below.refl _ _) | (with_reducible refine Below.drewS ?_) | (with_reducible refine Below.allocS ?_ _) | (with_reducible refine Below.setS ?_ (by first | omega | (simp; omega)) _))); (first | done | fail)))).up (by omega)) ((h4.below (by ((repeat (first | (with_reducible assumption) | (with_reducible exact Below.refl _ _) | (with_reducible refine Below.drewS ?_) | (with_reducible refine Below.allocS ?_ _) | (with_reducible refine Below.setS ?_ (by first | omega | (simp; omega)) _))); (first | done | fail)))).up (by omega)) (by omega) (v1 * 2) rfl).mono ?_); rintro e wb ⟨Ab, nb, cb, rfl, rb, lb, mb, hbb⟩; have Eb : Below W6.heap.size W6 wb := Below.next (by ((repeat (first | (with_reducible assumption) | (with_reducible exact Below.refl _ _) | (with_reducible refine Below.drewS ?_) | (with_reducible refine Below.allocS ?_ _) | (with_reducible refine Below.setS ?_ (by first | omega | (simp; omega)) _))); (first | done | fail))) hbb; have zb := Eb.size; have yb := hbb.size; (try simp at yb); have hb : Cn wb Ab nb cb (v1 * 2) := ⟨rb, lb, mb⟩; have tb : Hid (∀ w', Below wb.heap.size wb w' → Nt w' (L + 6) Ab nb cb (v1 * 2)) := fun w' hb2 => ((hb.below hb2).nt HV2.out).up (by omega); have tc : Hid (∀ w', Below wb.heap.size wb w' → Nt w' (L + 6) Aa na ca (a + v1)) := fun w' hb2 => (ta.out _ (Below.next (by ((repeat (first | (with_reducible assumption) | (with_reducible exact Below.refl _ _) | (with_reducible refine Below.drewS ?_) | (with_reducible refine Below.allocS ?_ _) | (with_reducible refine Below.setS ?_ (by first | omega | (simp; omega)) _))); (first | done | fail))) hbb)).below hb2; clear hb rb lb mb ta)
        | (go_at_call_of 42 (Value.slice Aa na ca); (with_reducible refine (((div_n (L := L + 6) (tc.out _ (by ((repeat (first | (with_reducible assumption) | (with_reducible exact Below.refl _ _) | (with_reducible refine Below.drewS ?_) | (with_reducible refine Below.allocS ?_ _) | (with_reducible refine Below.setS ?_ (by first | omega | (simp; omega)) _))); (first | done | fail)))) (tb.out _ (by ((repeat (first | (with_reducible assumption) | (with_reducible exact Below.refl _ _) | (with_reducible refine Below.drewS ?_) | (with_reducible refine Below.allocS ?_ _) | (with_reducible refine Below.setS ?_ (by first | omega | (simp; omega)) _))); (first | done | fail)))) (by omega) HV0.out T _ HT.out rfl).mono fun _ _ h => h.fst)).mono ?_); rintro e wq ⟨Aq, nq, cq, Ar, nr, cr, rfl, hq, hbq⟩; have Eq : Below W6.heap.size W6 wq := Below.next (by ((repeat (first | (with_reducible assumption) | (with_reducible exact Below.refl _ _) | (with_reducible refine Below.drewS ?_) | (with_reducible refine Below.allocS ?_ _) | (with_reducible refine Below.setS ?_ (by first | omega | (simp; omega)) _))); (first | done | fail))) hbq; have zq := Eq.size; have yq := hbq.size; (try simp at yq); (try (have q0_0 : W6.heap.size < wq.heap.size := by omega)); (try (have q0_1 : W6.heap.size + 1 < wq.heap.size := by omega)); (try (have q1_0 : wa.heap.size < wq.heap.size := by omega)); (try (have q1_1 : wa.heap.size + 1 < wq.heap.size := by omega)); (try (have q2_0 : wb.heap.size < wq.heap.size := by omega)); (try (have q2_1 : wb.heap.size + 1 < wq.heap.size := by omega)); (try (have e0_0 : Box wq (W6.heap.size) #[.slice none 0 0] 24 := (by ((repeat (first | (with_reducible exact Box.newE _ _ _ (by first | rfl | (simp; (first | done | fail)))) | (with_reducible refine Box.drewS ?_) | (with_reducible refine Box.alloc ?_ _) | (with_reducible refine Box.below' ?_ hbq) | (with_reducible refine Box.below' ?_ hbb) | (with_reducible refine Box.below' ?_ hba))); (first | done | fail))); have le0_0 := Box.lt e0_0; have ke0_0 := Box.cell e0_0; have fe0_0 := Box.frozen e0_0 0)); (try (have e0_1 : Box wq (W6.heap.size + 1) #[.slice none 0 0] 24 := (by ((repeat (first | (with_reducible exact Box.newE _ _ _ (by first | rfl | (simp; (first | done | fail)))) | (with_reducible refine Box.drewS ?_) | (with_reducible refine Box.alloc ?_ _) | (with_reducible refine Box.below' ?_ hbq) | (with_reducible refine Box.below' ?_ hbb) | (with_reducible refine Box.below' ?_ hba))); (first | done | fail))); have le0_1 := Box.lt e0_1; have ke0_1 := Box.cell e0_1; have fe0_1 := Box.frozen e0_1 0)); (try (have e1_0 : Box wq (wa.heap.size) #[.slice none 0 0] 24 := (by ((repeat (first | (with_reducible exact Box.newE _ _ _ (by first | rfl | (simp; (first | done | fail)))) | (with_reducible refine Box.drewS ?_) | (with_reducible refine Box.alloc ?_ _) | (with_reducible refine Box.below' ?_ hbq) | (with_reducible refine Box.below' ?_ hbb) | (with_reducible refine Box.below' ?_ hba))); (first | done | fail))); have le1_0 := Box.lt e1_0; have ke1_0 := Box.cell e1_0; have fe1_0 := Box.frozen e1_0 0)); (try (have e1_1 : Box wq (wa.heap.size + 1) #[.slice none 0 0] 24 := (by ((repeat (first | (with_reducible exact Box.newE _ _ _ (by first | rfl | (simp; (first | done | fail)))) | (with_reducible refine Box.drewS ?_) | (with_reducible refine Box.alloc ?_ _) | (with_reducible refine Box.below' ?_ hbq) | (with_reducible refine Box.below' ?_ hbb) | (with_reducible refine Box.below' ?_ hba))); (first | done | fail))); have le1_1 := Box.lt e1_1; have ke1_1 := Box.cell e1_1; have fe1_1 := Box.frozen e1_1 0)); (try (have e2_0 : Box wq (wb.heap.size) #[.slice none 0 0] 24 := (by ((repeat (first | (with_reducible exact Box.newE _ _ _ (by first | rfl | (simp; (first | done | fail)))) | (with_reducible refine Box.drewS ?_) | (with_reducible refine Box.alloc ?_ _) | (with_reducible refine Box.below' ?_ hbq) | (with_reducible refine Box.below' ?_ hbb) | (with_reducible refine Box.below' ?_ hba))); (first | done | fail))); have le2_0 := Box.lt e2_0; have ke2_0 := Box.cell e2_0; have fe2_0 := Box.frozen e2_0 0)); (try (have e2_1 : Box wq (wb.heap.size + 1) #[.slice none 0 0] 24 := (by ((repeat (first | (with_reducible exact Box.newE _ _ _ (by first | rfl | (simp; (first | done | fail)))) | (with_reducible refine Box.drewS ?_) | (with_reducible refine Box.alloc ?_ _) | (with_reducible refine Box.below' ?_ hbq) | (with_reducible refine Box.below' ?_ hbb) | (with_reducible refine Box.below' ?_ hba))); (first | done | fail))); have le2_1 := Box.lt e2_1; have ke2_1 := Box.cell e2_1; have fe2_1 := Box.frozen e2_1 0))))
    all_goals
      go_wp2_with fail
      go_meet
      exact ⟨⟨_, Aq, nq, cq, rfl, (by first | omega | (simp; omega)), (by ((repeat (first | (with_reducible assumption) | (with_reducible exact Box.newE _ _ _ (by first | rfl | (simp; (first | done | fail)))) | (with_reducible refine Box.drewS ?_) | (with_reducible refine Box.alloc ?_ _) | (with_reducible refine Box.put1z ?_) | (with_reducible refine Box.put3z ?_) | (with_reducible refine Box.far3 ?_ (by first | omega | (simp; omega)) _ _ _) | (with_reducible refine Box.far1 ?_ (by first | omega | (simp; omega)) _))); (first | done | fail))), (by ((repeat (first | (with_reducible exact hq) | (with_reducible refine Cn.allocS ?_ _) | (with_reducible refine Cn.far1z ?_ (by ((repeat (first | (with_reducible assumption) | (with_reducible exact Box.newE _ _ _ (by first | rfl | (simp; (first | done | fail)))) | (with_reducible refine Box.drewS ?_) | (with_reducible refine Box.alloc ?_ _) | (with_reducible refine Box.put1z ?_) | (with_reducible refine Box.put3z ?_) | (with_reducible refine Box.far3 ?_ (by first | omega | (simp; omega)) _ _ _) | (with_reducible refine Box.far1 ?_ (by first | omega | (simp; omega)) _))); (first | done | fail))) _))); (first | done | fail)))⟩, (by ((repeat (first | (with_reducible assumption) | (with_reducible exact Below.refl _ _) | (with_reducible refine Below.drewS ?_) | (with_reducible refine Below.allocS ?_ _) | (with_reducible refine Below.setS ?_ (by first | omega | (simp; omega)) _))); (first | done | fail)))⟩
  case rest =>
  obtain ⟨⟨g7, Aq, nq, cq, rfl, hg7, bq, hq⟩, E6⟩ := hcut
  have hbA := hbA.trans (E6.mono hbA.size)
  have bR := bR.below' E6
  clear E6 KS lt3 ltt ltn b3 bt bn hA hB h4 hn tn
  have k7 := bq.cell
  have g0 := bR.cell
  have f0 := bR.frozen 0
  have ltR := bR.lt
  have lt7 := bq.lt
  generalize wc = W7 at *
  go_wp2_with fail
  have b3 := bR.put (.slice Aq nq cq)
  have h3 := hq.far (i := 0) bR noInt1 (.slice Aq nq cq)
  have hbZ : Below w.heap.size w (W7.setCell ⟨w.heap.size + 1, 0, none⟩ (.slice Aq nq cq)) := hbA.setCell (by show w.heap.size ≤ w.heap.size + 1; omega) _
  have k0 := b3.cell
  refine bodyPost_ret (v := .agg #[.slice Aq nq cq]) (by simp [results, Tryz.results58, go_sem, k0]) rfl ?_
  exact ⟨Aq, nq, cq, rfl, h3.1, h3.2.1, h3.2.2, hbZ⟩
end Go.Proofs.YtoeknkakdoemfaaGreatDoor

/- A natural, a fraction as an argument, opened. -/
namespace Go.Proofs.YtoeknkakdoemfaaGreatDoor
open Go Go.ChangeShapes Go.WideShapes Go.ChangeAt Go.RowKit

theorem laidOut : laidOutB Tryz.prog = true := by kernel_rfl
theorem cellsNat : Tryz.prog.cellsOf 24 = 1 := by kernel_rfl
theorem cellsSl : Tryz.prog.cellsOf 22 = 1 := by kernel_rfl
theorem cellsU32 : Tryz.prog.cellsOf 71 = 1 := by kernel_rfl

theorem spot_none {w : World} {a : Addr} {u : Value} (h : w.cell? a = some u) : a = ⟨a.block, a.off, none⟩ := by
  obtain ⟨b, o, s⟩ := a
  cases s with
  | none => rfl
  | some k =>
    unfold World.cell? at h
    split at h
    · simp at h
    · cases h

theorem open_limbs {H : Type} {enc : TypeId × Value → H} {W : World} {c0 : Value} {fuel : Nat} {y0 : DataW H × List MemPlace} (h0 : DataW.trod enc Tryz.prog W 0 (fun _ => true) true fuel 22 [c0] = some y0) :
    ∃ (A : Option Addr) (n c : Nat) (xs : List Nat), c0 = .slice A n c ∧ RL W .u32 A n xs ∧ n ≤ c ∧ c ≤ maxLen ∧ ∀ x ∈ xs, x < 4294967296 := by
  rcases open_ints Tryz.underlying22 Tryz.underlying71 cellsU32 h0 with ⟨hc, _⟩ | ⟨a, len, cap, zs, hc, _, hlc, hcm, hzl, _, hcell, hwf⟩
  · injection hc with hc _
    subst hc
    exact ⟨none, 0, 0, [], rfl, RL.nil_, Nat.le_refl _, by simp [maxLen], by simp⟩
  · injection hc with hc _
    subst hc
    simp only [if_true] at hzl
    have hb : ∀ j (hj : j < zs.length), 0 ≤ zs[j] ∧ zs[j] ≤ 4294967295 := by
      intro j hj
      have := hwf zs[j] (List.getElem_mem hj)
      simp [Lit.wf, IntKind.min, IntKind.max, IntKind.signed, IntKind.bits] at this
      omega
    refine ⟨some a, len, cap, (zs.take len).map Int.toNat, rfl, ⟨by simp; omega, fun hpos => ?_⟩, hlc, hcm, ?_⟩
    · have h00 := hcell 0 (by omega)
      have ea : a = ⟨a.block, a.off, none⟩ := spot_none (w := W) (a := a) (by simpa [Addr.add] using h00)
      refine ⟨a.block, a.off, by rw [← ea], fun j x hxj => ?_⟩
      rw [List.getElem?_map, Option.map_eq_some_iff] at hxj
      obtain ⟨z, hz, rfl⟩ := hxj
      have hj : j < len := by
        have := (List.getElem?_eq_some_iff.1 hz).1
        simp at this
        omega
      have hcj := hcell j (by omega)
      have hzj : zs[j]? = some z := by
        rw [List.getElem?_take_of_lt hj] at hz; exact hz
      obtain ⟨hj2, e⟩ := List.getElem?_eq_some_iff.1 hzj
      have hnn := (hb j hj2).1
      rw [e] at hnn
      have ej : a.add j = ⟨a.block, a.off + j, none⟩ := by
        rw [ea]
        unfold Addr.add
        split
        · rename_i h; subst h; rfl
        · rfl
      rw [← ej, hcj, List.getD, hzj]
      show some (Value.int .u32 z) = some (Value.int .u32 ((z.toNat : Nat) : Int))
      rw [Int.toNat_of_nonneg hnn]
    · intro x hxm
      rw [List.mem_map] at hxm
      obtain ⟨z, hz, rfl⟩ := hxm
      obtain ⟨j, hj, e⟩ := List.getElem_of_mem (List.mem_of_mem_take hz)
      have := hb j hj
      rw [e] at this
      omega
set_option maxRecDepth 100000 in
theorem open_natural {H : Type} {enc : TypeId × Value → H} {W : World} {c0 : Value} {fuel : Nat} {y0 : DataW H × List MemPlace} (h : DataW.trod enc Tryz.prog W 0 (fun _ => true) true fuel 24 [c0] = some y0) :
    ∃ (A : Option Addr) (n c : Nat) (xs : List Nat), c0 = .slice A n c ∧ RL W .u32 A n xs ∧ n ≤ c ∧ c ≤ maxLen ∧ ∀ x ∈ xs, x < 4294967296 := by
  obtain ⟨y0, m, hx, hl, h0⟩ := trod_struct1 Tryz.underlying24 h
  simp only [List.drop_zero, cellsSl, List.take_succ_cons, List.take_zero] at h0
  exact open_limbs h0
theorem cellsFr : Tryz.prog.cellsOf 26 = 3 := by kernel_rfl
theorem cellsBo : Tryz.prog.cellsOf 4 = 1 := by kernel_rfl
set_option maxRecDepth 100000 in
theorem open_frac {H : Type} {enc : TypeId × Value → H} {W : World} {base : Nat} {v : Value} {d : DataW H} {p : List MemPlace} (hv : Value.okWide Tryz.prog W .any base 26 v)
    (h : DataW.Trod enc Tryz.prog W 0 (fun _ => true) true 26 v d p) :
    ∃ (q : Bool) (A : Option Addr) (n c : Nat) (xs : List Nat) (B : Option Addr) (m e : Nat) (ys : List Nat), v = .agg #[.bool q, .slice A n c, .slice B m e] ∧ RL W .u32 A n xs ∧ n ≤ c ∧ c ≤ maxLen ∧ (∀ x ∈ xs, x < 4294967296) ∧ RL W .u32 B m ys ∧ m ≤ e ∧ e ≤ maxLen ∧ ∀ x ∈ ys, x < 4294967296 := by
  obtain ⟨cs, rfl, hsz⟩ := okWide_struct Tryz.underlying26 hv
  obtain ⟨fuel, hf⟩ := h
  obtain ⟨xs, n, _, hx, hl, hlen, hall⟩ := DataW.trod_struct Tryz.underlying26 hf
  rw [cellsFr] at hsz
  obtain ⟨c0, c1, c2, rfl⟩ : ∃ c0 c1 c2, cs = #[c0, c1, c2] := by
    match cs, hsz with
    | ⟨[c0, c1, c2]⟩, _ => exact ⟨c0, c1, c2, rfl⟩
  match xs, hlen with
  | [y0, y1, y2], _ =>
    have h0 := hall 0 _ rfl
    have h1 := hall 1 _ rfl
    have h2 := hall 2 _ rfl
    simp only [Value.cells, List.getElem?_cons_zero, List.getElem?_cons_succ] at h0 h1 h2
    obtain ⟨q, hq, -⟩ := DataW.trod_bool Tryz.underlying4 h0
    obtain ⟨A, n, c, us, rfl, r1, r2, r3, r4⟩ := open_natural h1
    obtain ⟨B, m, e, vs, rfl, s1, s2, s3, s4⟩ := open_natural h2
    have hq2 : c0 = .bool q := by
      have h5 := congrArg List.head? hq
      simpa [show Tryz.prog.cellsOf 4 = 1 from cellsBo] using h5
    subst hq2
    exact ⟨q, A, n, c, us, B, m, e, vs, rfl, r1, r2, r3, r4, s1, s2, s3, s4⟩
/-- an opened fraction, by its number -/
theorem frac_fr {W : World} {q : Bool} {A : Option Addr} {n c : Nat} {xs : List Nat} {B : Option Addr} {m e : Nat} {ys : List Nat} (r1 : RL W .u32 A n xs) (r2 : n ≤ c) (r3 : c ≤ maxLen) (r4 : ∀ x ∈ xs, x < 4294967296) (s1 : RL W .u32 B m ys) (s2 : m ≤ e) (s3 : e ≤ maxLen) (s4 : ∀ x ∈ ys, x < 4294967296) (L : Nat) (h1 : n ≤ L) (h2 : m ≤ L) :
    Fr W L q A n c B m e (qv q (val B9 xs) (val B9 ys)) := ⟨_, _, ⟨xs, r1, r2, r3, h1, r4, rfl⟩, ⟨ys, s1, s2, s3, h2, s4, rfl⟩, rfl⟩
end Go.Proofs.YtoeknkakdoemfaaGreatDoor

/- The contract of fraction.Decimal. -/
namespace Go.Proofs.YtoeknkakdoemfaaGreatDoor
open Go Go.RowKit

/-- zeros ahead, so that there are more than k digits -/
def dpad (k : Nat) (l : List Nat) : List Nat := List.replicate (k + 1 - l.length) 48 ++ l
/-- a point ahead of the last k digits -/
def dpoint (k : Nat) (l : List Nat) : List Nat := if k = 0 then l else l.take (l.length - k) ++ (46 :: l.drop (l.length - k))
/-- decimal notation -/
def dtext (p : Bool) (z k : Nat) : List Nat := if p = true ∧ z ≠ 0 then 45 :: dpoint k (dpad k (asc z)) else dpoint k (dpad k (asc z))
theorem repeatL_one (c : Nat) : (Lib.repeatL [48] c).map UInt8.toNat = List.replicate c 48 := by
  induction c with
  | zero => rfl
  | succ c ih =>
    show UInt8.toNat 48 :: (Lib.repeatL [48] c).map UInt8.toNat = _
    rw [ih]; rfl
theorem dpad_len (k : Nat) (l : List Nat) : k < (dpad k l).length := by
  unfold dpad
  rw [List.length_append, List.length_replicate]
  omega
theorem nd_size {T L : Nat} (h : T < B9 ^ (L + 2)) (hL : L ≤ 10000) : (asc T).length ≤ 1000000 := by
  have h1 := size_le h hL
  have h2 : (strN (asc T)).size = (asc T).length := by simp [strN, ByteArray.size]
  omega
theorem dec_point {k pt : Nat} {D : ByteArray} {l : List Nat} (hk : k ≠ 0) (hD : bytesOf D = l) (hs : D.size = pt + k) : bytesOf (D.extract 0 pt ++ ⟨#[46]⟩ ++ D.extract pt D.size) = dpoint k l := by
  have hl : l.length = pt + k := by rw [← hD, bytesOf_length, hs]
  rw [bytesOf_append, bytesOf_append, bytesOf_extract, bytesOf_extract, hD, ← bytesOf_length D, hD, List.take_length, List.drop_zero]
  unfold dpoint
  rw [if_neg hk, hl, Nat.add_sub_cancel, List.append_assoc]
  rfl
set_option maxHeartbeats 4000000 in
theorem fdecimal_any (L : Nat) (h1L : 1 ≤ L) (hL : L ≤ 5000) (p : Bool) (A : Option Addr) (n c u : Nat) (B : Option Addr) (m d v : Nat) (k : Nat) (hk : k ≤ 20) (w : World) (hA : Nt w L A n c u) (hB : Nt w L B m d v) (hTab : Tab w) (T : Nat) (hT : rnd u v k = T) (hTL : T < B9 ^ (L + 5)) (S : ByteArray) (hS : bytesOf S = dtext p T k) :
    Calls Tryz.prog 24 #[.agg #[.bool p, .slice A n c, .slice B m d], .int .i64 (k : Int)] w fun e w' => e = .returned (.tuple #[.string S, .int .i64 0]) ∧ Below w.heap.size w w' := by
  have HT := hide hT
  have HTL := hide hTL
  have HS := hide hS
  have HTab := hide hTab
  have d1 : decide ((k : Int) < 0) = false := by simp
  have d2 : decide ((20 : Int) < (k : Int)) = false := by simp; omega
  clear hT hTL hS
  go_enter Tryz.func24, Tryz.ntmps24
  go_wp2_with fail
  generalize hW : w.alloc _ = W
  obtain ⟨hbW, b0, -⟩ := boxesA1 hW
  clear hW
  refine (rounded_any L h1L hL p A n c u B m d v k hk _ (hA.below hbW) (hB.below hbW) T HT.out).mono fun e w1 h => ?_
  obtain ⟨A1, n1, c1, rfl, h1, hb1⟩ := GivesN.cn h
  clear h
  have hbA := hbW.trans (hb1.mono hbW.size)
  have b0 := b0.below' hb1
  clear hb1 hbW hA hB
  go_wp2_with fail
  generalize hW : w1.alloc _ = W1
  obtain ⟨hb, b6, -⟩ := boxesA1 hW
  clear hW
  have hbA := hbA.trans (hb.mono hbA.size)
  have b0 := b0.below' hb
  have h1 := h1.below hb
  clear hb
  have ln := len_le h1.1.len HTL.out
  obtain ⟨s, hs⟩ : ∃ s, strN (asc T) = s := ⟨_, rfl⟩
  have hsb : bytesOf s = asc T := by rw [← hs]; exact bytesOf_strN (asc_digits T).lt256
  have hsl : s.size ≤ 1000000 := by rw [← bytesOf_length, hsb]; exact nd_size (L := L + 3) HTL.out (by omega)
  have HSB := hide hsb
  have HSS := hide hs
  clear hs hsb
  refine (text_g A1 n1 c1 _ _ h1.1 h1.2.1 h1.2.2 (by omega) (dig_u32 T) (HTab.out.below hbA) T (vd T) s HSS.out).mono ?_
  rintro e w2 ⟨rfl, hb2⟩
  have hbA := hbA.trans (hb2.mono hbA.size)
  have b0 := b0.below' hb2
  have b6 := b6.below' hb2
  have h1 := h1.below hb2
  clear hb2
  by_cases hm : s.size < k + 1
  · obtain ⟨z, hz⟩ : ∃ z, k + 1 - s.size = z := ⟨_, rfl⟩
    have hzi : (k : Int) + 1 - (s.size : Int) = (z : Int) := by omega
    have d3 : decide (0 < (k : Int) + 1 - (s.size : Int)) = true := by simp; omega
    have hk0 : k ≠ 0 := by
      have h1 : 0 < s.size := by rw [← bytesOf_length, HSB.out]; exact asc_pos T
      omega
    have d4 : decide (0 < (k : Int)) = true := by simp; omega
    go_wp2_with fail
    refine (Tryz.strings_Repeat ⟨#[48]⟩ z _ (by omega) (by show 1 * z ≤ _; omega)).mono ?_
    rintro e w3 ⟨rfl, hb3⟩
    have hbA := hbA.trans (hb3.mono hbA.size)
    have b0 := b0.below' hb3
    have b6 := b6.below' hb3
    have h1 := h1.below hb3
    clear hb3 hzi d3
    generalize hq : (ByteArray.mk (Lib.repeatL _ z).toArray) = q
    have hqb : bytesOf q = List.replicate z 48 := by rw [← hq]; exact repeatL_one z
    have hql : q.size = z := by rw [← bytesOf_length, hqb, List.length_replicate]
    have hcs : q.size + s.size ≤ 2000000 := by omega
    have HQB := hide hqb
    have HZ := hide hz
    have HQL := hide hql
    clear hq hqb hz hql
    go_wp2_with fail
    obtain ⟨pt, hp⟩ : ∃ pt, q.size + s.size - k = pt := ⟨_, rfl⟩
    have hpt : (q.size : Int) + (s.size : Int) - (k : Int) = (pt : Int) := by have := HQL.out; have := HZ.out; omega
    rw [hpt]
    generalize hD : q ++ s = D
    have hDl : D.size = pt + k := by rw [← hD, ByteArray.size_append]; have := HQL.out; have := HZ.out; omega
    have hpl : pt ≤ D.size := by omega
    have HP := hide hp
    have HD := hide (show bytesOf D = dpad k (asc T) from by
      rw [← hD, bytesOf_append, HQB.out, HSB.out]
      unfold dpad
      rw [← HSB.out, bytesOf_length, HZ.out])
    have HDL := hide hDl
    have e1 : pt + 1 ≤ 3000000 := by omega
    have e2 : pt + 1 + (D.size - pt) ≤ 3000000 := by omega
    clear hp hpt hD hcs hDl
    go_region
    generalize hX : D.extract 0 pt ++ _ ++ D.extract pt D.size = X
    have hXb : bytesOf X = dpoint k (dpad k (asc T)) := by
      rw [← hX]
      exact dec_point hk0 HD.out HDL.out
    have hXl : X.size ≤ 9000000 := by
      rw [← hX, ByteArray.size_append, ByteArray.size_append]
      have h1 : (D.extract 0 pt).size ≤ D.size := by rw [ByteArray.size_extract]; omega
      have h2 : (D.extract pt D.size).size ≤ D.size := by rw [ByteArray.size_extract]; omega
      have h3 : ∀ b : UInt8, (⟨#[b]⟩ : ByteArray).size = 1 := fun _ => rfl
      have h4 := HDL.out
      rw [h3]
      omega
    have HX := hide hXb
    clear hX hXb e1 e2 hpl
    have k0 : w3.cell? ⟨w.heap.size, 0, none⟩ = some (.bool p) := b0.at_ 0
    have k6 : w3.cell? ⟨w1.heap.size, 0, none⟩ = some (.slice A1 n1 c1) := b6.at_ 0
    have f1 : 1 + X.size ≤ 9000001 := by omega
    cases p
    · obtain rfl : X = S := bytesOf_inj (by rw [HX.out, HS.out]; unfold dtext; rw [if_neg (by simp)])
      go_wp2_with fail
      refine bodyPost_ret (v := .tuple #[.string X, .int .i64 0]) (by simp [results, Tryz.results24, go_sem]) rfl ?_
      exact ⟨rfl, (by ((repeat (first | (with_reducible assumption) | (with_reducible exact Below.refl _ _) | (with_reducible refine Below.drewS ?_) | (with_reducible refine Below.allocS ?_ _) | (with_reducible refine Below.setS ?_ (by first | omega | (simp; omega)) _))); (first | done | fail)))⟩
    · go_wp2_with fail
      by_cases hT0 : T = 0
      · refine (isZero_any (L + 5) (by omega) A1 n1 c1 T _ (Cn.nt (Cn.below h1 (by ((repeat (first | (with_reducible assumption) | (with_reducible exact Below.refl _ _) | (with_reducible refine Below.drewS ?_) | (with_reducible refine Below.allocS ?_ _) | (with_reducible refine Below.setS ?_ (by first | omega | (simp; omega)) _))); (first | done | fail)))) HTL.out) true (by simp [hT0])).mono ?_
        rintro e w9 ⟨rfl, hb9⟩
        have hbZ := hbA.trans ((Below.next (by ((repeat (first | (with_reducible assumption) | (with_reducible exact Below.refl _ _) | (with_reducible refine Below.drewS ?_) | (with_reducible refine Below.allocS ?_ _) | (with_reducible refine Below.setS ?_ (by first | omega | (simp; omega)) _))); (first | done | fail))) hb9).mono hbA.size)
        obtain rfl : X = S := bytesOf_inj (by rw [HX.out, HS.out]; unfold dtext; rw [if_neg (by simp [hT0])])
        clear hb9 hT0 k0 k6
        go_wp2
        refine bodyPost_ret (v := .tuple #[.string X, .int .i64 0]) (by simp [results, Tryz.results24, go_sem]) rfl ?_
        exact ⟨rfl, hbZ⟩
      · refine (isZero_any (L + 5) (by omega) A1 n1 c1 T _ (Cn.nt (Cn.below h1 (by ((repeat (first | (with_reducible assumption) | (with_reducible exact Below.refl _ _) | (with_reducible refine Below.drewS ?_) | (with_reducible refine Below.allocS ?_ _) | (with_reducible refine Below.setS ?_ (by first | omega | (simp; omega)) _))); (first | done | fail)))) HTL.out) false (by simp [hT0])).mono ?_
        rintro e w9 ⟨rfl, hb9⟩
        have hbZ := hbA.trans ((Below.next (by ((repeat (first | (with_reducible assumption) | (with_reducible exact Below.refl _ _) | (with_reducible refine Below.drewS ?_) | (with_reducible refine Below.allocS ?_ _) | (with_reducible refine Below.setS ?_ (by first | omega | (simp; omega)) _))); (first | done | fail))) hb9).mono hbA.size)
        have hXS : (⟨#[45]⟩ : ByteArray) ++ X = S := bytesOf_inj (by
          rw [bytesOf_append, HX.out, HS.out]; unfold dtext; rw [if_pos ⟨rfl, hT0⟩]; rfl)
        have HXS := hide hXS
        clear hb9 hT0 k0 k6 hXS
        go_wp2
        refine bodyPost_ret (v := .tuple #[.string ((⟨#[45]⟩ : ByteArray) ++ X), .int .i64 0]) (by simp [results, Tryz.results24, go_sem]) rfl ?_
        exact ⟨congrArg (fun t => Ending.returned (.tuple #[.string t, .int .i64 0])) HXS.out, hbZ⟩
  · have hzi : decide (0 < (k : Int) + 1 - (s.size : Int)) = false := by simp; omega
    have hdp : dpad k (asc T) = asc T := by
      unfold dpad
      rw [show k + 1 - (asc T).length = 0 by rw [← HSB.out, bytesOf_length]; omega]
      rfl
    by_cases hk0 : k = 0
    · have d4 : decide (0 < (k : Int)) = false := by simp; omega
      have HX := hide (show bytesOf s = dpoint k (dpad k (asc T)) from by rw [hdp, HSB.out]; unfold dpoint; rw [if_pos hk0])
      clear hdp
      have k0 : w2.cell? ⟨w.heap.size, 0, none⟩ = some (.bool p) := b0.at_ 0
      have k6 : w2.cell? ⟨w1.heap.size, 0, none⟩ = some (.slice A1 n1 c1) := b6.at_ 0
      have f1 : 1 + s.size ≤ 9000001 := by omega
      cases p
      · obtain rfl : s = S := bytesOf_inj (by rw [HX.out, HS.out]; unfold dtext; rw [if_neg (by simp)])
        go_wp2_with fail
        refine bodyPost_ret (v := .tuple #[.string s, .int .i64 0]) (by simp [results, Tryz.results24, go_sem]) rfl ?_
        exact ⟨rfl, (by ((repeat (first | (with_reducible assumption) | (with_reducible exact Below.refl _ _) | (with_reducible refine Below.drewS ?_) | (with_reducible refine Below.allocS ?_ _) | (with_reducible refine Below.setS ?_ (by first | omega | (simp; omega)) _))); (first | done | fail)))⟩
      · go_wp2_with fail
        by_cases hT0 : T = 0
        · refine (isZero_any (L + 5) (by omega) A1 n1 c1 T _ (Cn.nt (Cn.below h1 (by ((repeat (first | (with_reducible assumption) | (with_reducible exact Below.refl _ _) | (with_reducible refine Below.drewS ?_) | (with_reducible refine Below.allocS ?_ _) | (with_reducible refine Below.setS ?_ (by first | omega | (simp; omega)) _))); (first | done | fail)))) HTL.out) true (by simp [hT0])).mono ?_
          rintro e w9 ⟨rfl, hb9⟩
          have hbZ := hbA.trans ((Below.next (by ((repeat (first | (with_reducible assumption) | (with_reducible exact Below.refl _ _) | (with_reducible refine Below.drewS ?_) | (with_reducible refine Below.allocS ?_ _) | (with_reducible refine Below.setS ?_ (by first | omega | (simp; omega)) _))); (first | done | fail))) hb9).mono hbA.size)
          obtain rfl : s = S := bytesOf_inj (by rw [HX.out, HS.out]; unfold dtext; rw [if_neg (by simp [hT0])])
          clear hb9 hT0 k0 k6
          go_wp2
          refine bodyPost_ret (v := .tuple #[.string s, .int .i64 0]) (by simp [results, Tryz.results24, go_sem]) rfl ?_
          exact ⟨rfl, hbZ⟩
        · refine (isZero_any (L + 5) (by omega) A1 n1 c1 T _ (Cn.nt (Cn.below h1 (by ((repeat (first | (with_reducible assumption) | (with_reducible exact Below.refl _ _) | (with_reducible refine Below.drewS ?_) | (with_reducible refine Below.allocS ?_ _) | (with_reducible refine Below.setS ?_ (by first | omega | (simp; omega)) _))); (first | done | fail)))) HTL.out) false (by simp [hT0])).mono ?_
          rintro e w9 ⟨rfl, hb9⟩
          have hbZ := hbA.trans ((Below.next (by ((repeat (first | (with_reducible assumption) | (with_reducible exact Below.refl _ _) | (with_reducible refine Below.drewS ?_) | (with_reducible refine Below.allocS ?_ _) | (with_reducible refine Below.setS ?_ (by first | omega | (simp; omega)) _))); (first | done | fail))) hb9).mono hbA.size)
          have hXS : (⟨#[45]⟩ : ByteArray) ++ s = S := bytesOf_inj (by
            rw [bytesOf_append, HX.out, HS.out]; unfold dtext; rw [if_pos ⟨rfl, hT0⟩]; rfl)
          have HXS := hide hXS
          clear hb9 hT0 k0 k6 hXS
          go_wp2
          refine bodyPost_ret (v := .tuple #[.string ((⟨#[45]⟩ : ByteArray) ++ s), .int .i64 0]) (by simp [results, Tryz.results24, go_sem]) rfl ?_
          exact ⟨congrArg (fun t => Ending.returned (.tuple #[.string t, .int .i64 0])) HXS.out, hbZ⟩
    · have d4 : decide (0 < (k : Int)) = true := by simp; omega
      go_wp2_with fail
      obtain ⟨pt, hp⟩ : ∃ pt, s.size - k = pt := ⟨_, rfl⟩
      have hpt : (s.size : Int) - (k : Int) = (pt : Int) := by omega
      rw [hpt]
      have hDl : s.size = pt + k := by omega
      have hpl : pt ≤ s.size := by omega
      have HD := hide (show bytesOf s = dpad k (asc T) from by rw [hdp]; exact HSB.out)
      have HDL := hide hDl
      have e1 : pt + 1 ≤ 3000000 := by omega
      have e2 : pt + 1 + (s.size - pt) ≤ 3000000 := by omega
      clear hp hpt hDl hdp
      go_region
      generalize hX : s.extract 0 pt ++ _ ++ s.extract pt s.size = X
      have hXb : bytesOf X = dpoint k (dpad k (asc T)) := by
        rw [← hX]
        exact dec_point hk0 HD.out HDL.out
      have hXl : X.size ≤ 9000000 := by
        rw [← hX, ByteArray.size_append, ByteArray.size_append]
        have h1 : (s.extract 0 pt).size ≤ s.size := by rw [ByteArray.size_extract]; omega
        have h2 : (s.extract pt s.size).size ≤ s.size := by rw [ByteArray.size_extract]; omega
        have h3 : ∀ b : UInt8, (⟨#[b]⟩ : ByteArray).size = 1 := fun _ => rfl
        have h4 := HDL.out
        rw [h3]
        omega
      have HX := hide hXb
      clear hX hXb e1 e2 hpl
      have k0 : w2.cell? ⟨w.heap.size, 0, none⟩ = some (.bool p) := b0.at_ 0
      have k6 : w2.cell? ⟨w1.heap.size, 0, none⟩ = some (.slice A1 n1 c1) := b6.at_ 0
      have f1 : 1 + X.size ≤ 9000001 := by omega
      cases p
      · obtain rfl : X = S := bytesOf_inj (by rw [HX.out, HS.out]; unfold dtext; rw [if_neg (by simp)])
        go_wp2_with fail
        refine bodyPost_ret (v := .tuple #[.string X, .int .i64 0]) (by simp [results, Tryz.results24, go_sem]) rfl ?_
        exact ⟨rfl, (by ((repeat (first | (with_reducible assumption) | (with_reducible exact Below.refl _ _) | (with_reducible refine Below.drewS ?_) | (with_reducible refine Below.allocS ?_ _) | (with_reducible refine Below.setS ?_ (by first | omega | (simp; omega)) _))); (first | done | fail)))⟩
      · go_wp2_with fail
        by_cases hT0 : T = 0
        · refine (isZero_any (L + 5) (by omega) A1 n1 c1 T _ (Cn.nt (Cn.below h1 (by ((repeat (first | (with_reducible assumption) | (with_reducible exact Below.refl _ _) | (with_reducible refine Below.drewS ?_) | (with_reducible refine Below.allocS ?_ _) | (with_reducible refine Below.setS ?_ (by first | omega | (simp; omega)) _))); (first | done | fail)))) HTL.out) true (by simp [hT0])).mono ?_
          rintro e w9 ⟨rfl, hb9⟩
          have hbZ := hbA.trans ((Below.next (by ((repeat (first | (with_reducible assumption) | (with_reducible exact Below.refl _ _) | (with_reducible refine Below.drewS ?_) | (with_reducible refine Below.allocS ?_ _) | (with_reducible refine Below.setS ?_ (by first | omega | (simp; omega)) _))); (first | done | fail))) hb9).mono hbA.size)
          obtain rfl : X = S := bytesOf_inj (by rw [HX.out, HS.out]; unfold dtext; rw [if_neg (by simp [hT0])])
          clear hb9 hT0 k0 k6
          go_wp2
          refine bodyPost_ret (v := .tuple #[.string X, .int .i64 0]) (by simp [results, Tryz.results24, go_sem]) rfl ?_
          exact ⟨rfl, hbZ⟩
        · refine (isZero_any (L + 5) (by omega) A1 n1 c1 T _ (Cn.nt (Cn.below h1 (by ((repeat (first | (with_reducible assumption) | (with_reducible exact Below.refl _ _) | (with_reducible refine Below.drewS ?_) | (with_reducible refine Below.allocS ?_ _) | (with_reducible refine Below.setS ?_ (by first | omega | (simp; omega)) _))); (first | done | fail)))) HTL.out) false (by simp [hT0])).mono ?_
          rintro e w9 ⟨rfl, hb9⟩
          have hbZ := hbA.trans ((Below.next (by ((repeat (first | (with_reducible assumption) | (with_reducible exact Below.refl _ _) | (with_reducible refine Below.drewS ?_) | (with_reducible refine Below.allocS ?_ _) | (with_reducible refine Below.setS ?_ (by first | omega | (simp; omega)) _))); (first | done | fail))) hb9).mono hbA.size)
          have hXS : (⟨#[45]⟩ : ByteArray) ++ X = S := bytesOf_inj (by
            rw [bytesOf_append, HX.out, HS.out]; unfold dtext; rw [if_pos ⟨rfl, hT0⟩]; rfl)
          have HXS := hide hXS
          clear hb9 hT0 k0 k6 hXS
          go_wp2
          refine bodyPost_ret (v := .tuple #[.string ((⟨#[45]⟩ : ByteArray) ++ X), .int .i64 0]) (by simp [results, Tryz.results24, go_sem]) rfl ?_
          exact ⟨congrArg (fun t => Ending.returned (.tuple #[.string t, .int .i64 0])) HXS.out, hbZ⟩
end Go.Proofs.YtoeknkakdoemfaaGreatDoor

/- The fixed examples of the fractions' laws: awake returns true. -/
namespace Go.Proofs.YtoeknkakdoemfaaGreatDoor
open Go Go.RowKit

theorem asc_13 : asc 13 = [49, 51] := by rw [asc_eq (n := 1) (by decide) (by decide)]; decide
theorem asc_1d {v : Nat} (h : v < 10) : asc v = [48 + v] := asc_small h
theorem qt56 : qtext (5 / 6) = ⟨#[53, 47, 54]⟩ := by
  have h1 : ((5 : Rat) / 6).num = 5 := by decide +kernel
  have h2 : ((5 : Rat) / 6).den = 6 := by decide +kernel
  unfold qtext qbody
  rw [h1, h2, if_neg (by decide), if_neg (by decide), asc_1d (by decide), asc_1d (by decide)]
  rfl
theorem qt32 : qtext (-3 / 2) = ⟨#[45, 51, 47, 50]⟩ := by
  have h1 : ((-3 : Rat) / 2).num = -3 := by decide +kernel
  have h2 : ((-3 : Rat) / 2).den = 2 := by decide +kernel
  unfold qtext qbody
  rw [h1, h2, if_pos (by decide), if_neg (by decide), show (-3 : Int).natAbs = 3 from rfl, asc_1d (by decide), asc_1d (by decide)]
  rfl
theorem dt13 : dtext true 13 2 = [45, 48, 46, 49, 51] := by
  unfold dtext
  rw [asc_13]
  decide
theorem ftext_s {w : World} {L : Nat} {p : Bool} {A : Option Addr} {n c : Nat} {B : Option Addr} {m d : Nat} {x : Rat} (hx : Fr w L p A n c B m d x) (h1L : 1 ≤ L) (hL : L ≤ 10000) (hT : Tab w) (S : ByteArray) (hS : qtext x = S) : Calls Tryz.prog 10 #[.agg #[.bool p, .slice A n c, .slice B m d]] w fun e w' => e = .returned (.string S) ∧ Below w.heap.size w w' := by
  subst hS
  exact ftext_f hx h1L hL hT
theorem ht_small {r : Rat} (h : r.num.natAbs < 1000000000 ∧ r.den < 1000000000) : Ht r 1 := by
  unfold Ht
  rw [show B9 ^ 1 = 1000000000 from rfl]
  exact h
set_option maxHeartbeats 4000000 in
set_option maxRecDepth 100000 in
theorem awake2 : Awake := by
  intro w hT
  have HT := hide hT
  clear hT
  have Q1 := hide (show (((-1 : Int) : Rat) / ((8 : Int) : Rat)) = -1 / 8 from by decide +kernel)
  have Q2 := hide (show (((1 : Int) : Rat) / ((2 : Int) : Rat)) = 1 / 2 from by decide +kernel)
  have Q3 := hide (show (((-1 : Int) : Rat) / ((3 : Int) : Rat)) = -1 / 3 from by decide +kernel)
  have Q4 := hide (show (((1 : Int) : Rat) / ((3 : Int) : Rat)) = 1 / 3 from by decide +kernel)
  have Q5 := hide (show ((1 : Rat) / 2) / (-1 / 3) = -3 / 2 from by decide +kernel)
  have Q6 := hide (show ((1 : Rat) / 2) + (1 / 3) = 5 / 6 from by decide +kernel)
  have N1 := hide (show ((-1 : Rat) / 8).num = -1 ∧ ((-1 : Rat) / 8).den = 8 from by decide +kernel)
  have H2 := hide (show Ht (1 / 2) 1 from ht_small (by decide +kernel))
  have H3 := hide (show Ht (-1 / 3) 1 from ht_small (by decide +kernel))
  have H4 := hide (show Ht (1 / 3) 1 from ht_small (by decide +kernel))
  have H5 := hide (show Ht (-3 / 2) 1 from ht_small (by decide +kernel))
  have H6 := hide (show Ht (5 / 6) 1 from ht_small (by decide +kernel))
  have Z3 := hide (show ((-1 : Rat) / 3) ≠ 0 from by decide +kernel)
  go_enter Tryz.func8, Tryz.ntmps8
  go_wp2_with fail
  refine (fof_f (-1) 8 _ (by omega) (by omega) (by omega) (by omega) (-1 / 8) Q1.out).mono ?_
  rintro e w1 ⟨p1, A1, n1, c1, B1, m1, d1, rfl, ⟨hp1, h1, i1⟩, hb1⟩
  have hbA := hb1
  rw [N1.out.1] at h1 hp1
  rw [N1.out.2] at i1
  obtain rfl : p1 = true := by rw [hp1]; rfl
  clear hb1 hp1
  go_wp2_with fail
  refine (fdecimal_any 1 (by omega) (by omega) true A1 n1 c1 1 B1 m1 d1 8 2 (by omega) _ (h1.nt (by decide)) (i1.nt (by decide)) (HT.out.below hbA) 13 (by decide) (by decide) ⟨#[45, 48, 46, 49, 51]⟩ (by rw [dt13]; rfl)).mono ?_
  rintro e w2 ⟨rfl, hb2⟩
  have hbA := hbA.trans (hb2.mono hbA.size)
  clear hb2 h1 i1
  go_wp2_with fail
  refine (fof_f 1 2 _ (by omega) (by omega) (by omega) (by omega) (1 / 2) Q2.out).mono ?_
  rintro e w3 ⟨p3, A3, n3, c3, B3, m3, d3, rfl, h3, hb3⟩
  have hbA := hbA.trans (hb3.mono hbA.size)
  clear hb3
  go_wp2_with fail
  refine (fof_f (-1) 3 _ (by omega) (by omega) (by omega) (by omega) (-1 / 3) Q3.out).mono ?_
  rintro e w4 ⟨p4, A4, n4, c4, B4, m4, d4, rfl, h4, hb4⟩
  have hbA := hbA.trans (hb4.mono hbA.size)
  have h3 := h3.below hb4
  clear hb4
  go_wp2_with fail
  refine (fdiv_f (L := 1) (h3.fr H2.out) (h4.fr H3.out) (by omega) Z3.out (-3 / 2) Q5.out).mono ?_
  rintro e w5 ⟨p5, A5, n5, c5, B5, m5, d5, rfl, h5, hb5⟩
  have hbA := hbA.trans (hb5.mono hbA.size)
  clear hb5 h3 h4
  go_wp2_with fail
  generalize hW : w5.alloc _ = W5
  obtain ⟨hb, bx, -⟩ := boxesA1 hW
  clear hW
  have hbA := hbA.trans (hb.mono hbA.size)
  have h5 := h5.below hb
  clear hb
  refine (fof_f 1 2 _ (by omega) (by omega) (by omega) (by omega) (1 / 2) Q2.out).mono ?_
  rintro e w6 ⟨p6, A6, n6, c6, B6, m6, d6, rfl, h6, hb6⟩
  have hbA := hbA.trans (hb6.mono hbA.size)
  have h5 := h5.below hb6
  have bx := bx.below' hb6
  clear hb6
  go_wp2_with fail
  refine (fof_f 1 3 _ (by omega) (by omega) (by omega) (by omega) (1 / 3) Q4.out).mono ?_
  rintro e w7 ⟨p7, A7, n7, c7, B7, m7, d7, rfl, h7, hb7⟩
  have hbA := hbA.trans (hb7.mono hbA.size)
  have h5 := h5.below hb7
  have h6 := h6.below hb7
  have bx := bx.below' hb7
  clear hb7
  go_wp2_with fail
  refine (fadd_f (L := 1) (h6.fr H2.out) (h7.fr H4.out) (by omega) (by omega) (5 / 6) Q6.out).mono ?_
  rintro e w8 ⟨p8, A8, n8, c8, B8, m8, d8, rfl, h8, hb8⟩
  have hbA := hbA.trans (hb8.mono hbA.size)
  have h5 := h5.below hb8
  have bx := bx.below' hb8
  clear hb8 h6 h7
  go_wp2_with fail
  refine (ftext_s (L := 1) (h8.fr H6.out) (by omega) (by omega) (HT.out.below hbA) ⟨#[53, 47, 54]⟩ qt56).mono ?_
  rintro e w9 ⟨rfl, hb9⟩
  have hbA := hbA.trans (hb9.mono hbA.size)
  have h5 := h5.below hb9
  have bx := bx.below' hb9
  clear hb9 h8
  have k0 : w9.cell? ⟨w5.heap.size, 0, none⟩ = some (.bool p5) := bx.at_ 0
  have k1 : w9.cell? ⟨w5.heap.size, 1, none⟩ = some (.slice A5 n5 c5) := bx.at_ 1
  have k2 : w9.cell? ⟨w5.heap.size, 2, none⟩ = some (.slice B5 m5 d5) := bx.at_ 2
  go_wp2_with fail
  refine (ftext_s (L := 1) (h5.fr H5.out) (by omega) (by omega) (HT.out.below hbA) ⟨#[45, 51, 47, 50]⟩ qt32).mono ?_
  rintro e w10 ⟨rfl, hb10⟩
  have hbA := hbA.trans (hb10.mono hbA.size)
  clear hb10 h5 bx k0 k1 k2
  go_wp2
  go_ret
  exact ⟨rfl, hbA⟩
end Go.Proofs.YtoeknkakdoemfaaGreatDoor

/- Words for the laws of fractions' texts. -/
namespace Go.Proofs.YtoeknkakdoemfaaGreatDoor
open Go Go.RowKit

theorem few1 {w W : World} {t : TypeId} {p1 : Bool} {A1 B1 : Option Addr} {n1 c1 m1 d1 : Nat} (hW : w.alloc (.cells #[.bool p1, .slice A1 n1 c1, .slice B1 m1 d1] t) = W) :
    Below w.heap.size w W ∧ FewL W (some ⟨w.heap.size, 0, none⟩) 1 (fun _ => n1) (fun _ => m1) := by
  obtain ⟨h1, h2, -⟩ := boxesA1 hW
  refine ⟨h1, fun _ => ⟨_, _, rfl, fun i hi => ?_⟩⟩
  obtain rfl : i = 0 := by omega
  exact ⟨A1, c1, B1, d1, h2.at_ 1, h2.at_ 2⟩
theorem isFew1 {n1 m1 : Nat} : isFew 1 (fun _ => n1) (fun _ => m1) ↔ n1 ≤ 6 ∧ m1 ≤ 6 :=
  ⟨fun h => h.1 0 (by omega), fun h => ⟨fun _ _ => h, by omega⟩⟩
theorem few2 {w W : World} {t : TypeId} {p1 p2 : Bool} {A1 B1 A2 B2 : Option Addr} {n1 c1 m1 d1 n2 c2 m2 d2 : Nat} (hW : w.alloc (.cells #[.bool p1, .slice A1 n1 c1, .slice B1 m1 d1, .bool p2, .slice A2 n2 c2, .slice B2 m2 d2] t) = W) :
    Below w.heap.size w W ∧ FewL W (some ⟨w.heap.size, 0, none⟩) 2 (fun i => if i = 0 then n1 else n2) (fun i => if i = 0 then m1 else m2) := by
  obtain ⟨h1, h2, -⟩ := boxesA1 hW
  refine ⟨h1, fun _ => ⟨_, _, rfl, fun i hi => ?_⟩⟩
  have h0 : i = 0 ∨ i = 1 := by omega
  rcases h0 with rfl | rfl
  · exact ⟨A1, c1, B1, d1, h2.at_ 1, h2.at_ 2⟩
  · exact ⟨A2, c2, B2, d2, h2.at_ 4, h2.at_ 5⟩
theorem isFew2 {n1 m1 n2 m2 : Nat} : isFew 2 (fun i => if i = 0 then n1 else n2) (fun i => if i = 0 then m1 else m2) ↔ (n1 ≤ 6 ∧ m1 ≤ 6) ∧ n2 ≤ 6 ∧ m2 ≤ 6 := by
  constructor
  · intro h
    exact ⟨h.1 0 (by omega), h.1 1 (by omega)⟩
  · intro h
    refine ⟨fun i hi => ?_, by omega⟩
    have h0 : i = 0 ∨ i = 1 := by omega
    rcases h0 with rfl | rfl
    · exact h.1
    · exact h.2
theorem cn_nil {w : World} : Cn w none 0 0 0 := ⟨RL.nil_, by omega, by simp [maxLen]⟩
theorem base_zero (w : World) : Calls Tryz.prog 13 #[.agg #[.bool false, .slice none 0 0, .slice none 0 0], .agg #[.bool false, .slice none 0 0, .slice none 0 0]] w fun e w' => e = .returned (.bool true) ∧ Below w.heap.size w w' :=
  fbase_same false none 0 0 0 none 0 0 0 none 0 0 none 0 0 w cn_nil cn_nil cn_nil cn_nil (by omega) (by omega)
theorem str_ne {S t : ByteArray} (h : S ≠ t) : (S.toList == t.toList) = false := by
  rw [beq_eq_false_iff_ne]
  intro e
  rw [Lib.toList_data, Lib.toList_data] at e
  exact h (ba_eq e)
theorem text_size {x : Rat} {L : Nat} (h : Ht x L) (hL : L ≤ 200) : (qtext x).size ≤ 4000 := by
  have e := qtext_list x
  have z : ∀ u, u < B9 ^ L → (BN (asc u)).length ≤ 9 * L + 1 := fun u hu => by
    have h1 : (BN (asc u)).length = (asc u).length := by simp [BN]
    rw [h1, asc_len]
    by_cases h0 : u = 0
    · subst h0
      rw [← asc_len, asc_small (by decide)]
      simp
    · obtain ⟨n, h2, h3, h4⟩ := asc_pow h0
      rw [← asc_len, h4, dec_length]
      rw [pow_B9] at hu
      rcases Nat.lt_or_ge n (9 * L) with h5 | h5
      · omega
      · have := Nat.pow_le_pow_right (show 0 < 10 by decide) h5
        omega
  have z1 := z _ h.1
  have z2 := z _ h.2
  rw [size_list, e, List.length_append, List.length_append]
  have z3 : (if decide (x.num < 0) = true then [45] else [] : List UInt8).length ≤ 1 := by split <;> simp
  have z4 : (if x.den = 1 then [] else 47 :: BN (asc x.den) : List UInt8).length ≤ 9 * L + 2 := by
    split
    · simp
    · simp only [List.length_cons]; omega
  omega
end Go.Proofs.YtoeknkakdoemfaaGreatDoor

/- What the rows give of a world. -/
namespace Go.Proofs.YtoeknkakdoemfaaGreatDoor
open Go Go.RowKit

theorem zw_of {W : World} (h : laidMetH Tryz.prog three W) (hs : W.ShapedOpen Tryz.prog) : Zw W := by
  exact ⟨tab_of h, cell_of_shapedOpen_int (zero := #[.int .i64 0]) (t := 3) hs (of_decide_eq_true (by kernel_rfl)) (by kernel_rfl) rfl (by kernel_rfl) (by kernel_rfl) Tryz.underlying3⟩
end Go.Proofs.YtoeknkakdoemfaaGreatDoor
