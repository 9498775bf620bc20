/- The contract of fraction.roundedUnits. -/
import Derived.Test.YtgfdeihfinlfoaaGreatDoorBaseL
import Derived.Test.YtgfdeihfinlfoaaGreatDoorFUnits
import Derived.Test.YtgfdeihfinlfoaaGreatDoorBaseF
import Derived.Deep.CutRange
import Derived.Deep.RegionHeld3
namespace Go.Proofs.YtgfdeihfinlfoaaGreatDoor
open Go Go.RowKit

/-- how many parts of 10^-k a number has, without its sign, rounded -/
def rnd (u v k : Nat) : Nat := if v = 0 then 0 else (u * 10 ^ k * 2 + v) / (v * 2)
theorem rnd_proper {u u1 v v1 k : Nat} {p p1 : Bool} (h1 : v ≠ 0 → p1 = p ∧ u1 = u ∧ v1 = v) (h2 : v = 0 → p1 = false ∧ u1 = 0 ∧ v1 = 1) : (u1 * 10 ^ k * 2 + v1) / (v1 * 2) = rnd u v k := by
  unfold rnd
  by_cases hv : v = 0
  · obtain ⟨-, rfl, rfl⟩ := h2 hv
    rw [if_pos hv]; simp
  · obtain ⟨-, rfl, rfl⟩ := h1 hv
    rw [if_neg hv]
theorem GivesDM.fst {a b : Nat} {er : Int} {w w' : World} {e : Ending} (h : GivesDM a b er w e w') :
    ∃ A n c B m d, e = .returned (.tuple #[.agg #[.slice A n c], .agg #[.slice B m d], .int .i64 er]) ∧ Cn w' A n c a ∧ Below w.heap.size w w' := by
  obtain ⟨A, n, c, B, m, d, h1, h2, -, h3⟩ := h.cn
  exact ⟨A, n, c, B, m, d, h1, h2, h3⟩
set_option maxHeartbeats 8000000 in
theorem rounded_any (L : Nat) (h1L : 1 ≤ L) (hL : L ≤ 5000) (p : Bool) (A : Option Addr) (n c u : Nat) (B : Option Addr) (m d v : Nat) (k : Nat) (hk : k ≤ 20) (w : World) (hA : Nt w L A n c u) (hB : Nt w L B m d v) (T : Nat) (hT : rnd u v k = T) :
    Calls Tryz.prog 58 #[.agg #[.bool p, .slice A n c, .slice B m d], .int .i64 (k : Int)] w (GivesN T w) := by
  have HT := hide hT
  clear hT
  go_enter Tryz.func58, Tryz.ntmps58
  go_wp2_with fail
  generalize hW : (w.alloc _).alloc _ = W
  obtain ⟨hbW, b0, bR, hz⟩ := boxesA2 hW
  clear hW
  have hA := hA.below hbW
  have hB := hB.below hbW
  refine (proper_p L h1L (by omega) p A n c u B m d v _ hA hB).mono ?_
  rintro e w1 ⟨p1, u1, v1, hv1, -, hq1, hq2, A1, n1, c1, B1, m1, d1, rfl, hA1, hB1, hb1⟩
  have hbA := hbW.trans (hb1.mono hbW.size)
  have b0 := b0.below' hb1
  have bR := bR.below' hb1
  have k0 : w1.cell? ⟨w.heap.size, 0, none⟩ = some (.bool p) := b0.at_ 0
  have k1 : w1.cell? ⟨w.heap.size, 1, none⟩ = some (.slice A n c) := b0.at_ 1
  have k2 : w1.cell? ⟨w.heap.size, 2, none⟩ = some (.slice B m d) := b0.at_ 2
  have f0 := b0.frozen 0
  have f1 := b0.frozen 1
  have f2 := b0.frozen 2
  have HT := hide (show (u1 * 10 ^ k * 2 + v1) / (v1 * 2) = T from (rnd_proper hq1 hq2).trans HT.out)
  have HV1 := hide hv1
  clear hb1 hbW hz hq1 hq2 hv1 hA hB
  go_wp2_with fail
  clear k0 k1 k2 f0 f1 f2
  generalize hW3 : ((w1.setCell _ _).setCell _ _).setCell _ _ = W3
  obtain ⟨b3, N3, -, B3, X3⟩ := put3 b0 hW3
  clear hW3 b0
  have bR := X3 _ _ _ (by simp) bR
  have hA := N3 _ _ _ _ _ hA1
  have hB := N3 _ _ _ _ _ hB1
  have hbA := B3 _ _ hbA (Nat.le_refl _)
  clear N3 B3 X3 hA1 hB1
  refine (of_any 2 _ (by omega)).mono fun e w4 h => ?_
  obtain ⟨A4, n4, c4, rfl, h4, hb4⟩ := GivesN.cn h
  clear h
  have hbA := hbA.trans (hb4.mono hbA.size)
  have b3 := b3.below' hb4
  have bR := bR.below' hb4
  have hA := hA.below hb4
  have hB := hB.below hb4
  clear hb4
  go_wp2_with fail
  generalize hW5 : w4.alloc _ = W5
  obtain ⟨hb5, bt, -⟩ := boxesA1 hW5
  clear hW5
  have hbA := hbA.trans (hb5.mono hbA.size)
  have b3 := b3.below' hb5
  have bR := bR.below' hb5
  have hA := hA.below hb5
  have hB := hB.below hb5
  have h4 := (h4.below hb5).nt (L := 1) (by decide)
  clear hb5
  obtain ⟨q, hq⟩ : ∃ q, 10 ^ k = q := ⟨_, rfl⟩
  rw [hq] at HT
  have HQ := hide hq
  have HQL := hide (show q < B9 ^ 3 from by
    rw [← hq]
    exact Nat.lt_of_le_of_lt (Nat.pow_le_pow_right (by decide) hk) (by decide))
  have HUL := hide hA.lt
  have HVL := hide hB.lt
  clear hq
  have HMB := hide (show u1 * q < B9 ^ (L + 4) from mulB (i := L + 1) (j := 3) HUL.out HQL.out)
  have lt3 := b3.lt
  have ltt := bt.lt
  have KS : Hid (∀ w', Below W5.heap.size W5 w' → w'.cell? ⟨w.heap.size, 1, none⟩ = some (.slice A1 n1 c1) ∧ w'.cell? ⟨w4.heap.size, 0, none⟩ = some (.slice A4 n4 c4)) := fun w' h =>
    ⟨(b3.below h lt3).at_ 1, (bt.below h ltt).at_ 0⟩
  go_wp2_with fail
  go_cut [6] from 13 to 20 (fun s6 wx => MadeN W5 (u1 * q * 2) s6 wx ∧ Below W5.heap.size W5 wx)
  case first =>
    go_region_held3 (fun w' => w'.cell? ⟨w.heap.size, 1, none⟩ = some (.slice A1 n1 c1) ∧ w'.cell? ⟨w4.heap.size, 0, none⟩ = some (.slice A4 n4 c4))
      (exact KS.out _ (by ((repeat (first | (with_reducible assumption) | (with_reducible exact Below.refl _ _) | (with_reducible refine Below.drewS ?_) | (with_reducible refine Below.allocS ?_ _) | (with_reducible refine Below.setS ?_ (by first | omega | (simp; omega)) _))); (first | done | fail))))
      (first
        | (go_at_call 50; (with_reducible refine (units_any k (by omega) _ q HQ.out).mono ?_); rintro e wu ⟨Au, nu, cu, rfl, ru, lu, mu, hbu⟩; have Eu : Below W5.heap.size W5 wu := Below.next (by ((repeat (first | (with_reducible assumption) | (with_reducible exact Below.refl _ _) | (with_reducible refine Below.drewS ?_) | (with_reducible refine Below.allocS ?_ _) | (with_reducible refine Below.setS ?_ (by first | omega | (simp; omega)) _))); (first | done | fail))) hbu; have zu := Eu.size; have yu := hbu.size; (try simp at yu); have hu : Cn wu Au nu cu q := ⟨ru, lu, mu⟩; have tu : Hid (∀ w', Below wu.heap.size wu w' → Nt w' (L + 3) Au nu cu q) := fun w' hb => ((hu.below hb).nt HQL.out).up (by omega); clear hu ru lu mu)
        | (go_at_call_of 52 (Value.slice A1 n1 c1); (with_reducible refine (mul_n (L := L + 3) ((hA.below (by ((repeat (first | (with_reducible assumption) | (with_reducible exact Below.refl _ _) | (with_reducible refine Below.drewS ?_) | (with_reducible refine Below.allocS ?_ _) | (with_reducible refine Below.setS ?_ (by first | omega | (simp; omega)) _))); (first | done | fail)))).up (by omega)) (tu.out _ (by ((repeat (first | (with_reducible assumption) | (with_reducible exact Below.refl _ _) | (with_reducible refine Below.drewS ?_) | (with_reducible refine Below.allocS ?_ _) | (with_reducible refine Below.setS ?_ (by first | omega | (simp; omega)) _))); (first | done | fail)))) (by omega) (u1 * q) rfl).mono ?_); rintro e wm ⟨Am, nm, cm, rfl, rm, lm, mm, hbm⟩; have Em : Below W5.heap.size W5 wm := Below.next (by ((repeat (first | (with_reducible assumption) | (with_reducible exact Below.refl _ _) | (with_reducible refine Below.drewS ?_) | (with_reducible refine Below.allocS ?_ _) | (with_reducible refine Below.setS ?_ (by first | omega | (simp; omega)) _))); (first | done | fail))) hbm; have zm := Em.size; have ym := hbm.size; (try simp at ym); have hm : Cn wm Am nm cm (u1 * q) := ⟨rm, lm, mm⟩; have tm : Hid (∀ w', Below wm.heap.size wm w' → Nt w' (L + 4) Am nm cm (u1 * q)) := fun w' hb => (hm.below hb).nt HMB.out; clear hm rm lm mm tu)
        | (go_at_call_of 52 (Value.slice Am nm cm); (with_reducible refine (mul_n (L := L + 4) (tm.out _ (by ((repeat (first | (with_reducible assumption) | (with_reducible exact Below.refl _ _) | (with_reducible refine Below.drewS ?_) | (with_reducible refine Below.allocS ?_ _) | (with_reducible refine Below.setS ?_ (by first | omega | (simp; omega)) _))); (first | done | fail)))) ((h4.below (by ((repeat (first | (with_reducible assumption) | (with_reducible exact Below.refl _ _) | (with_reducible refine Below.drewS ?_) | (with_reducible refine Below.allocS ?_ _) | (with_reducible refine Below.setS ?_ (by first | omega | (simp; omega)) _))); (first | done | fail)))).up (by omega)) (by omega) (u1 * q * 2) rfl).mono ?_); rintro e wn ⟨An, nn, cn, rfl, rn, ln, mn, hbn⟩; have En : Below W5.heap.size W5 wn := Below.next (by ((repeat (first | (with_reducible assumption) | (with_reducible exact Below.refl _ _) | (with_reducible refine Below.drewS ?_) | (with_reducible refine Below.allocS ?_ _) | (with_reducible refine Below.setS ?_ (by first | omega | (simp; omega)) _))); (first | done | fail))) hbn; have zn := En.size; have yn := hbn.size; (try simp at yn); (try (have q0_0 : W5.heap.size < wn.heap.size := by omega)); (try (have q1_0 : wu.heap.size < wn.heap.size := by omega)); (try (have q2_0 : wm.heap.size < wn.heap.size := by omega)); (try (have e0_0 : Box wn (W5.heap.size) #[.slice none 0 0] 24 := (by ((repeat (first | (with_reducible exact Box.newE _ _ _ (by first | rfl | (simp; (first | done | fail)))) | (with_reducible refine Box.drewS ?_) | (with_reducible refine Box.alloc ?_ _) | (with_reducible refine Box.below' ?_ hbn) | (with_reducible refine Box.below' ?_ hbm) | (with_reducible refine Box.below' ?_ hbu))); (first | done | fail))); have le0_0 := Box.lt e0_0; have ke0_0 := Box.cell e0_0; have fe0_0 := Box.frozen e0_0 0)); (try (have e1_0 : Box wn (wu.heap.size) #[.slice none 0 0] 24 := (by ((repeat (first | (with_reducible exact Box.newE _ _ _ (by first | rfl | (simp; (first | done | fail)))) | (with_reducible refine Box.drewS ?_) | (with_reducible refine Box.alloc ?_ _) | (with_reducible refine Box.below' ?_ hbn) | (with_reducible refine Box.below' ?_ hbm) | (with_reducible refine Box.below' ?_ hbu))); (first | done | fail))); have le1_0 := Box.lt e1_0; have ke1_0 := Box.cell e1_0; have fe1_0 := Box.frozen e1_0 0)); (try (have e2_0 : Box wn (wm.heap.size) #[.slice none 0 0] 24 := (by ((repeat (first | (with_reducible exact Box.newE _ _ _ (by first | rfl | (simp; (first | done | fail)))) | (with_reducible refine Box.drewS ?_) | (with_reducible refine Box.alloc ?_ _) | (with_reducible refine Box.below' ?_ hbn) | (with_reducible refine Box.below' ?_ hbm) | (with_reducible refine Box.below' ?_ hbu))); (first | done | fail))); have le2_0 := Box.lt e2_0; have ke2_0 := Box.cell e2_0; have fe2_0 := Box.frozen e2_0 0)); have hn : Cn wn An nn cn (u1 * q * 2) := ⟨rn, ln, mn⟩; clear rn ln mn tm))
    all_goals
      go_wp2_with fail
      go_meet
      exact ⟨⟨_, An, nn, cn, rfl, (by first | omega | (simp; omega)), (by ((repeat (first | (with_reducible assumption) | (with_reducible exact Box.newE _ _ _ (by first | rfl | (simp; (first | done | fail)))) | (with_reducible refine Box.drewS ?_) | (with_reducible refine Box.alloc ?_ _) | (with_reducible refine Box.put1z ?_) | (with_reducible refine Box.put3z ?_) | (with_reducible refine Box.far3 ?_ (by first | omega | (simp; omega)) _ _ _) | (with_reducible refine Box.far1 ?_ (by first | omega | (simp; omega)) _))); (first | done | fail))), (by ((repeat (first | (with_reducible assumption) | (with_reducible refine Cn.drewS ?_) | (with_reducible refine Cn.allocS ?_ _) | (with_reducible refine Cn.far3z ?_ (by ((repeat (first | (with_reducible assumption) | (with_reducible exact Box.newE _ _ _ (by first | rfl | (simp; (first | done | fail)))) | (with_reducible refine Box.drewS ?_) | (with_reducible refine Box.alloc ?_ _) | (with_reducible refine Box.put1z ?_) | (with_reducible refine Box.put3z ?_) | (with_reducible refine Box.far3 ?_ (by first | omega | (simp; omega)) _ _ _) | (with_reducible refine Box.far1 ?_ (by first | omega | (simp; omega)) _))); (first | done | fail))) _ _ _ _ _ _ _) | (with_reducible refine Cn.far1z ?_ (by ((repeat (first | (with_reducible assumption) | (with_reducible exact Box.newE _ _ _ (by first | rfl | (simp; (first | done | fail)))) | (with_reducible refine Box.drewS ?_) | (with_reducible refine Box.alloc ?_ _) | (with_reducible refine Box.put1z ?_) | (with_reducible refine Box.put3z ?_) | (with_reducible refine Box.far3 ?_ (by first | omega | (simp; omega)) _ _ _) | (with_reducible refine Box.far1 ?_ (by first | omega | (simp; omega)) _))); (first | done | fail))) _))); (first | done | fail)))⟩, (by ((repeat (first | (with_reducible assumption) | (with_reducible exact Below.refl _ _) | (with_reducible refine Below.drewS ?_) | (with_reducible refine Below.allocS ?_ _) | (with_reducible refine Below.setS ?_ (by first | omega | (simp; omega)) _))); (first | done | fail)))⟩
  case rest =>
  obtain ⟨⟨g6, An, nn, cn, rfl, hg6, bn, hn⟩, E6⟩ := hcut
  have hbA := hbA.trans (E6.mono hbA.size)
  have b3 := b3.below' E6
  have bR := bR.below' E6
  have bt := bt.below' E6
  have hA := hA.below E6
  have hB := hB.below E6
  have h4 := h4.below E6
  clear E6 KS lt3 ltt
  generalize wc = W6 at *
  have HN := hide (show u1 * q * 2 < B9 ^ (L + 5) from mulB (i := L + 4) (j := 1) HMB.out (by decide))
  obtain ⟨a, ha⟩ : ∃ a, u1 * q * 2 = a := ⟨_, rfl⟩
  rw [ha] at HN HT hn
  clear ha
  have HA2 := hide (show a + v1 < B9 ^ (L + 6) from addB HN.out (upB HVL.out (by omega)))
  have HV2 := hide (show v1 * 2 < B9 ^ (L + 2) from mulB (i := L + 1) (j := 1) HVL.out (by decide))
  have HV0 := hide (show v1 * 2 ≠ 0 from by have := HV1.out; omega)
  have lt3 := b3.lt
  have ltt := bt.lt
  have ltn := bn.lt
  have KS : Hid (∀ w', Below W6.heap.size W6 w' → w'.cell? ⟨w.heap.size, 2, none⟩ = some (.slice B1 m1 d1) ∧ w'.cell? ⟨w4.heap.size, 0, none⟩ = some (.slice A4 n4 c4) ∧ w'.cell? ⟨g6, 0, none⟩ = some (.slice An nn cn)) := fun w' h =>
    ⟨(b3.below h lt3).at_ 2, (bt.below h ltt).at_ 0, (bn.below h ltn).at_ 0⟩
  have tn : Hid (∀ w', Below W6.heap.size W6 w' → Nt w' (L + 5) An nn cn a) := fun w' hb => (hn.below hb).nt HN.out
  go_wp2_with fail
  go_cut [7, 8, 9] from 20 to 33 (fun s7 _ _ wx => MadeN W6 T s7 wx ∧ Below W6.heap.size W6 wx)
  case first =>
    go_region_held3 (fun w' => w'.cell? ⟨w.heap.size, 2, none⟩ = some (.slice B1 m1 d1) ∧ w'.cell? ⟨w4.heap.size, 0, none⟩ = some (.slice A4 n4 c4) ∧ w'.cell? ⟨g6, 0, none⟩ = some (.slice An nn cn))
      (exact KS.out _ (by ((repeat (first | (with_reducible assumption) | (with_reducible exact Below.refl _ _) | (with_reducible refine Below.drewS ?_) | (with_reducible refine Below.allocS ?_ _) | (with_reducible refine Below.setS ?_ (by first | omega | (simp; omega)) _))); (first | done | fail))))
      (first
        | (go_at_call_of 51 (Value.slice An nn cn); (with_reducible refine (add_n (L := L + 5) (tn.out _ (by ((repeat (first | (with_reducible assumption) | (with_reducible exact Below.refl _ _) | (with_reducible refine Below.drewS ?_) | (with_reducible refine Below.allocS ?_ _) | (with_reducible refine Below.setS ?_ (by first | omega | (simp; omega)) _))); (first | done | fail)))) ((hB.below (by ((repeat (first | (with_reducible assumption) | (with_reducible exact Below.refl _ _) | (with_reducible refine Below.drewS ?_) | (with_reducible refine Below.allocS ?_ _) | (with_reducible refine Below.setS ?_ (by first | omega | (simp; omega)) _))); (first | done | fail)))).up (by omega)) (by omega) (a + v1) rfl).mono ?_); rintro e wa ⟨Aa, na, ca, rfl, ra, la, ma, hba⟩; have Ea : Below W6.heap.size W6 wa := Below.next (by ((repeat (first | (with_reducible assumption) | (with_reducible exact Below.refl _ _) | (with_reducible refine Below.drewS ?_) | (with_reducible refine Below.allocS ?_ _) | (with_reducible refine Below.setS ?_ (by first | omega | (simp; omega)) _))); (first | done | fail))) hba; have za := Ea.size; have ya := hba.size; (try simp at ya); have ha : Cn wa Aa na ca (a + v1) := ⟨ra, la, ma⟩; have ta : Hid (∀ w', Below wa.heap.size wa w' → Nt w' (L + 6) Aa na ca (a + v1)) := fun w' hb => (ha.below hb).nt HA2.out; clear ha ra la ma)
        | (go_at_call_of 52 (Value.slice B1 m1 d1); (with_reducible refine (mul_n (L := L + 1) ((hB.below (by ((repeat (first | (with_reducible assumption) | (with_reducible exact Below.refl _ _) | (with_reducible refine Below.drewS ?_) | (with_reducible refine Below.allocS ?_ _) | (with_reducible refine Below.setS ?_ (by first | omega | (simp; omega)) _))); (first | done | fail)))).up (by omega)) ((h4.below (by ((repeat (first | (with_reducible assumption) | (with_reducible exact Below.refl _ _) | (with_reducible refine Below.drewS ?_) | (with_reducible refine Below.allocS ?_ _) | (with_reducible refine Below.setS ?_ (by first | omega | (simp; omega)) _))); (first | done | fail)))).up (by omega)) (by omega) (v1 * 2) rfl).mono ?_); rintro e wb ⟨Ab, nb, cb, rfl, rb, lb, mb, hbb⟩; have Eb : Below W6.heap.size W6 wb := Below.next (by ((repeat (first | (with_reducible assumption) | (with_reducible exact Below.refl _ _) | (with_reducible refine Below.drewS ?_) | (with_reducible refine Below.allocS ?_ _) | (with_reducible refine Below.setS ?_ (by first | omega | (simp; omega)) _))); (first | done | fail))) hbb; have zb := Eb.size; have yb := hbb.size; (try simp at yb); have hb : Cn wb Ab nb cb (v1 * 2) := ⟨rb, lb, mb⟩; have tb : Hid (∀ w', Below wb.heap.size wb w' → Nt w' (L + 6) Ab nb cb (v1 * 2)) := fun w' hb2 => ((hb.below hb2).nt HV2.out).up (by omega); have tc : Hid (∀ w', Below wb.heap.size wb w' → Nt w' (L + 6) Aa na ca (a + v1)) := fun w' hb2 => (ta.out _ (Below.next (by ((repeat (first | (with_reducible assumption) | (with_reducible exact Below.refl _ _) | (with_reducible refine Below.drewS ?_) | (with_reducible refine Below.allocS ?_ _) | (with_reducible refine Below.setS ?_ (by first | omega | (simp; omega)) _))); (first | done | fail))) hbb)).below hb2; clear hb rb lb mb ta)
        | (go_at_call_of 42 (Value.slice Aa na ca); (with_reducible refine (((div_n (L := L + 6) (tc.out _ (by ((repeat (first | (with_reducible assumption) | (with_reducible exact Below.refl _ _) | (with_reducible refine Below.drewS ?_) | (with_reducible refine Below.allocS ?_ _) | (with_reducible refine Below.setS ?_ (by first | omega | (simp; omega)) _))); (first | done | fail)))) (tb.out _ (by ((repeat (first | (with_reducible assumption) | (with_reducible exact Below.refl _ _) | (with_reducible refine Below.drewS ?_) | (with_reducible refine Below.allocS ?_ _) | (with_reducible refine Below.setS ?_ (by first | omega | (simp; omega)) _))); (first | done | fail)))) (by omega) HV0.out T _ HT.out rfl).mono fun _ _ h => h.fst)).mono ?_); rintro e wq ⟨Aq, nq, cq, Ar, nr, cr, rfl, hq, hbq⟩; have Eq : Below W6.heap.size W6 wq := Below.next (by ((repeat (first | (with_reducible assumption) | (with_reducible exact Below.refl _ _) | (with_reducible refine Below.drewS ?_) | (with_reducible refine Below.allocS ?_ _) | (with_reducible refine Below.setS ?_ (by first | omega | (simp; omega)) _))); (first | done | fail))) hbq; have zq := Eq.size; have yq := hbq.size; (try simp at yq); (try (have q0_0 : W6.heap.size < wq.heap.size := by omega)); (try (have q0_1 : W6.heap.size + 1 < wq.heap.size := by omega)); (try (have q1_0 : wa.heap.size < wq.heap.size := by omega)); (try (have q1_1 : wa.heap.size + 1 < wq.heap.size := by omega)); (try (have q2_0 : wb.heap.size < wq.heap.size := by omega)); (try (have q2_1 : wb.heap.size + 1 < wq.heap.size := by omega)); (try (have e0_0 : Box wq (W6.heap.size) #[.slice none 0 0] 24 := (by ((repeat (first | (with_reducible exact Box.newE _ _ _ (by first | rfl | (simp; (first | done | fail)))) | (with_reducible refine Box.drewS ?_) | (with_reducible refine Box.alloc ?_ _) | (with_reducible refine Box.below' ?_ hbq) | (with_reducible refine Box.below' ?_ hbb) | (with_reducible refine Box.below' ?_ hba))); (first | done | fail))); have le0_0 := Box.lt e0_0; have ke0_0 := Box.cell e0_0; have fe0_0 := Box.frozen e0_0 0)); (try (have e0_1 : Box wq (W6.heap.size + 1) #[.slice none 0 0] 24 := (by ((repeat (first | (with_reducible exact Box.newE _ _ _ (by first | rfl | (simp; (first | done | fail)))) | (with_reducible refine Box.drewS ?_) | (with_reducible refine Box.alloc ?_ _) | (with_reducible refine Box.below' ?_ hbq) | (with_reducible refine Box.below' ?_ hbb) | (with_reducible refine Box.below' ?_ hba))); (first | done | fail))); have le0_1 := Box.lt e0_1; have ke0_1 := Box.cell e0_1; have fe0_1 := Box.frozen e0_1 0)); (try (have e1_0 : Box wq (wa.heap.size) #[.slice none 0 0] 24 := (by ((repeat (first | (with_reducible exact Box.newE _ _ _ (by first | rfl | (simp; (first | done | fail)))) | (with_reducible refine Box.drewS ?_) | (with_reducible refine Box.alloc ?_ _) | (with_reducible refine Box.below' ?_ hbq) | (with_reducible refine Box.below' ?_ hbb) | (with_reducible refine Box.below' ?_ hba))); (first | done | fail))); have le1_0 := Box.lt e1_0; have ke1_0 := Box.cell e1_0; have fe1_0 := Box.frozen e1_0 0)); (try (have e1_1 : Box wq (wa.heap.size + 1) #[.slice none 0 0] 24 := (by ((repeat (first | (with_reducible exact Box.newE _ _ _ (by first | rfl | (simp; (first | done | fail)))) | (with_reducible refine Box.drewS ?_) | (with_reducible refine Box.alloc ?_ _) | (with_reducible refine Box.below' ?_ hbq) | (with_reducible refine Box.below' ?_ hbb) | (with_reducible refine Box.below' ?_ hba))); (first | done | fail))); have le1_1 := Box.lt e1_1; have ke1_1 := Box.cell e1_1; have fe1_1 := Box.frozen e1_1 0)); (try (have e2_0 : Box wq (wb.heap.size) #[.slice none 0 0] 24 := (by ((repeat (first | (with_reducible exact Box.newE _ _ _ (by first | rfl | (simp; (first | done | fail)))) | (with_reducible refine Box.drewS ?_) | (with_reducible refine Box.alloc ?_ _) | (with_reducible refine Box.below' ?_ hbq) | (with_reducible refine Box.below' ?_ hbb) | (with_reducible refine Box.below' ?_ hba))); (first | done | fail))); have le2_0 := Box.lt e2_0; have ke2_0 := Box.cell e2_0; have fe2_0 := Box.frozen e2_0 0)); (try (have e2_1 : Box wq (wb.heap.size + 1) #[.slice none 0 0] 24 := (by ((repeat (first | (with_reducible exact Box.newE _ _ _ (by first | rfl | (simp; (first | done | fail)))) | (with_reducible refine Box.drewS ?_) | (with_reducible refine Box.alloc ?_ _) | (with_reducible refine Box.below' ?_ hbq) | (with_reducible refine Box.below' ?_ hbb) | (with_reducible refine Box.below' ?_ hba))); (first | done | fail))); have le2_1 := Box.lt e2_1; have ke2_1 := Box.cell e2_1; have fe2_1 := Box.frozen e2_1 0))))
    all_goals
      go_wp2_with fail
      go_meet
      exact ⟨⟨_, Aq, nq, cq, rfl, (by first | omega | (simp; omega)), (by ((repeat (first | (with_reducible assumption) | (with_reducible exact Box.newE _ _ _ (by first | rfl | (simp; (first | done | fail)))) | (with_reducible refine Box.drewS ?_) | (with_reducible refine Box.alloc ?_ _) | (with_reducible refine Box.put1z ?_) | (with_reducible refine Box.put3z ?_) | (with_reducible refine Box.far3 ?_ (by first | omega | (simp; omega)) _ _ _) | (with_reducible refine Box.far1 ?_ (by first | omega | (simp; omega)) _))); (first | done | fail))), (by ((repeat (first | (with_reducible exact hq) | (with_reducible refine Cn.allocS ?_ _) | (with_reducible refine Cn.far1z ?_ (by ((repeat (first | (with_reducible assumption) | (with_reducible exact Box.newE _ _ _ (by first | rfl | (simp; (first | done | fail)))) | (with_reducible refine Box.drewS ?_) | (with_reducible refine Box.alloc ?_ _) | (with_reducible refine Box.put1z ?_) | (with_reducible refine Box.put3z ?_) | (with_reducible refine Box.far3 ?_ (by first | omega | (simp; omega)) _ _ _) | (with_reducible refine Box.far1 ?_ (by first | omega | (simp; omega)) _))); (first | done | fail))) _))); (first | done | fail)))⟩, (by ((repeat (first | (with_reducible assumption) | (with_reducible exact Below.refl _ _) | (with_reducible refine Below.drewS ?_) | (with_reducible refine Below.allocS ?_ _) | (with_reducible refine Below.setS ?_ (by first | omega | (simp; omega)) _))); (first | done | fail)))⟩
  case rest =>
  obtain ⟨⟨g7, Aq, nq, cq, rfl, hg7, bq, hq⟩, E6⟩ := hcut
  have hbA := hbA.trans (E6.mono hbA.size)
  have bR := bR.below' E6
  clear E6 KS lt3 ltt ltn b3 bt bn hA hB h4 hn tn
  have k7 := bq.cell
  have g0 := bR.cell
  have f0 := bR.frozen 0
  have ltR := bR.lt
  have lt7 := bq.lt
  generalize wc = W7 at *
  go_wp2_with fail
  have b3 := bR.put (.slice Aq nq cq)
  have h3 := hq.far (i := 0) bR noInt1 (.slice Aq nq cq)
  have hbZ : Below w.heap.size w (W7.setCell ⟨w.heap.size + 1, 0, none⟩ (.slice Aq nq cq)) := hbA.setCell (by show w.heap.size ≤ w.heap.size + 1; omega) _
  have k0 := b3.cell
  refine bodyPost_ret (v := .agg #[.slice Aq nq cq]) (by simp [results, Tryz.results58, go_sem, k0]) rfl ?_
  exact ⟨Aq, nq, cq, rfl, h3.1, h3.2.1, h3.2.2, hbZ⟩
end Go.Proofs.YtgfdeihfinlfoaaGreatDoor
