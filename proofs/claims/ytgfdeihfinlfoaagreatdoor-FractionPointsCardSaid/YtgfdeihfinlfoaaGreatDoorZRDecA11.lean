/- coinageref02.ParseDecimal: walks, under the contracts of what it calls. -/
import Derived.Test.YtgfdeihfinlfoaaGreatDoorZH
import Derived.Test.YtgfdeihfinlfoaaGreatDoorField
import Derived.Deep.RegionHeld3
import Derived.Test.YtgfdeihfinlfoaaGreatDoorBaseF
import Derived.Deep.CutRange
import Derived.WalkSpells
namespace Go.Proofs.YtgfdeihfinlfoaaGreatDoor
open Go Go.RowKit

set_option maxHeartbeats 8000000 in
set_option maxRecDepth 100000 in
theorem gd_myT11 (s : ByteArray) (K : Nat) (w : World) (hs : s.size ≤ 200)
    (p1 : ∀ W : World, Calls Tryz.prog 53 #[.string ((s.extract 1 s.size).extract 0 K)] W fun e w' => e = .returned (.bool true) ∧ W = w') (p2 : ∀ W : World, Calls Tryz.prog 53 #[.string ((s.extract 1 s.size).extract (K + 1) (s.size - 1))] W fun e w' => e = .returned (.bool true) ∧ W = w') (q0 : 0 < s.size) (q1 : (((s[0]'q0).toNat : Int) == 45) = true) (hK : K < (s.extract 1 s.size).size) (hc : (((((s.extract 1 s.size))[K]'hK).toNat : Int) == 46) = true) (hb : ∀ (k : Nat) (h : k < K), (((((s.extract 1 s.size))[k]'(Nat.lt_trans h hK)).toNat : Int) == 46) = false) (hkl : K + 1 < (s.size - 1)) (z1 : 1 < K) (z2 : 0 < ((s.extract 1 s.size).extract 0 K).size) (z3 : ((((((s.extract 1 s.size).extract 0 K))[0]'z2).toNat : Int) == 48) = false) (AL : ByteArray) (hAL : ((s.extract 1 s.size).extract 0 K) ++ ((s.extract 1 s.size).extract (K + 1) (s.size - 1)) = AL) (hd : AllDig (NB AL.data.toList)) (N : Nat) (hN : decV (NB AL.data.toList) = N) (hNL : N < B9 ^ 30) (hAs : AL.size ≤ 201) (hA0 : 0 < AL.size) (Q : Rat) (hQ : ((10 ^ ((s.size - 1) - (K + 1)) : Nat) : Rat) = Q) (hQ0 : Q ≠ 0) (hQL : Ht Q 24) (r : Rat) (hr : qv true N 1 / Q = r) :
    Calls Tryz.prog 18 #[.string s] w (GivesFE r 0 w) := by
  have P1 := hide p1
  have HB := hide hb
  have d0 : decide (200 < (s.size : Int)) = false := by simp; omega
  have P2 := hide p2
  have HC := hide hc
  have zD : (s.extract 1 s.size).size = s.size - 1 := by rw [ByteArray.size_extract]; omega
  have hK2 : K < s.size - 1 := by rw [zD] at hK; exact hK
  have zW : ((s.extract 1 s.size).extract 0 K).size = K := by rw [ByteArray.size_extract]; omega
  have ZW := hide zW
  have HAL := hide hAL
  have HD := hide hd
  have HN := hide hN
  have HNL := hide hNL
  have HQ := hide hQ
  have HQ0 := hide hQ0
  have HQL := hide hQL
  have HR := hide hr
  have HAs := hide hAs
  have HA0 := hide hA0
  have ZD := hide zD
  clear p1 hb p2 hc zW hAL hd hN hNL hQ hQ0 hQL hr hAs hA0 zD
  go_enter Tryz.func18, Tryz.ntmps18
  go_wp2_with fail
  generalize hW : w.alloc _ = W
  obtain ⟨B, bR, -⟩ := boxesA1 hW
  clear hW
  go_loopw [6, 7, 8, 9] (fun a b c i wr => ∃ k : Nat, i = .int .i64 (k : Int) ∧ Below W.heap.size W wr ∧ (k ≤ K ∧ a = .string (s.extract 1 s.size) ∧ b = .string ⟨#[]⟩ ∧ c = .bool false ∨ k = K + 1 ∧ a = .string ((s.extract 1 s.size).extract 0 K) ∧ b = .string ((s.extract 1 s.size).extract (K + 1) (s.size - 1)) ∧ c = .bool true)) (fun _ _ _ i _ => K + 2 - (intOf i).toNat)
  case atStart => exact ⟨0, rfl, Below.refl _ _, .inl ⟨by omega, rfl, rfl, rfl⟩⟩
  case round =>
    obtain ⟨k, rfl, Br, ⟨hk, rfl, rfl, rfl⟩ | ⟨rfl, rfl, rfl, rfl⟩⟩ := hrel
    · have hks : k < (s.size - 1) := by omega
      by_cases hlt : k < K
      · have e46 := HB.out k hlt
        go_wp2_with fail
        go_roundw
        case rel => exact ⟨k + 1, by go_num, Br, .inl ⟨by omega, rfl, rfl, rfl⟩⟩
        case measure => simp [intOf]; omega
      · obtain rfl : k = K := by omega
        have e46 := HC.out
        have kk0 : (0 : Int) ≤ (k : Int) := by omega
        have kk1 : (0 : Int) ≤ (k : Int) + 1 := by omega
        have kk2 : (k : Int) + 1 ≤ ((s.size - 1) : Nat) := by omega
        go_wp2_with fail
        go_region
        go_wp2_with fail
        go_roundw
        case rel => exact ⟨k + 1, by go_num, Br.drew, .inr ⟨rfl, rfl, rfl, rfl⟩⟩
        case measure => (simp [intOf]; try omega)
    · have bR := bR.below' Br
      have B := B.trans (Br.mono B.size)
      clear Br
      go_wp2_with fail
      have g0 : wr.cell? ⟨w.heap.size, 0, none⟩ = some (.bool false) := bR.at_ 0
      have g1 : wr.cell? ⟨w.heap.size, 1, none⟩ = some (.slice none 0 0) := bR.at_ 1
      have g2 : wr.cell? ⟨w.heap.size, 2, none⟩ = some (.slice none 0 0) := bR.at_ 2
      have f0 := bR.frozen 0
      have f1 := bR.frozen 1
      have f2 := bR.frozen 2
      have gz := bR.lt
      refine (P1.out _).mono ?_
      rintro e w1 ⟨rfl, rfl⟩
      go_wp2_with fail
      refine (P2.out _).mono ?_
      rintro e w1 ⟨rfl, rfl⟩
      go_wp2_with fail
      obtain ⟨wo, rfl⟩ : ∃ wo : World, wo = wr := ⟨_, rfl⟩
      have CP : Hid (∀ W : World, Calls Tryz.prog 55 #[.int .i64 ((((s.size - 1) - (K + 1)) : Nat) : Int)] W (GivesF Q W)) := fun W => gpow2_f ((s.size - 1) - (K + 1)) (by omega) W Q HQ.out
      have TN := hide (show Ht (qv true N 1) 60 from (qv_ht (L := 30) HNL.out (one_lt_B (by omega)) rfl).up (by omega))
      have TQ := hide (HQL.out.up (show 24 ≤ 60 by omega))
      go_loopg [10] 200 (fun gk t wq => ∃ sq : ByteArray, t = .string sq ∧ wq = wo ∧ DecS sq N ∧ sq.size ≤ gk + 1 ∧ sq.size ≤ 201)
      case atStart => exact ⟨_, rfl, rfl, by rw [HAL.out]; exact ⟨HD.out, HN.out, HA0.out⟩, by rw [HAL.out]; exact HAs.out, by rw [HAL.out]; exact HAs.out⟩
      case round =>
        obtain ⟨sq, rfl, rfl, hds, hsz, hsz2⟩ := hrel
        have HDS := hide hds
        have hpos : 0 < sq.size := hds.2.2
        clear hds
        by_cases h1 : sq.size ≤ 1
        · have P3 : Hid (∀ W : World, Calls Tryz.prog 46 #[.string sq] W (GivesNE N 0 W)) := HDS.out.parse (HDS.out.small h1) (by omega)
          go_wp2_with fail
          refine (P3.out _).mono ?_
          rintro e w3 hg
          obtain ⟨A3, n3, c3, rfl, a3, hb⟩ := hg.cn
          have B := B.trans (hb.mono B.size)
          have bR := bR.below' hb
          clear hb hg
          clear g0 g1 g2 f0 f1 f2 gz
          go_wp2_with fail
          generalize hW : w3.alloc _ = W5
          obtain ⟨hb, bn, -⟩ := boxesA1 hW
          clear hW
          have bR := bR.below' hb
          have a3 := a3.below hb
          have B := B.trans (hb.mono B.size)
          clear hb
          generalize w3.heap.size = gn at *
          have KS : Hid (∀ w', Below W5.heap.size W5 w' → w'.cell? ⟨gn, 0, none⟩ = some (.slice A3 n3 c3)) := fun w' h => (bn.below' h).at_ 0
          go_cut [13, 14] from 92 to 102 (fun s13 s14 wx => (MadeF W5 r s13 wx ∧ s14 = .int .i64 0) ∧ Below W5.heap.size W5 wx)
          case first =>
            go_region_held3 (fun w' => w'.cell? ⟨gn, 0, none⟩ = some (.slice A3 n3 c3))
              (exact KS.out _ (by ((repeat (first | (with_reducible assumption) | (with_reducible exact Below.refl _ _) | (with_reducible refine Below.drewS ?_) | (with_reducible refine Below.allocS ?_ _) | (with_reducible refine Below.setS ?_ (by first | omega | (simp; omega)) _))); (first | done | fail))))
              (first
                | (go_at_call 38; (with_reducible refine (gof_one _).mono ?_); rintro e wa ⟨Aa, na, ca, rfl, ra, la, ma, hba⟩; have Ea : Below W5.heap.size W5 wa := Below.next (by ((repeat (first | (with_reducible assumption) | (with_reducible exact Below.refl _ _) | (with_reducible refine Below.drewS ?_) | (with_reducible refine Below.allocS ?_ _) | (with_reducible refine Below.setS ?_ (by first | omega | (simp; omega)) _))); (first | done | fail))) hba; have za := Ea.size; have ya := hba.size; (try simp at ya); have ha : Cn wa Aa na ca 1 := ⟨ra, la, ma⟩; clear ra la ma)
                | (go_at_call 48; (with_reducible refine (gnew_f (L := 30) (frMk ((a3.below (by ((repeat (first | (with_reducible assumption) | (with_reducible exact Below.refl _ _) | (with_reducible refine Below.drewS ?_) | (with_reducible refine Below.allocS ?_ _) | (with_reducible refine Below.setS ?_ (by first | omega | (simp; omega)) _))); (first | done | fail)))).nt HNL.out) ((ha.below (by ((repeat (first | (with_reducible assumption) | (with_reducible exact Below.refl _ _) | (with_reducible refine Below.drewS ?_) | (with_reducible refine Below.allocS ?_ _) | (with_reducible refine Below.setS ?_ (by first | omega | (simp; omega)) _))); (first | done | fail)))).nt (one_lt_B (by omega))) rfl) (by omega) (by omega)).mono ?_); rintro e wb ⟨pb, Ab, nb, cb, Bb, mb, db, rfl, xb, hbb⟩; have Eb : Below W5.heap.size W5 wb := Below.next (by ((repeat (first | (with_reducible assumption) | (with_reducible exact Below.refl _ _) | (with_reducible refine Below.drewS ?_) | (with_reducible refine Below.allocS ?_ _) | (with_reducible refine Below.setS ?_ (by first | omega | (simp; omega)) _))); (first | done | fail))) hbb; have zb := Eb.size; have yb := hbb.size; (try simp at yb))
                | (go_at_call 55; (with_reducible refine (CP.out _).mono ?_); rintro e wc ⟨pc, Ac, nc, cc, Bc, mc, dc, rfl, xc, hbc⟩; have Ec : Below W5.heap.size W5 wc := Below.next (by ((repeat (first | (with_reducible assumption) | (with_reducible exact Below.refl _ _) | (with_reducible refine Below.drewS ?_) | (with_reducible refine Below.allocS ?_ _) | (with_reducible refine Below.setS ?_ (by first | omega | (simp; omega)) _))); (first | done | fail))) hbc; have zc := Ec.size; have yc := hbc.size; (try simp at yc))
                | (go_at_call 54; (with_reducible refine (gdiv_f (L := 60) (((xb.below (Below.next (by ((repeat (first | (with_reducible assumption) | (with_reducible exact Below.refl _ _) | (with_reducible refine Below.drewS ?_) | (with_reducible refine Below.allocS ?_ _) | (with_reducible refine Below.setS ?_ (by first | omega | (simp; omega)) _))); (first | done | fail))) hbc)).below (by ((repeat (first | (with_reducible assumption) | (with_reducible exact Below.refl _ _) | (with_reducible refine Below.drewS ?_) | (with_reducible refine Below.allocS ?_ _) | (with_reducible refine Below.setS ?_ (by first | omega | (simp; omega)) _))); (first | done | fail)))).fr TN.out) ((xc.below (by ((repeat (first | (with_reducible assumption) | (with_reducible exact Below.refl _ _) | (with_reducible refine Below.drewS ?_) | (with_reducible refine Below.allocS ?_ _) | (with_reducible refine Below.setS ?_ (by first | omega | (simp; omega)) _))); (first | done | fail)))).fr TQ.out) (by omega) (by omega) HQ0.out r HR.out).mono ?_); rintro e wd ⟨pd, Ad, nd, cd, Bd, md, dd, rfl, xd, hbd⟩; have Ed : Below W5.heap.size W5 wd := Below.next (by ((repeat (first | (with_reducible assumption) | (with_reducible exact Below.refl _ _) | (with_reducible refine Below.drewS ?_) | (with_reducible refine Below.allocS ?_ _) | (with_reducible refine Below.setS ?_ (by first | omega | (simp; omega)) _))); (first | done | fail))) hbd; have zd := Ed.size; have yd := hbd.size; (try simp at yd); (try (have q0_0 : W5.heap.size < wd.heap.size := by omega)); (try (have q1_0 : wa.heap.size < wd.heap.size := by omega)); (try (have q2_0 : wb.heap.size < wd.heap.size := by omega)); (try (have q3_0 : wc.heap.size < wd.heap.size := by omega)); (try (have e0_0 : Box wd (W5.heap.size) #[.bool false, .slice none 0 0, .slice none 0 0] 26 := (by ((repeat (first | (with_reducible exact Box.newE _ _ _ (by first | rfl | (simp; (first | done | fail)))) | (with_reducible refine Box.drewS ?_) | (with_reducible refine Box.alloc ?_ _) | (with_reducible refine Box.below' ?_ hbd) | (with_reducible refine Box.below' ?_ hbc) | (with_reducible refine Box.below' ?_ hbb) | (with_reducible refine Box.below' ?_ hba))); (first | done | fail))); have le0_0 := Box.lt e0_0; have k0e0_0 : wd.cell? ⟨W5.heap.size, 0, none⟩ = some (.bool false) := Box.at_ e0_0 0; have k1e0_0 : wd.cell? ⟨W5.heap.size, 1, none⟩ = some (.slice none 0 0) := Box.at_ e0_0 1; have k2e0_0 : wd.cell? ⟨W5.heap.size, 2, none⟩ = some (.slice none 0 0) := Box.at_ e0_0 2; have f0e0_0 := Box.frozen e0_0 0; have f1e0_0 := Box.frozen e0_0 1; have f2e0_0 := Box.frozen e0_0 2)); (try (have e1_0 : Box wd (wa.heap.size) #[.bool false, .slice none 0 0, .slice none 0 0] 26 := (by ((repeat (first | (with_reducible exact Box.newE _ _ _ (by first | rfl | (simp; (first | done | fail)))) | (with_reducible refine Box.drewS ?_) | (with_reducible refine Box.alloc ?_ _) | (with_reducible refine Box.below' ?_ hbd) | (with_reducible refine Box.below' ?_ hbc) | (with_reducible refine Box.below' ?_ hbb) | (with_reducible refine Box.below' ?_ hba))); (first | done | fail))); have le1_0 := Box.lt e1_0; have k0e1_0 : wd.cell? ⟨wa.heap.size, 0, none⟩ = some (.bool false) := Box.at_ e1_0 0; have k1e1_0 : wd.cell? ⟨wa.heap.size, 1, none⟩ = some (.slice none 0 0) := Box.at_ e1_0 1; have k2e1_0 : wd.cell? ⟨wa.heap.size, 2, none⟩ = some (.slice none 0 0) := Box.at_ e1_0 2; have f0e1_0 := Box.frozen e1_0 0; have f1e1_0 := Box.frozen e1_0 1; have f2e1_0 := Box.frozen e1_0 2)); (try (have e2_0 : Box wd (wb.heap.size) #[.bool false, .slice none 0 0, .slice none 0 0] 26 := (by ((repeat (first | (with_reducible exact Box.newE _ _ _ (by first | rfl | (simp; (first | done | fail)))) | (with_reducible refine Box.drewS ?_) | (with_reducible refine Box.alloc ?_ _) | (with_reducible refine Box.below' ?_ hbd) | (with_reducible refine Box.below' ?_ hbc) | (with_reducible refine Box.below' ?_ hbb) | (with_reducible refine Box.below' ?_ hba))); (first | done | fail))); have le2_0 := Box.lt e2_0; have k0e2_0 : wd.cell? ⟨wb.heap.size, 0, none⟩ = some (.bool false) := Box.at_ e2_0 0; have k1e2_0 : wd.cell? ⟨wb.heap.size, 1, none⟩ = some (.slice none 0 0) := Box.at_ e2_0 1; have k2e2_0 : wd.cell? ⟨wb.heap.size, 2, none⟩ = some (.slice none 0 0) := Box.at_ e2_0 2; have f0e2_0 := Box.frozen e2_0 0; have f1e2_0 := Box.frozen e2_0 1; have f2e2_0 := Box.frozen e2_0 2)); (try (have e3_0 : Box wd (wc.heap.size) #[.bool false, .slice none 0 0, .slice none 0 0] 26 := (by ((repeat (first | (with_reducible exact Box.newE _ _ _ (by first | rfl | (simp; (first | done | fail)))) | (with_reducible refine Box.drewS ?_) | (with_reducible refine Box.alloc ?_ _) | (with_reducible refine Box.below' ?_ hbd) | (with_reducible refine Box.below' ?_ hbc) | (with_reducible refine Box.below' ?_ hbb) | (with_reducible refine Box.below' ?_ hba))); (first | done | fail))); have le3_0 := Box.lt e3_0; have k0e3_0 : wd.cell? ⟨wc.heap.size, 0, none⟩ = some (.bool false) := Box.at_ e3_0 0; have k1e3_0 : wd.cell? ⟨wc.heap.size, 1, none⟩ = some (.slice none 0 0) := Box.at_ e3_0 1; have k2e3_0 : wd.cell? ⟨wc.heap.size, 2, none⟩ = some (.slice none 0 0) := Box.at_ e3_0 2; have f0e3_0 := Box.frozen e3_0 0; have f1e3_0 := Box.frozen e3_0 1; have f2e3_0 := Box.frozen e3_0 2))))
            all_goals
              go_wp2_with fail
              go_meet
              exact ⟨⟨⟨_, pd, Ad, nd, cd, Bd, md, dd, rfl, (by first | omega | (simp; omega)), (by ((repeat (first | (with_reducible assumption) | (with_reducible exact Box.newE _ _ _ (by first | rfl | (simp; (first | done | fail)))) | (with_reducible refine Box.drewS ?_) | (with_reducible refine Box.alloc ?_ _) | (with_reducible refine Box.put1z ?_) | (with_reducible refine Box.put3z ?_) | (with_reducible refine Box.far3 ?_ (by first | omega | (simp; omega)) _ _ _) | (with_reducible refine Box.far1 ?_ (by first | omega | (simp; omega)) _))); (first | done | fail))), (by ((repeat (first | (with_reducible assumption) | (with_reducible refine Fc.drewS ?_) | (with_reducible refine Fc.allocS ?_ _) | (with_reducible refine Fc.far3z ?_ (by ((repeat (first | (with_reducible assumption) | (with_reducible exact Box.newE _ _ _ (by first | rfl | (simp; (first | done | fail)))) | (with_reducible refine Box.drewS ?_) | (with_reducible refine Box.alloc ?_ _) | (with_reducible refine Box.put1z ?_) | (with_reducible refine Box.put3z ?_) | (with_reducible refine Box.far3 ?_ (by first | omega | (simp; omega)) _ _ _) | (with_reducible refine Box.far1 ?_ (by first | omega | (simp; omega)) _))); (first | done | fail))) _ _ _ _ _ _ _) | (with_reducible refine Fc.far1z ?_ (by ((repeat (first | (with_reducible assumption) | (with_reducible exact Box.newE _ _ _ (by first | rfl | (simp; (first | done | fail)))) | (with_reducible refine Box.drewS ?_) | (with_reducible refine Box.alloc ?_ _) | (with_reducible refine Box.put1z ?_) | (with_reducible refine Box.put3z ?_) | (with_reducible refine Box.far3 ?_ (by first | omega | (simp; omega)) _ _ _) | (with_reducible refine Box.far1 ?_ (by first | omega | (simp; omega)) _))); (first | done | fail))) _))); (first | done | fail)))⟩, rfl⟩, (by ((repeat (first | (with_reducible assumption) | (with_reducible exact Below.refl _ _) | (with_reducible refine Below.drewS ?_) | (with_reducible refine Below.allocS ?_ _) | (with_reducible refine Below.setS ?_ (by first | omega | (simp; omega)) _))); (first | done | fail)))⟩
          case rest =>
            obtain ⟨⟨⟨g6, p5, A7, n7, c7, B7, m7, d7, rfl, hg6, b6, x5⟩, rfl⟩, E6⟩ := hcut
            have B := B.trans (E6.mono B.size)
            have bR := bR.below' E6
            clear E6 KS hg6 bn a3
            generalize wc = W6 at *
            have q0 : W6.cell? ⟨g6, 0, none⟩ = some (.bool p5) := b6.at_ 0
            have q1 : W6.cell? ⟨g6, 1, none⟩ = some (.slice A7 n7 c7) := b6.at_ 1
            have q2 : W6.cell? ⟨g6, 2, none⟩ = some (.slice B7 m7 d7) := b6.at_ 2
            have g0 : W6.cell? ⟨w.heap.size, 0, none⟩ = some (.bool false) := bR.at_ 0
            have g1 : W6.cell? ⟨w.heap.size, 1, none⟩ = some (.slice none 0 0) := bR.at_ 1
            have g2 : W6.cell? ⟨w.heap.size, 2, none⟩ = some (.slice none 0 0) := bR.at_ 2
            have f0 := bR.frozen 0
            have f1 := bR.frozen 1
            have f2 := bR.frozen 2
            have gz := bR.lt
            go_wp2_with fail
            clear g0 g1 g2 f0 f1 f2 q0 q1 q2
            generalize hW3 : ((W6.setCell _ _).setCell _ _).setCell _ _ = W3
            obtain ⟨b3, -, C3, B4, -⟩ := put3 bR hW3
            clear hW3
            have k0 : W3.cell? ⟨w.heap.size, 0, none⟩ = some (.bool p5) := b3.at_ 0
            have k1 : W3.cell? ⟨w.heap.size, 1, none⟩ = some (.slice A7 n7 c7) := b3.at_ 1
            have k2 : W3.cell? ⟨w.heap.size, 2, none⟩ = some (.slice B7 m7 d7) := b3.at_ 2
            refine bodyPost_ret (v := .tuple #[.agg #[.bool p5, .slice A7 n7 c7, .slice B7 m7 d7], .int .i64 0]) (by simp [results, Tryz.results18, go_sem, k0, k1, k2]) rfl ?_
            exact ⟨p5, A7, n7, c7, B7, m7, d7, rfl, ⟨x5.1, C3 _ _ _ _ x5.2.1, C3 _ _ _ _ x5.2.2⟩, B4 _ _ B (by omega)⟩
        · have h1 : 1 < sq.size := by omega
          rcases e48 : ((sq[0].toNat : Int) == 48) with _ | _
          · have P3 : Hid (∀ W : World, Calls Tryz.prog 46 #[.string sq] W (GivesNE N 0 W)) := HDS.out.parse (HDS.out.big hpos e48) (by omega)
            go_wp2_with fail
            refine (P3.out _).mono ?_
            rintro e w3 hg
            obtain ⟨A3, n3, c3, rfl, a3, hb⟩ := hg.cn
            have B := B.trans (hb.mono B.size)
            have bR := bR.below' hb
            clear hb hg
            clear g0 g1 g2 f0 f1 f2 gz
            go_wp2_with fail
            generalize hW : w3.alloc _ = W5
            obtain ⟨hb, bn, -⟩ := boxesA1 hW
            clear hW
            have bR := bR.below' hb
            have a3 := a3.below hb
            have B := B.trans (hb.mono B.size)
            clear hb
            generalize w3.heap.size = gn at *
            have KS : Hid (∀ w', Below W5.heap.size W5 w' → w'.cell? ⟨gn, 0, none⟩ = some (.slice A3 n3 c3)) := fun w' h => (bn.below' h).at_ 0
            go_cut [13, 14] from 92 to 102 (fun s13 s14 wx => (MadeF W5 r s13 wx ∧ s14 = .int .i64 0) ∧ Below W5.heap.size W5 wx)
            case first =>
              go_region_held3 (fun w' => w'.cell? ⟨gn, 0, none⟩ = some (.slice A3 n3 c3))
                (exact KS.out _ (by ((repeat (first | (with_reducible assumption) | (with_reducible exact Below.refl _ _) | (with_reducible refine Below.drewS ?_) | (with_reducible refine Below.allocS ?_ _) | (with_reducible refine Below.setS ?_ (by first | omega | (simp; omega)) _))); (first | done | fail))))
                (first
                  | (go_at_call 38; (with_reducible refine (gof_one _).mono ?_); rintro e wa ⟨Aa, na, ca, rfl, ra, la, ma, hba⟩; have Ea : Below W5.heap.size W5 wa := Below.next (by ((repeat (first | (with_reducible assumption) | (with_reducible exact Below.refl _ _) | (with_reducible refine Below.drewS ?_) | (with_reducible refine Below.allocS ?_ _) | (with_reducible refine Below.setS ?_ (by first | omega | (simp; omega)) _))); (first | done | fail))) hba; have za := Ea.size; have ya := hba.size; (try simp at ya); have ha : Cn wa Aa na ca 1 := ⟨ra, la, ma⟩; clear ra la ma)
                  | (go_at_call 48; (with_reducible refine (gnew_f (L := 30) (frMk ((a3.below (by ((repeat (first | (with_reducible assumption) | (with_reducible exact Below.refl _ _) | (with_reducible refine Below.drewS ?_) | (with_reducible refine Below.allocS ?_ _) | (with_reducible refine Below.setS ?_ (by first | omega | (simp; omega)) _))); (first | done | fail)))).nt HNL.out) ((ha.below (by ((repeat (first | (with_reducible assumption) | (with_reducible exact Below.refl _ _) | (with_reducible refine Below.drewS ?_) | (with_reducible refine Below.allocS ?_ _) | (with_reducible refine Below.setS ?_ (by first | omega | (simp; omega)) _))); (first | done | fail)))).nt (one_lt_B (by omega))) rfl) (by omega) (by omega)).mono ?_); rintro e wb ⟨pb, Ab, nb, cb, Bb, mb, db, rfl, xb, hbb⟩; have Eb : Below W5.heap.size W5 wb := Below.next (by ((repeat (first | (with_reducible assumption) | (with_reducible exact Below.refl _ _) | (with_reducible refine Below.drewS ?_) | (with_reducible refine Below.allocS ?_ _) | (with_reducible refine Below.setS ?_ (by first | omega | (simp; omega)) _))); (first | done | fail))) hbb; have zb := Eb.size; have yb := hbb.size; (try simp at yb))
                  | (go_at_call 55; (with_reducible refine (CP.out _).mono ?_); rintro e wc ⟨pc, Ac, nc, cc, Bc, mc, dc, rfl, xc, hbc⟩; have Ec : Below W5.heap.size W5 wc := Below.next (by ((repeat (first | (with_reducible assumption) | (with_reducible exact Below.refl _ _) | (with_reducible refine Below.drewS ?_) | (with_reducible refine Below.allocS ?_ _) | (with_reducible refine Below.setS ?_ (by first | omega | (simp; omega)) _))); (first | done | fail))) hbc; have zc := Ec.size; have yc := hbc.size; (try simp at yc))
                  | (go_at_call 54; (with_reducible refine (gdiv_f (L := 60) (((xb.below (Below.next (by ((repeat (first | (with_reducible assumption) | (with_reducible exact Below.refl _ _) | (with_reducible refine Below.drewS ?_) | (with_reducible refine Below.allocS ?_ _) | (with_reducible refine Below.setS ?_ (by first | omega | (simp; omega)) _))); (first | done | fail))) hbc)).below (by ((repeat (first | (with_reducible assumption) | (with_reducible exact Below.refl _ _) | (with_reducible refine Below.drewS ?_) | (with_reducible refine Below.allocS ?_ _) | (with_reducible refine Below.setS ?_ (by first | omega | (simp; omega)) _))); (first | done | fail)))).fr TN.out) ((xc.below (by ((repeat (first | (with_reducible assumption) | (with_reducible exact Below.refl _ _) | (with_reducible refine Below.drewS ?_) | (with_reducible refine Below.allocS ?_ _) | (with_reducible refine Below.setS ?_ (by first | omega | (simp; omega)) _))); (first | done | fail)))).fr TQ.out) (by omega) (by omega) HQ0.out r HR.out).mono ?_); rintro e wd ⟨pd, Ad, nd, cd, Bd, md, dd, rfl, xd, hbd⟩; have Ed : Below W5.heap.size W5 wd := Below.next (by ((repeat (first | (with_reducible assumption) | (with_reducible exact Below.refl _ _) | (with_reducible refine Below.drewS ?_) | (with_reducible refine Below.allocS ?_ _) | (with_reducible refine Below.setS ?_ (by first | omega | (simp; omega)) _))); (first | done | fail))) hbd; have zd := Ed.size; have yd := hbd.size; (try simp at yd); (try (have q0_0 : W5.heap.size < wd.heap.size := by omega)); (try (have q1_0 : wa.heap.size < wd.heap.size := by omega)); (try (have q2_0 : wb.heap.size < wd.heap.size := by omega)); (try (have q3_0 : wc.heap.size < wd.heap.size := by omega)); (try (have e0_0 : Box wd (W5.heap.size) #[.bool false, .slice none 0 0, .slice none 0 0] 26 := (by ((repeat (first | (with_reducible exact Box.newE _ _ _ (by first | rfl | (simp; (first | done | fail)))) | (with_reducible refine Box.drewS ?_) | (with_reducible refine Box.alloc ?_ _) | (with_reducible refine Box.below' ?_ hbd) | (with_reducible refine Box.below' ?_ hbc) | (with_reducible refine Box.below' ?_ hbb) | (with_reducible refine Box.below' ?_ hba))); (first | done | fail))); have le0_0 := Box.lt e0_0; have k0e0_0 : wd.cell? ⟨W5.heap.size, 0, none⟩ = some (.bool false) := Box.at_ e0_0 0; have k1e0_0 : wd.cell? ⟨W5.heap.size, 1, none⟩ = some (.slice none 0 0) := Box.at_ e0_0 1; have k2e0_0 : wd.cell? ⟨W5.heap.size, 2, none⟩ = some (.slice none 0 0) := Box.at_ e0_0 2; have f0e0_0 := Box.frozen e0_0 0; have f1e0_0 := Box.frozen e0_0 1; have f2e0_0 := Box.frozen e0_0 2)); (try (have e1_0 : Box wd (wa.heap.size) #[.bool false, .slice none 0 0, .slice none 0 0] 26 := (by ((repeat (first | (with_reducible exact Box.newE _ _ _ (by first | rfl | (simp; (first | done | fail)))) | (with_reducible refine Box.drewS ?_) | (with_reducible refine Box.alloc ?_ _) | (with_reducible refine Box.below' ?_ hbd) | (with_reducible refine Box.below' ?_ hbc) | (with_reducible refine Box.below' ?_ hbb) | (with_reducible refine Box.below' ?_ hba))); (first | done | fail))); have le1_0 := Box.lt e1_0; have k0e1_0 : wd.cell? ⟨wa.heap.size, 0, none⟩ = some (.bool false) := Box.at_ e1_0 0; have k1e1_0 : wd.cell? ⟨wa.heap.size, 1, none⟩ = some (.slice none 0 0) := Box.at_ e1_0 1; have k2e1_0 : wd.cell? ⟨wa.heap.size, 2, none⟩ = some (.slice none 0 0) := Box.at_ e1_0 2; have f0e1_0 := Box.frozen e1_0 0; have f1e1_0 := Box.frozen e1_0 1; have f2e1_0 := Box.frozen e1_0 2)); (try (have e2_0 : Box wd (wb.heap.size) #[.bool false, .slice none 0 0, .slice none 0 0] 26 := (by ((repeat (first | (with_reducible exact Box.newE _ _ _ (by first | rfl | (simp; (first | done | fail)))) | (with_reducible refine Box.drewS ?_) | (with_reducible refine Box.alloc ?_ _) | (with_reducible refine Box.below' ?_ hbd) | (with_reducible refine Box.below' ?_ hbc) | (with_reducible refine Box.below' ?_ hbb) | (with_reducible refine Box.below' ?_ hba))); (first | done | fail))); have le2_0 := Box.lt e2_0; have k0e2_0 : wd.cell? ⟨wb.heap.size, 0, none⟩ = some (.bool false) := Box.at_ e2_0 0; have k1e2_0 : wd.cell? ⟨wb.heap.size, 1, none⟩ = some (.slice none 0 0) := Box.at_ e2_0 1; have k2e2_0 : wd.cell? ⟨wb.heap.size, 2, none⟩ = some (.slice none 0 0) := Box.at_ e2_0 2; have f0e2_0 := Box.frozen e2_0 0; have f1e2_0 := Box.frozen e2_0 1; have f2e2_0 := Box.frozen e2_0 2)); (try (have e3_0 : Box wd (wc.heap.size) #[.bool false, .slice none 0 0, .slice none 0 0] 26 := (by ((repeat (first | (with_reducible exact Box.newE _ _ _ (by first | rfl | (simp; (first | done | fail)))) | (with_reducible refine Box.drewS ?_) | (with_reducible refine Box.alloc ?_ _) | (with_reducible refine Box.below' ?_ hbd) | (with_reducible refine Box.below' ?_ hbc) | (with_reducible refine Box.below' ?_ hbb) | (with_reducible refine Box.below' ?_ hba))); (first | done | fail))); have le3_0 := Box.lt e3_0; have k0e3_0 : wd.cell? ⟨wc.heap.size, 0, none⟩ = some (.bool false) := Box.at_ e3_0 0; have k1e3_0 : wd.cell? ⟨wc.heap.size, 1, none⟩ = some (.slice none 0 0) := Box.at_ e3_0 1; have k2e3_0 : wd.cell? ⟨wc.heap.size, 2, none⟩ = some (.slice none 0 0) := Box.at_ e3_0 2; have f0e3_0 := Box.frozen e3_0 0; have f1e3_0 := Box.frozen e3_0 1; have f2e3_0 := Box.frozen e3_0 2))))
              all_goals
                go_wp2_with fail
                go_meet
                exact ⟨⟨⟨_, pd, Ad, nd, cd, Bd, md, dd, rfl, (by first | omega | (simp; omega)), (by ((repeat (first | (with_reducible assumption) | (with_reducible exact Box.newE _ _ _ (by first | rfl | (simp; (first | done | fail)))) | (with_reducible refine Box.drewS ?_) | (with_reducible refine Box.alloc ?_ _) | (with_reducible refine Box.put1z ?_) | (with_reducible refine Box.put3z ?_) | (with_reducible refine Box.far3 ?_ (by first | omega | (simp; omega)) _ _ _) | (with_reducible refine Box.far1 ?_ (by first | omega | (simp; omega)) _))); (first | done | fail))), (by ((repeat (first | (with_reducible assumption) | (with_reducible refine Fc.drewS ?_) | (with_reducible refine Fc.allocS ?_ _) | (with_reducible refine Fc.far3z ?_ (by ((repeat (first | (with_reducible assumption) | (with_reducible exact Box.newE _ _ _ (by first | rfl | (simp; (first | done | fail)))) | (with_reducible refine Box.drewS ?_) | (with_reducible refine Box.alloc ?_ _) | (with_reducible refine Box.put1z ?_) | (with_reducible refine Box.put3z ?_) | (with_reducible refine Box.far3 ?_ (by first | omega | (simp; omega)) _ _ _) | (with_reducible refine Box.far1 ?_ (by first | omega | (simp; omega)) _))); (first | done | fail))) _ _ _ _ _ _ _) | (with_reducible refine Fc.far1z ?_ (by ((repeat (first | (with_reducible assumption) | (with_reducible exact Box.newE _ _ _ (by first | rfl | (simp; (first | done | fail)))) | (with_reducible refine Box.drewS ?_) | (with_reducible refine Box.alloc ?_ _) | (with_reducible refine Box.put1z ?_) | (with_reducible refine Box.put3z ?_) | (with_reducible refine Box.far3 ?_ (by first | omega | (simp; omega)) _ _ _) | (with_reducible refine Box.far1 ?_ (by first | omega | (simp; omega)) _))); (first | done | fail))) _))); (first | done | fail)))⟩, rfl⟩, (by ((repeat (first | (with_reducible assumption) | (with_reducible exact Below.refl _ _) | (with_reducible refine Below.drewS ?_) | (with_reducible refine Below.allocS ?_ _) | (with_reducible refine Below.setS ?_ (by first | omega | (simp; omega)) _))); (first | done | fail)))⟩
            case rest =>
              obtain ⟨⟨⟨g6, p5, A7, n7, c7, B7, m7, d7, rfl, hg6, b6, x5⟩, rfl⟩, E6⟩ := hcut
              have B := B.trans (E6.mono B.size)
              have bR := bR.below' E6
              clear E6 KS hg6 bn a3
              generalize wc = W6 at *
              have q0 : W6.cell? ⟨g6, 0, none⟩ = some (.bool p5) := b6.at_ 0
              have q1 : W6.cell? ⟨g6, 1, none⟩ = some (.slice A7 n7 c7) := b6.at_ 1
              have q2 : W6.cell? ⟨g6, 2, none⟩ = some (.slice B7 m7 d7) := b6.at_ 2
              have g0 : W6.cell? ⟨w.heap.size, 0, none⟩ = some (.bool false) := bR.at_ 0
              have g1 : W6.cell? ⟨w.heap.size, 1, none⟩ = some (.slice none 0 0) := bR.at_ 1
              have g2 : W6.cell? ⟨w.heap.size, 2, none⟩ = some (.slice none 0 0) := bR.at_ 2
              have f0 := bR.frozen 0
              have f1 := bR.frozen 1
              have f2 := bR.frozen 2
              have gz := bR.lt
              go_wp2_with fail
              clear g0 g1 g2 f0 f1 f2 q0 q1 q2
              generalize hW3 : ((W6.setCell _ _).setCell _ _).setCell _ _ = W3
              obtain ⟨b3, -, C3, B4, -⟩ := put3 bR hW3
              clear hW3
              have k0 : W3.cell? ⟨w.heap.size, 0, none⟩ = some (.bool p5) := b3.at_ 0
              have k1 : W3.cell? ⟨w.heap.size, 1, none⟩ = some (.slice A7 n7 c7) := b3.at_ 1
              have k2 : W3.cell? ⟨w.heap.size, 2, none⟩ = some (.slice B7 m7 d7) := b3.at_ 2
              refine bodyPost_ret (v := .tuple #[.agg #[.bool p5, .slice A7 n7 c7, .slice B7 m7 d7], .int .i64 0]) (by simp [results, Tryz.results18, go_sem, k0, k1, k2]) rfl ?_
              exact ⟨p5, A7, n7, c7, B7, m7, d7, rfl, ⟨x5.1, C3 _ _ _ _ x5.2.1, C3 _ _ _ _ x5.2.2⟩, B4 _ _ B (by omega)⟩
          · have HNX := hide (HDS.out.next h1 e48)
            have zx : (sq.extract 1 sq.size).size = sq.size - 1 := by rw [ByteArray.size_extract]; omega
            have ZX := hide zx
            clear zx
            go_wp2_with fail
            go_roundg (gk - 1)
            case measure => omega
            case rel => exact ⟨_, rfl, rfl, HNX.out, by rw [ZX.out]; omega, by rw [ZX.out]; omega⟩
end Go.Proofs.YtgfdeihfinlfoaaGreatDoor
