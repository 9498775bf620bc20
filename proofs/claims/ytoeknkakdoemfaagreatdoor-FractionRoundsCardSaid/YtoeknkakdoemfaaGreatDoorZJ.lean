/- fraction.ParseDecimal: the walks, under the contracts of what it calls. -/
import Derived.Test.YtoeknkakdoemfaaGreatDoorZH
import Derived.Test.YtoeknkakdoemfaaGreatDoorZA
import Derived.Test.YtoeknkakdoemfaaGreatDoorFUnits
import Derived.Test.YtoeknkakdoemfaaGreatDoorBaseF
import Derived.Deep.CutRange
import Derived.Deep.RegionHeld3
import Derived.WalkSpells
import Derived.Test.YtoeknkakdoemfaaGreatDoorZB
import Derived.Test.YtoeknkakdoemfaaGreatDoorZI
import Derived.Test.YtoeknkakdoemfaaGreatDoorFOrder
import Derived.Test.YtoeknkakdoemfaaGreatDoorFRat
import Derived.IntWalk
import Derived.Test.YtoeknkakdoemfaaGreatDoorField
import Derived.Deep.RegionLaw
import Derived.BigQuiet
namespace Go.Proofs.YtoeknkakdoemfaaGreatDoor
open Go Go.RowKit

set_option maxHeartbeats 4000000 in
set_option maxRecDepth 100000 in
theorem pd_yE1 (s D SA SB : ByteArray) (g : Bool) (u v : Nat) (b : Bool) (w : World) (hT : Zw w) (hs : s.size ≤ 200)
    (c1 : ∀ W : World, Calls Tryz.prog 32 #[.string s, .string ⟨#[45]⟩] W fun e w' => e = .returned (.tuple #[.string D, .bool g]) ∧ W = w')
    (c2 : ∀ W : World, Zw W → Calls Tryz.prog 33 #[.string D, .string ⟨#[46]⟩] W fun e w' => e = .returned (.tuple #[.string SA, .string SB, .bool true]) ∧ Below W.heap.size W w')
    (p1 : ∀ W : World, Calls Tryz.prog 34 #[.string SA] W (GivesNE u 3 W)) (p2 : ∀ W : World, Calls Tryz.prog 49 #[.string SB] W (GivesNB v b W)) :
    Calls Tryz.prog 17 #[.string s] w (fun e w' => e = .returned (.tuple #[.agg #[.bool false, .slice none 0 0, .slice none 0 0], .int .i64 3]) ∧ Below w.heap.size w w') := by
  have HT := hide hT
  have C1 := hide c1
  have C2 := hide c2
  have P1 := hide p1
  have P2 := hide p2
  have d0 : decide (200 < (s.size : Int)) = false := by simp; omega
  clear hT c1 c2 p1 p2
  go_enter Tryz.func17, Tryz.ntmps17
  go_wp2_with fail
  generalize hW : w.alloc _ = W
  obtain ⟨B, bR, -⟩ := boxesA1 hW
  clear hW
  refine (C1.out _).mono ?_
  rintro e w1 ⟨rfl, rfl⟩
  go_wp2_with fail
  refine (C2.out _ (HT.out.below B)).mono ?_
  rintro e w2 ⟨rfl, hb⟩
  have bR := bR.below' hb
  have B := B.trans (hb.mono B.size)
  clear hb
  go_wp2_with fail
  refine (P1.out _).mono ?_
  rintro e w3 hg
  obtain ⟨A3, n3, c3, rfl, a3, hb⟩ := hg.cn
  have bR := bR.below' hb
  have B := B.trans (hb.mono B.size)
  clear hb hg
  go_wp2_with fail
  generalize hW : w3.alloc _ = W3
  obtain ⟨hb, bn, -⟩ := boxesA1 hW
  clear hW
  have bR := bR.below' hb
  have a3 := a3.below hb
  have B := B.trans (hb.mono B.size)
  clear hb
  generalize w3.heap.size = gn at *
  refine (P2.out _).mono ?_
  rintro e w4 ⟨A4, n4, c4, rfl, a4, hb⟩
  have bR := bR.below' hb
  have bn := bn.below' hb
  have a3 := a3.below hb
  have B := B.trans (hb.mono B.size)
  clear hb
  have g0 : w4.cell? ⟨w.heap.size, 0, none⟩ = some (.bool false) := bR.at_ 0
  have g1 : w4.cell? ⟨w.heap.size, 1, none⟩ = some (.slice none 0 0) := bR.at_ 1
  have g2 : w4.cell? ⟨w.heap.size, 2, none⟩ = some (.slice none 0 0) := bR.at_ 2
  have f0 := bR.frozen 0
  have f1 := bR.frozen 1
  have f2 := bR.frozen 2
  have gz := bR.lt
  go_wp2_with fail
  clear g0 g1 g2 f0 f1 f2
  generalize hW3 : ((World.setCell _ _ _).setCell _ _).setCell _ _ = W3
  obtain ⟨b3, -, C3, B4, -⟩ := put3 bR hW3
  clear hW3
  have B := B4 _ _ B (Nat.le_refl _)
  generalize hW : W3.alloc _ = W5
  obtain ⟨hb, -, -⟩ := boxesA1 hW
  clear hW
  have b3 := b3.below' hb
  have B := B.trans (hb.mono B.size)
  have k0 : W5.cell? ⟨w.heap.size, 0, none⟩ = some (.bool false) := b3.at_ 0
  have k1 : W5.cell? ⟨w.heap.size, 1, none⟩ = some (.slice none 0 0) := b3.at_ 1
  have k2 : W5.cell? ⟨w.heap.size, 2, none⟩ = some (.slice none 0 0) := b3.at_ 2
  refine bodyPost_ret (v := .tuple #[.agg #[.bool false, .slice none 0 0, .slice none 0 0], .int .i64 3]) (by simp [results, Tryz.results17, go_sem, k0, k1, k2]) rfl ?_
  exact ⟨rfl, B⟩
set_option maxHeartbeats 4000000 in
set_option maxRecDepth 100000 in
theorem pd_yE2 (s D SA SB : ByteArray) (g : Bool) (u v : Nat) (w : World) (hT : Zw w) (hs : s.size ≤ 200)
    (c1 : ∀ W : World, Calls Tryz.prog 32 #[.string s, .string ⟨#[45]⟩] W fun e w' => e = .returned (.tuple #[.string D, .bool g]) ∧ W = w')
    (c2 : ∀ W : World, Zw W → Calls Tryz.prog 33 #[.string D, .string ⟨#[46]⟩] W fun e w' => e = .returned (.tuple #[.string SA, .string SB, .bool true]) ∧ Below W.heap.size W w')
    (p1 : ∀ W : World, Calls Tryz.prog 34 #[.string SA] W (GivesNE u 0 W)) (p2 : ∀ W : World, Calls Tryz.prog 49 #[.string SB] W (GivesNB v false W)) :
    Calls Tryz.prog 17 #[.string s] w (fun e w' => e = .returned (.tuple #[.agg #[.bool false, .slice none 0 0, .slice none 0 0], .int .i64 3]) ∧ Below w.heap.size w w') := by
  have HT := hide hT
  have C1 := hide c1
  have C2 := hide c2
  have P1 := hide p1
  have P2 := hide p2
  have d0 : decide (200 < (s.size : Int)) = false := by simp; omega
  clear hT c1 c2 p1 p2
  go_enter Tryz.func17, Tryz.ntmps17
  go_wp2_with fail
  generalize hW : w.alloc _ = W
  obtain ⟨B, bR, -⟩ := boxesA1 hW
  clear hW
  refine (C1.out _).mono ?_
  rintro e w1 ⟨rfl, rfl⟩
  go_wp2_with fail
  refine (C2.out _ (HT.out.below B)).mono ?_
  rintro e w2 ⟨rfl, hb⟩
  have bR := bR.below' hb
  have B := B.trans (hb.mono B.size)
  clear hb
  go_wp2_with fail
  refine (P1.out _).mono ?_
  rintro e w3 hg
  obtain ⟨A3, n3, c3, rfl, a3, hb⟩ := hg.cn
  have bR := bR.below' hb
  have B := B.trans (hb.mono B.size)
  clear hb hg
  go_wp2_with fail
  generalize hW : w3.alloc _ = W3
  obtain ⟨hb, bn, -⟩ := boxesA1 hW
  clear hW
  have bR := bR.below' hb
  have a3 := a3.below hb
  have B := B.trans (hb.mono B.size)
  clear hb
  generalize w3.heap.size = gn at *
  refine (P2.out _).mono ?_
  rintro e w4 ⟨A4, n4, c4, rfl, a4, hb⟩
  have bR := bR.below' hb
  have bn := bn.below' hb
  have a3 := a3.below hb
  have B := B.trans (hb.mono B.size)
  clear hb
  have g0 : w4.cell? ⟨w.heap.size, 0, none⟩ = some (.bool false) := bR.at_ 0
  have g1 : w4.cell? ⟨w.heap.size, 1, none⟩ = some (.slice none 0 0) := bR.at_ 1
  have g2 : w4.cell? ⟨w.heap.size, 2, none⟩ = some (.slice none 0 0) := bR.at_ 2
  have f0 := bR.frozen 0
  have f1 := bR.frozen 1
  have f2 := bR.frozen 2
  have gz := bR.lt
  go_wp2_with fail
  clear g0 g1 g2 f0 f1 f2
  generalize hW3 : ((World.setCell _ _ _).setCell _ _).setCell _ _ = W3
  obtain ⟨b3, -, C3, B4, -⟩ := put3 bR hW3
  clear hW3
  have B := B4 _ _ B (Nat.le_refl _)
  generalize hW : W3.alloc _ = W5
  obtain ⟨hb, -, -⟩ := boxesA1 hW
  clear hW
  have b3 := b3.below' hb
  have B := B.trans (hb.mono B.size)
  have k0 : W5.cell? ⟨w.heap.size, 0, none⟩ = some (.bool false) := b3.at_ 0
  have k1 : W5.cell? ⟨w.heap.size, 1, none⟩ = some (.slice none 0 0) := b3.at_ 1
  have k2 : W5.cell? ⟨w.heap.size, 2, none⟩ = some (.slice none 0 0) := b3.at_ 2
  refine bodyPost_ret (v := .tuple #[.agg #[.bool false, .slice none 0 0, .slice none 0 0], .int .i64 3]) (by simp [results, Tryz.results17, go_sem, k0, k1, k2]) rfl ?_
  exact ⟨rfl, B⟩
set_option maxHeartbeats 4000000 in
set_option maxRecDepth 100000 in
theorem pd_yT (s D SA SB : ByteArray) (g : Bool) (u v : Nat) (w : World) (hT : Zw w) (hs : s.size ≤ 200)
    (c1 : ∀ W : World, Calls Tryz.prog 32 #[.string s, .string ⟨#[45]⟩] W fun e w' => e = .returned (.tuple #[.string D, .bool g]) ∧ W = w')
    (c2 : ∀ W : World, Zw W → Calls Tryz.prog 33 #[.string D, .string ⟨#[46]⟩] W fun e w' => e = .returned (.tuple #[.string SA, .string SB, .bool true]) ∧ Below W.heap.size W w')
    (p1 : ∀ W : World, Calls Tryz.prog 34 #[.string SA] W (GivesNE u 0 W)) (p2 : ∀ W : World, Calls Tryz.prog 49 #[.string SB] W (GivesNB v true W)) (hu : u < B9 ^ 30) (hv : v < B9 ^ 445) (k : Nat) (hk : SB.size = k) (hk2 : k ≤ 200) (Q : Nat) (hQ : 10 ^ k = Q) (hQ2 : Q < B9 ^ 30) (X : Nat) (hX : u * Q = X) (hXL : X < B9 ^ 445) (Y : Nat) (hY : X + v = Y) (hY2 : Y < B9 ^ 446) (r : Rat) (hr : qv g Y Q = r) :
    Calls Tryz.prog 17 #[.string s] w (GivesFE r 0 w) := by
  have HT := hide hT
  have C1 := hide c1
  have C2 := hide c2
  have P1 := hide p1
  have P2 := hide p2
  have d0 : decide (200 < (s.size : Int)) = false := by simp; omega
  have HU := hide hu
  have HV := hide hv
  have HQ := hide hQ
  have HQ2 := hide hQ2
  have HX := hide hX
  have HXL := hide hXL
  have HY := hide hY
  have HY2 := hide hY2
  have HR := hide hr
  have HK := hide hk
  clear hT c1 c2 p1 p2 hu hv hQ hQ2 hX hXL hY hY2 hr hk
  go_enter Tryz.func17, Tryz.ntmps17
  go_wp2_with fail
  generalize hW : w.alloc _ = W
  obtain ⟨B, bR, -⟩ := boxesA1 hW
  clear hW
  refine (C1.out _).mono ?_
  rintro e w1 ⟨rfl, rfl⟩
  go_wp2_with fail
  refine (C2.out _ (HT.out.below B)).mono ?_
  rintro e w2 ⟨rfl, hb⟩
  have bR := bR.below' hb
  have B := B.trans (hb.mono B.size)
  clear hb
  go_wp2_with fail
  refine (P1.out _).mono ?_
  rintro e w3 hg
  obtain ⟨A3, n3, c3, rfl, a3, hb⟩ := hg.cn
  have bR := bR.below' hb
  have B := B.trans (hb.mono B.size)
  clear hb hg
  go_wp2_with fail
  generalize hW : w3.alloc _ = W3
  obtain ⟨hb, bn, -⟩ := boxesA1 hW
  clear hW
  have bR := bR.below' hb
  have a3 := a3.below hb
  have B := B.trans (hb.mono B.size)
  clear hb
  generalize w3.heap.size = gn at *
  refine (P2.out _).mono ?_
  rintro e w4 ⟨A4, n4, c4, rfl, a4, hb⟩
  have bR := bR.below' hb
  have bn := bn.below' hb
  have a3 := a3.below hb
  have B := B.trans (hb.mono B.size)
  clear hb
  go_wp2_with fail
  generalize hW : w4.alloc _ = W4
  obtain ⟨hb, bd, -⟩ := boxesA1 hW
  clear hW
  have bR := bR.below' hb
  have bn := bn.below' hb
  have a3 := a3.below hb
  have a4 := a4.below hb
  have B := B.trans (hb.mono B.size)
  clear hb
  generalize w4.heap.size = gd at *
  rw [HK.out]
  refine (units_any k (by omega) _ Q HQ.out).mono ?_
  rintro e w5 hg
  obtain ⟨A5, n5, c5, rfl, a5, hb⟩ := hg.cn
  have bR := bR.below' hb
  have bn := bn.below' hb
  have bd := bd.below' hb
  have a3 := a3.below hb
  have a4 := a4.below hb
  have B := B.trans (hb.mono B.size)
  clear hb hg
  go_wp2_with fail
  generalize hW : w5.alloc _ = W5
  obtain ⟨hb, bu, -⟩ := boxesA1 hW
  clear hW
  have bR := bR.below' hb
  have bn := bn.below' hb
  have bd := bd.below' hb
  have a3 := a3.below hb
  have a4 := a4.below hb
  have a5 := a5.below hb
  have B := B.trans (hb.mono B.size)
  clear hb
  generalize w5.heap.size = gu at *
  have KS : Hid (∀ w', Below W5.heap.size W5 w' → w'.cell? ⟨gn, 0, none⟩ = some (.slice A3 n3 c3) ∧ w'.cell? ⟨gd, 0, none⟩ = some (.slice A4 n4 c4) ∧ w'.cell? ⟨gu, 0, none⟩ = some (.slice A5 n5 c5)) := fun w' h =>
    ⟨(bn.below' h).at_ 0, (bd.below' h).at_ 0, (bu.below' h).at_ 0⟩
  go_cut [14] from 53 to 57 (fun s14 wx => MadeN W5 Y s14 wx ∧ Below W5.heap.size W5 wx)
  case first =>
    go_region_held3 (fun w' => w'.cell? ⟨gn, 0, none⟩ = some (.slice A3 n3 c3) ∧ w'.cell? ⟨gd, 0, none⟩ = some (.slice A4 n4 c4) ∧ w'.cell? ⟨gu, 0, none⟩ = some (.slice A5 n5 c5))
      (exact KS.out _ (by ((repeat (first | (with_reducible assumption) | (with_reducible exact Below.refl _ _) | (with_reducible refine Below.drewS ?_) | (with_reducible refine Below.allocS ?_ _) | (with_reducible refine Below.setS ?_ (by first | omega | (simp; omega)) _))); (first | done | fail))))
      (first
        | (go_at_call 52; (with_reducible refine (mul_n (L := 30) ((a3.below (by ((repeat (first | (with_reducible assumption) | (with_reducible exact Below.refl _ _) | (with_reducible refine Below.drewS ?_) | (with_reducible refine Below.allocS ?_ _) | (with_reducible refine Below.setS ?_ (by first | omega | (simp; omega)) _))); (first | done | fail)))).nt HU.out) ((a5.below (by ((repeat (first | (with_reducible assumption) | (with_reducible exact Below.refl _ _) | (with_reducible refine Below.drewS ?_) | (with_reducible refine Below.allocS ?_ _) | (with_reducible refine Below.setS ?_ (by first | omega | (simp; omega)) _))); (first | done | fail)))).nt HQ2.out) (by omega) X HX.out).mono ?_); rintro e wm ⟨Am, nm, cm, rfl, rm, lm, mm, hbm⟩; have Em : Below W5.heap.size W5 wm := Below.next (by ((repeat (first | (with_reducible assumption) | (with_reducible exact Below.refl _ _) | (with_reducible refine Below.drewS ?_) | (with_reducible refine Below.allocS ?_ _) | (with_reducible refine Below.setS ?_ (by first | omega | (simp; omega)) _))); (first | done | fail))) hbm; have zm := Em.size; have ym := hbm.size; (try simp at ym); have hm : Cn wm Am nm cm X := ⟨rm, lm, mm⟩; clear rm lm mm)
        | (go_at_call 51; (with_reducible refine (add_n (L := 445) ((hm.below (by ((repeat (first | (with_reducible assumption) | (with_reducible exact Below.refl _ _) | (with_reducible refine Below.drewS ?_) | (with_reducible refine Below.allocS ?_ _) | (with_reducible refine Below.setS ?_ (by first | omega | (simp; omega)) _))); (first | done | fail)))).nt HXL.out) ((a4.below (by ((repeat (first | (with_reducible assumption) | (with_reducible exact Below.refl _ _) | (with_reducible refine Below.drewS ?_) | (with_reducible refine Below.allocS ?_ _) | (with_reducible refine Below.setS ?_ (by first | omega | (simp; omega)) _))); (first | done | fail)))).nt HV.out) (by omega) Y HY.out).mono ?_); rintro e wn ⟨An, nn, cn, rfl, rn, ln, mn, hbn⟩; have En : Below W5.heap.size W5 wn := Below.next (by ((repeat (first | (with_reducible assumption) | (with_reducible exact Below.refl _ _) | (with_reducible refine Below.drewS ?_) | (with_reducible refine Below.allocS ?_ _) | (with_reducible refine Below.setS ?_ (by first | omega | (simp; omega)) _))); (first | done | fail))) hbn; have zn := En.size; have yn := hbn.size; (try simp at yn); (try (have q0_0 : W5.heap.size < wn.heap.size := by omega)); (try (have q1_0 : wm.heap.size < wn.heap.size := by omega)); (try (have e0_0 : Box wn (W5.heap.size) #[.slice none 0 0] 24 := (by ((repeat (first | (with_reducible exact Box.newE _ _ _ (by first | rfl | (simp; (first | done | fail)))) | (with_reducible refine Box.drewS ?_) | (with_reducible refine Box.alloc ?_ _) | (with_reducible refine Box.below' ?_ hbn) | (with_reducible refine Box.below' ?_ hbm))); (first | done | fail))); have le0_0 := Box.lt e0_0; have ke0_0 := Box.cell e0_0; have fe0_0 := Box.frozen e0_0 0)); (try (have e1_0 : Box wn (wm.heap.size) #[.slice none 0 0] 24 := (by ((repeat (first | (with_reducible exact Box.newE _ _ _ (by first | rfl | (simp; (first | done | fail)))) | (with_reducible refine Box.drewS ?_) | (with_reducible refine Box.alloc ?_ _) | (with_reducible refine Box.below' ?_ hbn) | (with_reducible refine Box.below' ?_ hbm))); (first | done | fail))); have le1_0 := Box.lt e1_0; have ke1_0 := Box.cell e1_0; have fe1_0 := Box.frozen e1_0 0)); have hn : Cn wn An nn cn Y := ⟨rn, ln, mn⟩; clear rn ln mn))
    all_goals
      go_wp2_with fail
      go_meet
      exact ⟨⟨_, An, nn, cn, rfl, (by first | omega | (simp; omega)), (by ((repeat (first | (with_reducible assumption) | (with_reducible exact Box.newE _ _ _ (by first | rfl | (simp; (first | done | fail)))) | (with_reducible refine Box.drewS ?_) | (with_reducible refine Box.alloc ?_ _) | (with_reducible refine Box.put1z ?_) | (with_reducible refine Box.put3z ?_) | (with_reducible refine Box.far3 ?_ (by first | omega | (simp; omega)) _ _ _) | (with_reducible refine Box.far1 ?_ (by first | omega | (simp; omega)) _))); (first | done | fail))), (by ((repeat (first | (with_reducible assumption) | (with_reducible refine Cn.drewS ?_) | (with_reducible refine Cn.allocS ?_ _) | (with_reducible refine Cn.far3z ?_ (by ((repeat (first | (with_reducible assumption) | (with_reducible exact Box.newE _ _ _ (by first | rfl | (simp; (first | done | fail)))) | (with_reducible refine Box.drewS ?_) | (with_reducible refine Box.alloc ?_ _) | (with_reducible refine Box.put1z ?_) | (with_reducible refine Box.put3z ?_) | (with_reducible refine Box.far3 ?_ (by first | omega | (simp; omega)) _ _ _) | (with_reducible refine Box.far1 ?_ (by first | omega | (simp; omega)) _))); (first | done | fail))) _ _ _ _ _ _ _) | (with_reducible refine Cn.far1z ?_ (by ((repeat (first | (with_reducible assumption) | (with_reducible exact Box.newE _ _ _ (by first | rfl | (simp; (first | done | fail)))) | (with_reducible refine Box.drewS ?_) | (with_reducible refine Box.alloc ?_ _) | (with_reducible refine Box.put1z ?_) | (with_reducible refine Box.put3z ?_) | (with_reducible refine Box.far3 ?_ (by first | omega | (simp; omega)) _ _ _) | (with_reducible refine Box.far1 ?_ (by first | omega | (simp; omega)) _))); (first | done | fail))) _))); (first | done | fail)))⟩, (by ((repeat (first | (with_reducible assumption) | (with_reducible exact Below.refl _ _) | (with_reducible refine Below.drewS ?_) | (with_reducible refine Below.allocS ?_ _) | (with_reducible refine Below.setS ?_ (by first | omega | (simp; omega)) _))); (first | done | fail)))⟩
  case rest =>
  obtain ⟨⟨g6, An, nn, cn, rfl, hg6, b6, hn⟩, E6⟩ := hcut
  have B := B.trans (E6.mono B.size)
  have bR := bR.below' E6
  have bu := bu.below' E6
  have a5 := a5.below E6
  clear E6 KS hg6 bn bd a3 a4
  generalize wc = W6 at *
  have q0 := b6.cell
  have q1 := bu.cell
  go_wp2_with fail
  refine (fnorm_f (L := 446) (frMk' (hn.nt HY2.out) (a5.nt (upB (j := 446) HQ2.out (by decide))) HR.out) (by omega) (by omega)).mono ?_
  rintro e w7 ⟨p5, A7, n7, c7, B7, m7, d7, rfl, x5, hb⟩
  have bR := bR.below' hb
  have B := B.trans (hb.mono B.size)
  clear hb q0 q1 b6 bu a5 hn
  have g0 : w7.cell? ⟨w.heap.size, 0, none⟩ = some (.bool false) := bR.at_ 0
  have g1 : w7.cell? ⟨w.heap.size, 1, none⟩ = some (.slice none 0 0) := bR.at_ 1
  have g2 : w7.cell? ⟨w.heap.size, 2, none⟩ = some (.slice none 0 0) := bR.at_ 2
  have f0 := bR.frozen 0
  have f1 := bR.frozen 1
  have f2 := bR.frozen 2
  have gz := bR.lt
  go_wp2_with fail
  clear g0 g1 g2 f0 f1 f2
  generalize hW3 : ((w7.setCell _ _).setCell _ _).setCell _ _ = W3
  obtain ⟨b3, -, C3, B4, -⟩ := put3 bR hW3
  clear hW3
  have k0 : W3.cell? ⟨w.heap.size, 0, none⟩ = some (.bool p5) := b3.at_ 0
  have k1 : W3.cell? ⟨w.heap.size, 1, none⟩ = some (.slice A7 n7 c7) := b3.at_ 1
  have k2 : W3.cell? ⟨w.heap.size, 2, none⟩ = some (.slice B7 m7 d7) := b3.at_ 2
  refine bodyPost_ret (v := .tuple #[.agg #[.bool p5, .slice A7 n7 c7, .slice B7 m7 d7], .int .i64 0]) (by simp [results, Tryz.results17, go_sem, k0, k1, k2]) rfl ?_
  exact ⟨p5, A7, n7, c7, B7, m7, d7, rfl, ⟨x5.1, C3 _ _ _ _ x5.2.1, C3 _ _ _ _ x5.2.2⟩, B4 _ _ B (by omega)⟩
set_option maxHeartbeats 4000000 in
set_option maxRecDepth 100000 in
theorem pd_nE1 (s D SA : ByteArray) (g : Bool) (u v : Nat) (b : Bool) (w : World) (hT : Zw w) (hs : s.size ≤ 200)
    (c1 : ∀ W : World, Calls Tryz.prog 32 #[.string s, .string ⟨#[45]⟩] W fun e w' => e = .returned (.tuple #[.string D, .bool g]) ∧ W = w')
    (c2 : ∀ W : World, Zw W → Calls Tryz.prog 33 #[.string D, .string ⟨#[46]⟩] W fun e w' => e = .returned (.tuple #[.string SA, .string ⟨#[]⟩, .bool false]) ∧ Below W.heap.size W w')
    (p1 : ∀ W : World, Calls Tryz.prog 34 #[.string SA] W (GivesNE u 3 W)) (p2 : ∀ W : World, Calls Tryz.prog 49 #[.string ⟨#[]⟩] W (GivesNB v b W)) :
    Calls Tryz.prog 17 #[.string s] w (fun e w' => e = .returned (.tuple #[.agg #[.bool false, .slice none 0 0, .slice none 0 0], .int .i64 3]) ∧ Below w.heap.size w w') := by
  have HT := hide hT
  have C1 := hide c1
  have C2 := hide c2
  have P1 := hide p1
  have P2 := hide p2
  have d0 : decide (200 < (s.size : Int)) = false := by simp; omega
  clear hT c1 c2 p1 p2
  go_enter Tryz.func17, Tryz.ntmps17
  go_wp2_with fail
  generalize hW : w.alloc _ = W
  obtain ⟨B, bR, -⟩ := boxesA1 hW
  clear hW
  refine (C1.out _).mono ?_
  rintro e w1 ⟨rfl, rfl⟩
  go_wp2_with fail
  refine (C2.out _ (HT.out.below B)).mono ?_
  rintro e w2 ⟨rfl, hb⟩
  have bR := bR.below' hb
  have B := B.trans (hb.mono B.size)
  clear hb
  go_wp2_with fail
  refine (P1.out _).mono ?_
  rintro e w3 hg
  obtain ⟨A3, n3, c3, rfl, a3, hb⟩ := hg.cn
  have bR := bR.below' hb
  have B := B.trans (hb.mono B.size)
  clear hb hg
  go_wp2_with fail
  generalize hW : w3.alloc _ = W3
  obtain ⟨hb, bn, -⟩ := boxesA1 hW
  clear hW
  have bR := bR.below' hb
  have a3 := a3.below hb
  have B := B.trans (hb.mono B.size)
  clear hb
  generalize w3.heap.size = gn at *
  refine (P2.out _).mono ?_
  rintro e w4 ⟨A4, n4, c4, rfl, a4, hb⟩
  have bR := bR.below' hb
  have bn := bn.below' hb
  have a3 := a3.below hb
  have B := B.trans (hb.mono B.size)
  clear hb
  have g0 : w4.cell? ⟨w.heap.size, 0, none⟩ = some (.bool false) := bR.at_ 0
  have g1 : w4.cell? ⟨w.heap.size, 1, none⟩ = some (.slice none 0 0) := bR.at_ 1
  have g2 : w4.cell? ⟨w.heap.size, 2, none⟩ = some (.slice none 0 0) := bR.at_ 2
  have f0 := bR.frozen 0
  have f1 := bR.frozen 1
  have f2 := bR.frozen 2
  have gz := bR.lt
  go_wp2_with fail
  clear g0 g1 g2 f0 f1 f2
  generalize hW3 : ((World.setCell _ _ _).setCell _ _).setCell _ _ = W3
  obtain ⟨b3, -, C3, B4, -⟩ := put3 bR hW3
  clear hW3
  have B := B4 _ _ B (Nat.le_refl _)
  generalize hW : W3.alloc _ = W5
  obtain ⟨hb, -, -⟩ := boxesA1 hW
  clear hW
  have b3 := b3.below' hb
  have B := B.trans (hb.mono B.size)
  have k0 : W5.cell? ⟨w.heap.size, 0, none⟩ = some (.bool false) := b3.at_ 0
  have k1 : W5.cell? ⟨w.heap.size, 1, none⟩ = some (.slice none 0 0) := b3.at_ 1
  have k2 : W5.cell? ⟨w.heap.size, 2, none⟩ = some (.slice none 0 0) := b3.at_ 2
  refine bodyPost_ret (v := .tuple #[.agg #[.bool false, .slice none 0 0, .slice none 0 0], .int .i64 3]) (by simp [results, Tryz.results17, go_sem, k0, k1, k2]) rfl ?_
  exact ⟨rfl, B⟩
set_option maxHeartbeats 4000000 in
set_option maxRecDepth 100000 in
theorem pd_nT (s D SA : ByteArray) (g : Bool) (u v : Nat) (b : Bool) (w : World) (hT : Zw w) (hs : s.size ≤ 200)
    (c1 : ∀ W : World, Calls Tryz.prog 32 #[.string s, .string ⟨#[45]⟩] W fun e w' => e = .returned (.tuple #[.string D, .bool g]) ∧ W = w')
    (c2 : ∀ W : World, Zw W → Calls Tryz.prog 33 #[.string D, .string ⟨#[46]⟩] W fun e w' => e = .returned (.tuple #[.string SA, .string ⟨#[]⟩, .bool false]) ∧ Below W.heap.size W w')
    (p1 : ∀ W : World, Calls Tryz.prog 34 #[.string SA] W (GivesNE u 0 W)) (p2 : ∀ W : World, Calls Tryz.prog 49 #[.string ⟨#[]⟩] W (GivesNB v b W)) (hu : u < B9 ^ 30) (hv : v < B9 ^ 445) (k : Nat) (hk : 0 = k) (hk2 : k ≤ 200) (Q : Nat) (hQ : 10 ^ k = Q) (hQ2 : Q < B9 ^ 30) (X : Nat) (hX : u * Q = X) (hXL : X < B9 ^ 445) (Y : Nat) (hY : X + v = Y) (hY2 : Y < B9 ^ 446) (r : Rat) (hr : qv g Y Q = r) :
    Calls Tryz.prog 17 #[.string s] w (GivesFE r 0 w) := by
  have HT := hide hT
  have C1 := hide c1
  have C2 := hide c2
  have P1 := hide p1
  have P2 := hide p2
  have d0 : decide (200 < (s.size : Int)) = false := by simp; omega
  have HU := hide hu
  have HV := hide hv
  have HQ := hide hQ
  have HQ2 := hide hQ2
  have HX := hide hX
  have HXL := hide hXL
  have HY := hide hY
  have HY2 := hide hY2
  have HR := hide hr
  subst hk
  clear hT c1 c2 p1 p2 hu hv hQ hQ2 hX hXL hY hY2 hr
  go_enter Tryz.func17, Tryz.ntmps17
  go_wp2_with fail
  generalize hW : w.alloc _ = W
  obtain ⟨B, bR, -⟩ := boxesA1 hW
  clear hW
  refine (C1.out _).mono ?_
  rintro e w1 ⟨rfl, rfl⟩
  go_wp2_with fail
  refine (C2.out _ (HT.out.below B)).mono ?_
  rintro e w2 ⟨rfl, hb⟩
  have bR := bR.below' hb
  have B := B.trans (hb.mono B.size)
  clear hb
  go_wp2_with fail
  refine (P1.out _).mono ?_
  rintro e w3 hg
  obtain ⟨A3, n3, c3, rfl, a3, hb⟩ := hg.cn
  have bR := bR.below' hb
  have B := B.trans (hb.mono B.size)
  clear hb hg
  go_wp2_with fail
  generalize hW : w3.alloc _ = W3
  obtain ⟨hb, bn, -⟩ := boxesA1 hW
  clear hW
  have bR := bR.below' hb
  have a3 := a3.below hb
  have B := B.trans (hb.mono B.size)
  clear hb
  generalize w3.heap.size = gn at *
  refine (P2.out _).mono ?_
  rintro e w4 ⟨A4, n4, c4, rfl, a4, hb⟩
  have bR := bR.below' hb
  have bn := bn.below' hb
  have a3 := a3.below hb
  have B := B.trans (hb.mono B.size)
  clear hb
  go_wp2_with fail
  generalize hW : w4.alloc _ = W4
  obtain ⟨hb, bd, -⟩ := boxesA1 hW
  clear hW
  have bR := bR.below' hb
  have bn := bn.below' hb
  have a3 := a3.below hb
  have a4 := a4.below hb
  have B := B.trans (hb.mono B.size)
  clear hb
  generalize w4.heap.size = gd at *
  refine (units_any 0 (by omega) _ Q HQ.out).mono ?_
  rintro e w5 hg
  obtain ⟨A5, n5, c5, rfl, a5, hb⟩ := hg.cn
  have bR := bR.below' hb
  have bn := bn.below' hb
  have bd := bd.below' hb
  have a3 := a3.below hb
  have a4 := a4.below hb
  have B := B.trans (hb.mono B.size)
  clear hb hg
  go_wp2_with fail
  generalize hW : w5.alloc _ = W5
  obtain ⟨hb, bu, -⟩ := boxesA1 hW
  clear hW
  have bR := bR.below' hb
  have bn := bn.below' hb
  have bd := bd.below' hb
  have a3 := a3.below hb
  have a4 := a4.below hb
  have a5 := a5.below hb
  have B := B.trans (hb.mono B.size)
  clear hb
  generalize w5.heap.size = gu at *
  have KS : Hid (∀ w', Below W5.heap.size W5 w' → w'.cell? ⟨gn, 0, none⟩ = some (.slice A3 n3 c3) ∧ w'.cell? ⟨gd, 0, none⟩ = some (.slice A4 n4 c4) ∧ w'.cell? ⟨gu, 0, none⟩ = some (.slice A5 n5 c5)) := fun w' h =>
    ⟨(bn.below' h).at_ 0, (bd.below' h).at_ 0, (bu.below' h).at_ 0⟩
  go_cut [14] from 53 to 57 (fun s14 wx => MadeN W5 Y s14 wx ∧ Below W5.heap.size W5 wx)
  case first =>
    go_region_held3 (fun w' => w'.cell? ⟨gn, 0, none⟩ = some (.slice A3 n3 c3) ∧ w'.cell? ⟨gd, 0, none⟩ = some (.slice A4 n4 c4) ∧ w'.cell? ⟨gu, 0, none⟩ = some (.slice A5 n5 c5))
      (exact KS.out _ (by ((repeat (first | (with_reducible assumption) | (with_reducible exact Below.refl _ _) | (with_reducible refine Below.drewS ?_) | (with_reducible refine Below.allocS ?_ _) | (with_reducible refine Below.setS ?_ (by first | omega | (simp; omega)) _))); (first | done | fail))))
      (first
        | (go_at_call 52; (with_reducible refine (mul_n (L := 30) ((a3.below (by ((repeat (first | (with_reducible assumption) | (with_reducible exact Below.refl _ _) | (with_reducible refine Below.drewS ?_) | (with_reducible refine Below.allocS ?_ _) | (with_reducible refine Below.setS ?_ (by first | omega | (simp; omega)) _))); (first | done | fail)))).nt HU.out) ((a5.below (by ((repeat (first | (with_reducible assumption) | (with_reducible exact Below.refl _ _) | (with_reducible refine Below.drewS ?_) | (with_reducible refine Below.allocS ?_ _) | (with_reducible refine Below.setS ?_ (by first | omega | (simp; omega)) _))); (first | done | fail)))).nt HQ2.out) (by omega) X HX.out).mono ?_); rintro e wm ⟨Am, nm, cm, rfl, rm, lm, mm, hbm⟩; have Em : Below W5.heap.size W5 wm := Below.next (by ((repeat (first | (with_reducible assumption) | (with_reducible exact Below.refl _ _) | (with_reducible refine Below.drewS ?_) | (with_reducible refine Below.allocS ?_ _) | (with_reducible refine Below.setS ?_ (by first | omega | (simp; omega)) _))); (first | done | fail))) hbm; have zm := Em.size; have ym := hbm.size; (try simp at ym); have hm : Cn wm Am nm cm X := ⟨rm, lm, mm⟩; clear rm lm mm)
        | (go_at_call 51; (with_reducible refine (add_n (L := 445) ((hm.below (by ((repeat (first | (with_reducible assumption) | (with_reducible exact Below.refl _ _) | (with_reducible refine Below.drewS ?_) | (with_reducible refine Below.allocS ?_ _) | (with_reducible refine Below.setS ?_ (by first | omega | (simp; omega)) _))); (first | done | fail)))).nt HXL.out) ((a4.below (by ((repeat (first | (with_reducible assumption) | (with_reducible exact Below.refl _ _) | (with_reducible refine Below.drewS ?_) | (with_reducible refine Below.allocS ?_ _) | (with_reducible refine Below.setS ?_ (by first | omega | (simp; omega)) _))); (first | done | fail)))).nt HV.out) (by omega) Y HY.out).mono ?_); rintro e wn ⟨An, nn, cn, rfl, rn, ln, mn, hbn⟩; have En : Below W5.heap.size W5 wn := Below.next (by ((repeat (first | (with_reducible assumption) | (with_reducible exact Below.refl _ _) | (with_reducible refine Below.drewS ?_) | (with_reducible refine Below.allocS ?_ _) | (with_reducible refine Below.setS ?_ (by first | omega | (simp; omega)) _))); (first | done | fail))) hbn; have zn := En.size; have yn := hbn.size; (try simp at yn); (try (have q0_0 : W5.heap.size < wn.heap.size := by omega)); (try (have q1_0 : wm.heap.size < wn.heap.size := by omega)); (try (have e0_0 : Box wn (W5.heap.size) #[.slice none 0 0] 24 := (by ((repeat (first | (with_reducible exact Box.newE _ _ _ (by first | rfl | (simp; (first | done | fail)))) | (with_reducible refine Box.drewS ?_) | (with_reducible refine Box.alloc ?_ _) | (with_reducible refine Box.below' ?_ hbn) | (with_reducible refine Box.below' ?_ hbm))); (first | done | fail))); have le0_0 := Box.lt e0_0; have ke0_0 := Box.cell e0_0; have fe0_0 := Box.frozen e0_0 0)); (try (have e1_0 : Box wn (wm.heap.size) #[.slice none 0 0] 24 := (by ((repeat (first | (with_reducible exact Box.newE _ _ _ (by first | rfl | (simp; (first | done | fail)))) | (with_reducible refine Box.drewS ?_) | (with_reducible refine Box.alloc ?_ _) | (with_reducible refine Box.below' ?_ hbn) | (with_reducible refine Box.below' ?_ hbm))); (first | done | fail))); have le1_0 := Box.lt e1_0; have ke1_0 := Box.cell e1_0; have fe1_0 := Box.frozen e1_0 0)); have hn : Cn wn An nn cn Y := ⟨rn, ln, mn⟩; clear rn ln mn))
    all_goals
      go_wp2_with fail
      go_meet
      exact ⟨⟨_, An, nn, cn, rfl, (by first | omega | (simp; omega)), (by ((repeat (first | (with_reducible assumption) | (with_reducible exact Box.newE _ _ _ (by first | rfl | (simp; (first | done | fail)))) | (with_reducible refine Box.drewS ?_) | (with_reducible refine Box.alloc ?_ _) | (with_reducible refine Box.put1z ?_) | (with_reducible refine Box.put3z ?_) | (with_reducible refine Box.far3 ?_ (by first | omega | (simp; omega)) _ _ _) | (with_reducible refine Box.far1 ?_ (by first | omega | (simp; omega)) _))); (first | done | fail))), (by ((repeat (first | (with_reducible assumption) | (with_reducible refine Cn.drewS ?_) | (with_reducible refine Cn.allocS ?_ _) | (with_reducible refine Cn.far3z ?_ (by ((repeat (first | (with_reducible assumption) | (with_reducible exact Box.newE _ _ _ (by first | rfl | (simp; (first | done | fail)))) | (with_reducible refine Box.drewS ?_) | (with_reducible refine Box.alloc ?_ _) | (with_reducible refine Box.put1z ?_) | (with_reducible refine Box.put3z ?_) | (with_reducible refine Box.far3 ?_ (by first | omega | (simp; omega)) _ _ _) | (with_reducible refine Box.far1 ?_ (by first | omega | (simp; omega)) _))); (first | done | fail))) _ _ _ _ _ _ _) | (with_reducible refine Cn.far1z ?_ (by ((repeat (first | (with_reducible assumption) | (with_reducible exact Box.newE _ _ _ (by first | rfl | (simp; (first | done | fail)))) | (with_reducible refine Box.drewS ?_) | (with_reducible refine Box.alloc ?_ _) | (with_reducible refine Box.put1z ?_) | (with_reducible refine Box.put3z ?_) | (with_reducible refine Box.far3 ?_ (by first | omega | (simp; omega)) _ _ _) | (with_reducible refine Box.far1 ?_ (by first | omega | (simp; omega)) _))); (first | done | fail))) _))); (first | done | fail)))⟩, (by ((repeat (first | (with_reducible assumption) | (with_reducible exact Below.refl _ _) | (with_reducible refine Below.drewS ?_) | (with_reducible refine Below.allocS ?_ _) | (with_reducible refine Below.setS ?_ (by first | omega | (simp; omega)) _))); (first | done | fail)))⟩
  case rest =>
  obtain ⟨⟨g6, An, nn, cn, rfl, hg6, b6, hn⟩, E6⟩ := hcut
  have B := B.trans (E6.mono B.size)
  have bR := bR.below' E6
  have bu := bu.below' E6
  have a5 := a5.below E6
  clear E6 KS hg6 bn bd a3 a4
  generalize wc = W6 at *
  have q0 := b6.cell
  have q1 := bu.cell
  go_wp2_with fail
  refine (fnorm_f (L := 446) (frMk' (hn.nt HY2.out) (a5.nt (upB (j := 446) HQ2.out (by decide))) HR.out) (by omega) (by omega)).mono ?_
  rintro e w7 ⟨p5, A7, n7, c7, B7, m7, d7, rfl, x5, hb⟩
  have bR := bR.below' hb
  have B := B.trans (hb.mono B.size)
  clear hb q0 q1 b6 bu a5 hn
  have g0 : w7.cell? ⟨w.heap.size, 0, none⟩ = some (.bool false) := bR.at_ 0
  have g1 : w7.cell? ⟨w.heap.size, 1, none⟩ = some (.slice none 0 0) := bR.at_ 1
  have g2 : w7.cell? ⟨w.heap.size, 2, none⟩ = some (.slice none 0 0) := bR.at_ 2
  have f0 := bR.frozen 0
  have f1 := bR.frozen 1
  have f2 := bR.frozen 2
  have gz := bR.lt
  go_wp2_with fail
  clear g0 g1 g2 f0 f1 f2
  generalize hW3 : ((w7.setCell _ _).setCell _ _).setCell _ _ = W3
  obtain ⟨b3, -, C3, B4, -⟩ := put3 bR hW3
  clear hW3
  have k0 : W3.cell? ⟨w.heap.size, 0, none⟩ = some (.bool p5) := b3.at_ 0
  have k1 : W3.cell? ⟨w.heap.size, 1, none⟩ = some (.slice A7 n7 c7) := b3.at_ 1
  have k2 : W3.cell? ⟨w.heap.size, 2, none⟩ = some (.slice B7 m7 d7) := b3.at_ 2
  refine bodyPost_ret (v := .tuple #[.agg #[.bool p5, .slice A7 n7 c7, .slice B7 m7 d7], .int .i64 0]) (by simp [results, Tryz.results17, go_sem, k0, k1, k2]) rfl ?_
  exact ⟨p5, A7, n7, c7, B7, m7, d7, rfl, ⟨x5.1, C3 _ _ _ _ x5.2.1, C3 _ _ _ _ x5.2.2⟩, B4 _ _ B (by omega)⟩
end Go.Proofs.YtoeknkakdoemfaaGreatDoor

/- The contract of fraction.ParseDecimal. -/
namespace Go.Proofs.YtoeknkakdoemfaaGreatDoor
open Go Go.RowKit

/-- decimal notation, and the number that it is -/
def wholeL (l : List UInt8) : List UInt8 := abv 46 (bodL l)
def afterL (l : List UInt8) : List UInt8 := blw 46 [] (bodL l)
def okD (l : List UInt8) : Prop := IsT (NB (wholeL l)) ∧ ((46 : UInt8) ∈ bodL l → AllDig (NB (afterL l)) ∧ afterL l ≠ [])
def numD (l : List UInt8) : Nat := decV (NB (wholeL l)) * 10 ^ (afterL l).length + decV (NB (afterL l))
def ratD (l : List UInt8) : Rat := qv (sgnL l) (numD l) (10 ^ (afterL l).length)
/-- what both return -/
def PostD (s : ByteArray) (w : World) (e : Ending) (w' : World) : Prop :=
  (okD s.data.toList → GivesFE (ratD s.data.toList) 0 w e w') ∧ (¬ okD s.data.toList → e = .returned (.tuple #[.agg #[.bool false, .slice none 0 0, .slice none 0 0], .int .i64 3]) ∧ Below w.heap.size w w')
theorem postD_yes {s : ByteArray} {w w' : World} {e : Ending} (hk : okD s.data.toList) (h : GivesFE (ratD s.data.toList) 0 w e w') : PostD s w e w' := ⟨fun _ => h, fun hn => absurd hk hn⟩
theorem postD_no {s : ByteArray} {w w' : World} {e : Ending} (hk : ¬ okD s.data.toList) (h : e = .returned (.tuple #[.agg #[.bool false, .slice none 0 0, .slice none 0 0], .int .i64 3]) ∧ Below w.heap.size w w') : PostD s w e w' := ⟨fun hn => absurd hn hk, fun _ => h⟩
theorem digB {a : List UInt8} {L : Nat} (h : AllDig (NB a)) (hl : a.length ≤ 9 * L) : decV (NB a) < B9 ^ L := by
  have h1 := decV_lt (NB a) h
  have h2 : (NB a).length = a.length := by simp [NB]
  rw [h2] at h1
  rw [pow_B9]
  exact Nat.lt_of_lt_of_le h1 (Nat.pow_le_pow_right (by decide) hl)
theorem dig30 {a : List UInt8} (h : AllDig (NB a)) (hl : a.length ≤ 200) : decV (NB a) < B9 ^ 30 := digB (L := 30) h (Nat.le_trans hl (by decide))
theorem ten30 {k : Nat} (hk : k ≤ 200) : 10 ^ k < B9 ^ 30 := upB (j := 30) (tenC hk) (by decide)
theorem parts_have {l : List UInt8} (h : (46 : UInt8) ∈ bodL l) : ∃ a b, bodL l = a ++ 46 :: b ∧ (46 : UInt8) ∉ a ∧ wholeL l = a ∧ afterL l = b := by
  obtain ⟨a, b, e, hn⟩ := part_at 46 _ h
  have h2 := abv1 46 [] a b hn
  rw [← e] at h2
  exact ⟨a, b, e, hn, h2.1, h2.2⟩
theorem parts_not {l : List UInt8} (h : (46 : UInt8) ∉ bodL l) : wholeL l = bodL l ∧ afterL l = [] := abv0 46 [] _ h
theorem prod445 {u Q : Nat} (hu : u < B9 ^ 30) (hQ : Q < B9 ^ 30) : u * Q < B9 ^ 445 := upB (i := 60) (j := 445) (mulB (i := 30) (j := 30) hu hQ) (by decide)
theorem sumB {X v L M : Nat} (hM : M = L + 1) (hX : X < B9 ^ L) (hv : v < B9 ^ L) : X + v < B9 ^ M := by
  subst hM
  exact addB hX hv
theorem sum446 {X v : Nat} (hX : X < B9 ^ 445) (hv : v < B9 ^ 445) : X + v < B9 ^ 446 := sumB (M := 446) (L := 445) rfl hX hv
theorem fdec_any (s : ByteArray) (w : World) (hT : Zw w) (hs : s.size ≤ 200) : Calls Tryz.prog 17 #[.string s] w (PostD s w) := by
  have hbl : (bodL s.data.toList).length ≤ 200 := Nat.le_trans (bod_len _) (by rw [← size_list]; exact hs)
  have c1 := fun W => cutPre s W _ _ rfl rfl
  have DL := mkS_list (bodL s.data.toList)
  have DS := mkS_size (bodL s.data.toList)
  by_cases hp : (46 : UInt8) ∈ bodL s.data.toList
  · obtain ⟨a, b, hl, hn, e1, e2⟩ := parts_have hp
    have la : a.length ≤ 200 := by rw [hl] at hbl; simp only [List.length_append, List.length_cons] at hbl; omega
    have lb : b.length ≤ 200 := by rw [hl] at hbl; simp only [List.length_append, List.length_cons] at hbl; omega
    have SA := mkS_list a
    have SB := mkS_list b
    have ZA := mkS_size a
    have ZB := mkS_size b
    have c2 := fun W (hW : Zw W) => cutHas 46 (mkS (bodL s.data.toList)) W hW (by omega) (by rw [DL]; exact hp) (mkS a) (mkS b) [] (by rw [DL]; exact congrArg mkS e1) (by rw [DL]; exact congrArg mkS e2)
    obtain ⟨V, bo, hV, hbo, hVL, rd⟩ := rd_any (mkS b) (by omega)
    rw [SB] at hV hbo
    have pa : IsT (NB a) → ∀ W, Calls Tryz.prog 34 #[.string (mkS a)] W (GivesNE (decV (NB a)) 0 W) := fun h W => np_yes _ W (by omega) (by rw [SA]; exact h) _ (by rw [SA])
    have pan : ¬ IsT (NB a) → ∀ W, Calls Tryz.prog 34 #[.string (mkS a)] W (GivesNE 0 3 W) := fun h W => np_no _ W (by omega) (by rw [SA]; exact h)
    have hok : okD s.data.toList ↔ IsT (NB a) ∧ AllDig (NB b) ∧ b ≠ [] := by
      unfold okD
      rw [e1, e2]
      exact ⟨fun h => ⟨h.1, h.2 hp⟩, fun h => ⟨h.1, fun _ => h.2⟩⟩
    by_cases ha : IsT (NB a)
    · rcases bo with _ | _
      · exact (pd_yE2 s _ _ _ _ _ V w hT hs c1 c2 (pa ha) rd).mono fun _ _ h => postD_no (fun hk => by have := hbo.2 (hok.1 hk).2; cases this) h
      · have hb := hbo.1 rfl
        have hv := hV hb.1
        refine (pd_yT s _ _ _ _ _ V w hT hs c1 c2 (pa ha) rd (dig30 ha.1 la) hVL b.length (by rw [ZB]) lb _ rfl (ten30 lb) _ rfl (prod445 (dig30 ha.1 la) (ten30 lb)) _ rfl (sum446 (prod445 (dig30 ha.1 la) (ten30 lb)) hVL) (ratD s.data.toList) ?_).mono fun _ _ h => postD_yes (hok.2 ⟨ha, hb⟩) h
        unfold ratD numD
        rw [e1, e2, hv]
    · exact (pd_yE1 s _ _ _ _ _ V bo w hT hs c1 c2 (pan ha) rd).mono fun _ _ h => postD_no (fun hk => ha (hok.1 hk).1) h
  · obtain ⟨e1, e2⟩ := parts_not hp
    have c2 := fun W (hW : Zw W) => cutNot 46 (mkS (bodL s.data.toList)) W hW (by omega) (by rw [DL]; exact hp)
    obtain ⟨V, bo, hV, hbo, hVL, rd⟩ := rd_any ⟨#[]⟩ (by decide)
    have hV0 : V = 0 := hV (fun x hx => by simp [NB] at hx)
    have hok : okD s.data.toList ↔ IsT (NB (bodL s.data.toList)) := by
      unfold okD
      rw [e1]
      exact ⟨fun h => h.1, fun h => ⟨h, fun hq => absurd hq hp⟩⟩
    by_cases ha : IsT (NB (bodL s.data.toList))
    · have pa := fun W => np_yes (mkS (bodL s.data.toList)) W (by omega) (by rw [DL]; exact ha) _ rfl
      rw [DL] at pa
      have h30 := dig30 ha.1 hbl
      refine (pd_nT s _ _ _ _ V bo w hT hs c1 c2 pa rd h30 hVL 0 rfl (by omega) _ rfl (ten30 (by omega)) _ rfl (prod445 h30 (ten30 (by omega))) _ rfl (sum446 (prod445 h30 (ten30 (by omega))) hVL) (ratD s.data.toList) ?_).mono fun _ _ h => postD_yes (hok.2 ha) h
      unfold ratD numD
      rw [e1, e2, hV0]
      rfl
    · have pan := fun W => np_no (mkS (bodL s.data.toList)) W (by omega) (by rw [DL]; exact ha)
      exact (pd_nE1 s _ _ _ _ V bo w hT hs c1 c2 pan rd).mono fun _ _ h => postD_no (fun hk => ha (hok.1 hk)) h
end Go.Proofs.YtoeknkakdoemfaaGreatDoor

/- What fraction.Decimal writes, read as decimal notation: words. -/
namespace Go.Proofs.YtoeknkakdoemfaaGreatDoor
open Go Go.RowKit

theorem decV_zeros (n : Nat) : decV (List.replicate n 48) = 0 := by
  induction n with
  | zero => rfl
  | succ n ih => rw [List.replicate_succ', decV_snoc, ih]
theorem decV_dpad (k T : Nat) : decV (dpad k (asc T)) = T := by
  unfold dpad
  rw [decV_append, decV_zeros, decV_asc]
  omega
theorem dpad_dig (k T : Nat) : AllDig (dpad k (asc T)) := by
  intro x hx
  unfold dpad at hx
  rcases List.mem_append.1 hx with h | h
  · have := List.eq_of_mem_replicate h
    omega
  · exact asc_digits T x h
/-- the whole part and what is behind the point -/
theorem dpad_cut (k T : Nat) : ∃ a b : List Nat, dpad k (asc T) = a ++ b ∧ b.length = k ∧ IsT a ∧ AllDig b ∧ decV a * 10 ^ k + decV b = T ∧ a = (dpad k (asc T)).take ((dpad k (asc T)).length - k) ∧ b = (dpad k (asc T)).drop ((dpad k (asc T)).length - k) := by
  have hl := dpad_len k (asc T)
  have hd := dpad_dig k T
  have hv := decV_dpad k T
  have e := (List.take_append_drop ((dpad k (asc T)).length - k) (dpad k (asc T))).symm
  have hb : ((dpad k (asc T)).drop ((dpad k (asc T)).length - k)).length = k := by rw [List.length_drop]; omega
  refine ⟨_, _, e, hb, ⟨hd.take _, ?_⟩, hd.drop _, ?_, rfl, rfl⟩
  · unfold dpad
    by_cases h : k < (asc T).length
    · have e0 : k + 1 - (asc T).length = 0 := by omega
      rw [e0, List.replicate_zero, List.nil_append]
      rcases (isT_asc T).2 with h1 | ⟨y, m, h1, h2⟩
      · rw [h1] at h ⊢
        simp only [List.length_cons, List.length_nil] at h ⊢
        obtain rfl : k = 0 := by omega
        exact .inl rfl
      · rw [h1] at h ⊢
        simp only [List.length_cons] at h ⊢
        obtain ⟨j, hj⟩ : ∃ j, m.length + 1 - k = j + 1 := ⟨m.length - k, by omega⟩
        rw [hj, List.take_succ_cons]
        exact .inr ⟨y, _, rfl, h2⟩
    · left
      have h0 := asc_pos T
      obtain ⟨j, hj⟩ : ∃ j, k + 1 - (asc T).length = j + 1 := ⟨k - (asc T).length, by omega⟩
      rw [hj, List.replicate_succ, List.cons_append]
      have e1 : ((48 :: (List.replicate j 48 ++ asc T)).length - k) = 1 := by
        simp only [List.length_cons, List.length_append, List.length_replicate]
        omega
      rw [e1]
      rfl
  · conv => rhs; rw [← hv, e, decV_append, hb]
theorem dig_no46 {a : List UInt8} (h : AllDig (NB a)) : (46 : UInt8) ∉ a := fun hm => by
  have := h 46 (List.mem_map.2 ⟨46, hm, rfl⟩)
  omega
/-- a body without a sign -/
theorem body_read {l r : List UInt8} {T k : Nat} (hb : bodL l = r) (h : NB r = dpoint k (dpad k (asc T))) : okD l ∧ numD l = T ∧ (afterL l).length = k := by
  obtain ⟨a, b, e, hbl, ha, hbd, hv, ea, eb⟩ := dpad_cut k T
  unfold dpoint at h
  by_cases hk : k = 0
  · subst hk
    rw [if_pos rfl, e] at h
    obtain rfl : b = [] := List.eq_nil_of_length_eq_zero hbl
    rw [List.append_nil] at h
    have hn : (46 : UInt8) ∉ bodL l := by
      rw [hb]
      exact dig_no46 (by rw [h]; exact ha.1)
    obtain ⟨e1, e2⟩ := parts_not hn
    refine ⟨⟨by rw [e1, hb, h]; exact ha, fun hq => absurd hq hn⟩, ?_, by rw [e2]; rfl⟩
    unfold numD
    rw [e1, e2, hb, h]
    exact hv
  · rw [if_neg hk, ← ea, ← eb] at h
    unfold NB at h
    obtain ⟨r1, r2, hr, h1, h2⟩ := List.map_eq_append_iff.1 h
    obtain ⟨c, r3, rfl, hc, h3⟩ := List.map_eq_cons_iff.1 h2
    have hc' : c = 46 := UInt8.toNat_inj.1 hc
    subst hc'
    have hn : (46 : UInt8) ∉ r1 := dig_no46 (by unfold NB; rw [h1]; exact ha.1)
    have hp : (46 : UInt8) ∈ bodL l := by rw [hb, hr]; simp
    obtain ⟨x, y, hl, hx, e1, e2⟩ := parts_have hp
    rw [hb, hr] at hl
    obtain ⟨rfl, rfl⟩ : r1 = x ∧ r3 = y := by
      have t1 : (r1 ++ 46 :: r3).takeWhile (· != (46 : UInt8)) = r1 := by
        rw [List.takeWhile_append_of_pos (fun z hz => by simpa using fun (q : z = 46) => hn (q ▸ hz))]
        simp
      have t2 : (x ++ 46 :: y).takeWhile (· != (46 : UInt8)) = x := by
        rw [List.takeWhile_append_of_pos (fun z hz => by simpa using fun (q : z = 46) => hx (q ▸ hz))]
        simp
      have e3 : r1 = x := by rw [← t1, hl, t2]
      subst e3
      refine ⟨rfl, ?_⟩
      have := List.append_cancel_left hl
      exact (List.cons.inj this).2
    have l3 : r3.length = k := by rw [← hbl, ← h3, List.length_map]
    refine ⟨⟨by rw [e1]; unfold NB; rw [h1]; exact ha, fun _ => ⟨by rw [e2]; unfold NB; rw [h3]; exact hbd, ?_⟩⟩, ?_, by rw [e2]; exact l3⟩
    · rw [e2]
      rintro rfl
      exact hk l3.symm
    · unfold numD
      rw [e1, e2, l3]
      unfold NB
      rw [h1, h3]
      exact hv
theorem dpoint_head (k T : Nat) : (dpoint k (dpad k (asc T))).head? ≠ some 45 := by
  obtain ⟨a, b, e, hbl, ha, hbd, hv, ea, eb⟩ := dpad_cut k T
  have hA : ∀ m : List Nat, (a ++ m).head? ≠ some 45 := by
    intro m
    rcases ha.2 with h | ⟨y, r, h, -⟩
    · rw [h]; simp
    · have h5 := ha.1 y (by rw [h]; simp)
      rw [h]
      simp only [List.cons_append, List.head?_cons, ne_eq, Option.some.injEq]
      omega
  unfold dpoint
  split
  · rw [e]; exact hA b
  · rw [← ea]; exact hA _
/-- what Decimal writes is decimal notation, of the value T / 10^k -/
theorem dtext_read {l : List UInt8} {p : Bool} {T k : Nat} (h : NB l = dtext p T k) : okD l ∧ ratD l = qv p T (10 ^ k) ∧ (afterL l).length = k ∧ numD l = T := by
  unfold dtext at h
  split at h
  case isTrue hp =>
    unfold NB at h
    obtain ⟨c, r, rfl, hc, h3⟩ := List.map_eq_cons_iff.1 h
    have hc' : c = 45 := UInt8.toNat_inj.1 hc
    subst hc'
    have hg := sgn_cons r
    obtain ⟨h1, h2, h4⟩ := body_read hg.2 h3
    refine ⟨h1, ?_, h4, h2⟩
    unfold ratD
    rw [hg.1, h2, h4, hp.1]
  case isFalse hp =>
    have hh : l.head? ≠ some 45 := by
      intro e
      rcases l with _ | ⟨c, r⟩
      · cases e
      · simp only [List.head?_cons, Option.some.injEq] at e
        subst e
        exact dpoint_head k T (by rw [← h]; rfl)
    have hg := sgn_not (l := l) hh
    obtain ⟨h1, h2, h4⟩ := body_read hg.2 h
    refine ⟨h1, ?_, h4, h2⟩
    unfold ratD
    rw [hg.1, h2, h4]
    by_cases hT : T = 0
    · subst hT
      unfold qv
      simp
    · have : p = false := by
        rcases p with _ | _
        · rfl
        · exact absurd ⟨rfl, hT⟩ hp
      rw [this]
end Go.Proofs.YtoeknkakdoemfaaGreatDoor

/- What rounding keeps: words over naturals. -/
namespace Go.Proofs.YtoeknkakdoemfaaGreatDoor
theorem rnd_near {u v k T : Nat} (hv : v ≠ 0) (h : rnd u v k = T) : T * (v * 2) ≤ u * 10 ^ k * 2 + v ∧ u * 10 ^ k * 2 + v < (T + 1) * (v * 2) := by
  unfold rnd at h
  rw [if_neg hv] at h
  subst h
  have hp : 0 < v * 2 := by omega
  exact ⟨Nat.div_mul_le_self _ _, Nat.lt_of_lt_of_eq (Nat.lt_mul_div_succ _ hp) (Nat.mul_comm _ _)⟩
theorem rnd_again {u v k T : Nat} (hv : v ≠ 0) (h : u * 10 ^ k = T * v) : rnd u v k = T := by
  unfold rnd
  rw [if_neg hv, h]
  have e : T * v * 2 + v = v + (v * 2) * T := by
    rw [Nat.mul_assoc, Nat.mul_comm T (v * 2)]; omega
  rw [e, Nat.add_mul_div_left _ _ (by omega), Nat.div_eq_of_lt (by omega), Nat.zero_add]
theorem rnd_zero {v k T : Nat} (h : rnd 0 v k = T) : T = 0 := by
  unfold rnd at h
  split at h
  · exact h.symm
  · rw [Nat.zero_mul, Nat.zero_mul, Nat.zero_add, Nat.div_eq_of_lt (by omega)] at h
    exact h.symm
end Go.Proofs.YtoeknkakdoemfaaGreatDoor

/- FractionRounds: the mathematics. -/
namespace Go.Proofs.YtoeknkakdoemfaaGreatDoor
open Go Go.RowKit

theorem ten_ne (k : Nat) : 10 ^ k ≠ 0 := Nat.ne_of_gt (Nat.pow_pos (by decide))
theorem bne_f (p : Bool) : (p != false) = p := by cases p <;> rfl
theorem sc1 (p : Bool) (T v : Nat) {P : Nat} (hP : P ≠ 0) : qv p T P * qv false (v * P) 1 = qv p (T * v) 1 := by
  have h := qv_red p (T * v) 1 P hP
  rw [Nat.one_mul] at h
  rw [qv_mul, bne_f, ← Nat.mul_assoc, Nat.mul_one]
  exact h
theorem sc2 (p : Bool) (u P : Nat) {v : Nat} (hv : v ≠ 0) : qv p u v * qv false (v * P) 1 = qv p (u * P) 1 := by
  have h := qv_red p (u * P) 1 v hv
  rw [Nat.one_mul] at h
  rw [qv_mul, bne_f, Nat.mul_one, show u * (v * P) = u * P * v by rw [Nat.mul_comm v, Nat.mul_assoc]]
  exact h
def sgI (p : Bool) (a : Nat) : Int := if p then -(a : Int) else a
theorem qv_sgI (p : Bool) (a : Nat) : qv p a 1 = ((sgI p a : Int) : Rat) := qv_one p a
theorem num_cast (i : Int) : ((i : Int) : Rat).num = i := rfl
theorem zsign {z : Nat} (hz : z ≠ 0) : (qv false z 1).num.sign = 1 := by
  rw [qv_sgI, num_cast]
  exact Int.sign_eq_one_of_pos (by show 0 < (z : Int); omega)
theorem d_int (p : Bool) (T u v P : Nat) (hP : P ≠ 0) (hv : v ≠ 0) : (qv p T P - qv p u v) * qv false (v * P) 1 = ((sgI p (T * v) - sgI p (u * P) : Int) : Rat) := by
  rw [Rat.sub_eq_add_neg, Rat.add_mul, Rat.neg_mul, sc1 p T v hP, sc2 p u P hv, qv_sgI, qv_sgI, ← Rat.sub_eq_add_neg, Rat.intCast_sub]
theorem sign_scale (x : Rat) {z : Nat} (hz : z ≠ 0) : (x * qv false z 1).num.sign = x.num.sign := by
  rw [rsign_mul, zsign hz, Int.mul_one]
theorem cs_scale (x y : Rat) {z : Nat} (hz : z ≠ 0) : cs (x * qv false z 1) (y * qv false z 1) = cs x y := by
  rw [cs_mul, zsign hz, Int.mul_one]
theorem cs_ints (a b : Int) : cs (a : Rat) (b : Rat) = (a - b).sign := by
  unfold cs
  rw [← Rat.intCast_sub, num_cast]
theorem rounds_nz (p : Bool) (u v k T : Nat) (hv : v ≠ 0) (h : rnd u v k = T) (d : Rat) (hd : qv p T (10 ^ k) - qv p u v = d) (s : Int) (hs : d.num.sign = s) :
    cs ((d + d) * (s : Rat)) (qv false 1 (10 ^ k)) < 0 ∨ (cs ((d + d) * (s : Rat)) (qv false 1 (10 ^ k)) = 0 ∧ s = (qv p u v).num.sign) := by
  have hP := ten_ne k
  obtain ⟨n1, n2⟩ := rnd_near hv h
  have n0 : u = 0 → T = 0 := fun e => by subst e; exact rnd_zero h
  generalize 10 ^ k = P at *
  have hz : v * P ≠ 0 := Nat.mul_ne_zero hv hP
  have e1 := d_int p T u v P hP hv
  rw [hd] at e1
  have e2 : s = (sgI p (T * v) - sgI p (u * P)).sign := by
    rw [← hs, ← sign_scale d hz, e1, num_cast]
  have e3 : (qv p u v).num.sign = (sgI p (u * P)).sign := by
    rw [← sign_scale (qv p u v) hz, sc2 p u P hv, qv_sgI, num_cast]
  have e4 : (d + d) * (s : Rat) * qv false (v * P) 1 = (((sgI p (T * v) - sgI p (u * P)) + (sgI p (T * v) - sgI p (u * P))) * s : Int) := by
    rw [Rat.mul_assoc, Rat.mul_comm (s : Rat), ← Rat.mul_assoc, Rat.add_mul, e1, Rat.intCast_mul, Rat.intCast_add]
  have e5 : qv false 1 P * qv false (v * P) 1 = ((v : Int) : Rat) := by
    rw [sc1 false 1 v hP, Nat.one_mul, qv_sgI]; rfl
  have e6 : cs ((d + d) * (s : Rat)) (qv false 1 P) = (((sgI p (T * v) - sgI p (u * P)) + (sgI p (T * v) - sgI p (u * P))) * s - (v : Int)).sign := by
    rw [← cs_scale _ _ hz, e4, e5, cs_ints]
  rw [e6, e3, e2]
  have m1 : T * (v * 2) = T * v * 2 := by rw [Nat.mul_assoc]
  have m2 : (T + 1) * (v * 2) = T * v * 2 + v * 2 := by rw [Nat.add_mul, Nat.one_mul, m1]
  rw [m1] at n1
  rw [m2] at n2
  have hb0 : u * P = 0 → T * v = 0 := fun e => by
    rcases Nat.mul_eq_zero.1 e with h1 | h1
    · rw [n0 h1, Nat.zero_mul]
    · exact absurd h1 hP
  generalize T * v = a at *
  generalize u * P = b at *
  clear e1 e2 e3 e4 e5 e6 m1 m2 hs hd h
  have hv0 : 0 < v := Nat.pos_of_ne_zero hv
  cases p with
  | false =>
    show (((a : Int) - (b : Int) + ((a : Int) - (b : Int))) * ((a : Int) - (b : Int)).sign - (v : Int)).sign < 0 ∨ (((a : Int) - (b : Int) + ((a : Int) - (b : Int))) * ((a : Int) - (b : Int)).sign - (v : Int)).sign = 0 ∧ ((a : Int) - (b : Int)).sign = (b : Int).sign
    rcases Int.lt_trichotomy ((a : Int) - (b : Int)) 0 with h1 | h1 | h1
    · left; rw [Int.sign_eq_neg_one_of_neg h1, Int.sign_neg_iff]; omega
    · left; rw [h1]; simp; omega
    · rw [Int.sign_eq_one_of_pos h1, Int.mul_one]
      rcases Int.lt_trichotomy ((a : Int) - (b : Int) + ((a : Int) - (b : Int)) - (v : Int)) 0 with h2 | h2 | h2
      · left; rw [Int.sign_neg_iff]; exact h2
      · right
        refine ⟨by rw [h2]; rfl, ?_⟩
        rw [Int.sign_eq_one_of_pos]
        have : b ≠ 0 := fun e => by have := hb0 e; omega
        omega
      · omega
  | true =>
    show ((-(a : Int) - -(b : Int) + (-(a : Int) - -(b : Int))) * (-(a : Int) - -(b : Int)).sign - (v : Int)).sign < 0 ∨ ((-(a : Int) - -(b : Int) + (-(a : Int) - -(b : Int))) * (-(a : Int) - -(b : Int)).sign - (v : Int)).sign = 0 ∧ (-(a : Int) - -(b : Int)).sign = (-(b : Int)).sign
    rcases Int.lt_trichotomy (-(a : Int) - -(b : Int)) 0 with h1 | h1 | h1
    · rw [Int.sign_eq_neg_one_of_neg h1]
      rcases Int.lt_trichotomy ((-(a : Int) - -(b : Int) + (-(a : Int) - -(b : Int))) * -1 - (v : Int)) 0 with h2 | h2 | h2
      · left; rw [Int.sign_neg_iff]; exact h2
      · right
        refine ⟨by rw [h2]; rfl, ?_⟩
        have : b ≠ 0 := fun e => by have := hb0 e; omega
        rw [Int.sign_eq_neg_one_of_neg (by omega)]
      · omega
    · left; rw [h1]; simp; omega
    · left; rw [Int.sign_eq_one_of_pos h1, Int.sign_neg_iff]; omega
theorem rounds_fin (p : Bool) (u v k T : Nat) (h : rnd u v k = T) (d : Rat) (hd : qv p T (10 ^ k) - qv p u v = d) (s : Int) (hs : d.num.sign = s) :
    cs ((d + d) * (s : Rat)) (qv false 1 (10 ^ k)) < 0 ∨ (cs ((d + d) * (s : Rat)) (qv false 1 (10 ^ k)) = 0 ∧ s = (qv p u v).num.sign) := by
  by_cases hv : v = 0
  · subst hv
    have e : qv p u 0 = qv p 0 1 := by
      rw [qv_zero, qv_sgI]
      cases p <;> rfl
    have e2 : rnd 0 1 k = T := by
      rw [← h]; unfold rnd; simp
    rw [e] at hd ⊢
    exact rounds_nz p 0 1 k T (by omega) e2 d hd s hs
  · exact rounds_nz p u v k T hv h d hd s hs
/-- what was written has the same notation -/
theorem again_T (p : Bool) (T k : Nat) : rnd (qv p T (10 ^ k)).num.natAbs (qv p T (10 ^ k)).den k = T := by
  have hP := ten_ne k
  refine rnd_again (Rat.den_nz _) ?_
  rw [qv_abs hP, qv_den hP]
  generalize 10 ^ k = P at *
  have h1 := Nat.gcd_dvd_left T P
  have h2 := Nat.gcd_dvd_right T P
  rw [Nat.div_mul_right_comm h1, Nat.mul_div_assoc T h2]
theorem again_text (p : Bool) (T k : Nat) : dtext (decide ((qv p T (10 ^ k)).num < 0)) T k = dtext p T k := by
  by_cases hT : T = 0
  · unfold dtext; rw [if_neg (by simp [hT]), if_neg (by simp [hT])]
  · have hP := ten_ne k
    have h1 : T / Nat.gcd T (10 ^ k) ≠ 0 := by
      have h2 := Nat.div_pos (Nat.le_of_dvd (Nat.pos_of_ne_zero hT) (Nat.gcd_dvd_left T (10 ^ k))) (Nat.gcd_pos_of_pos_left _ (Nat.pos_of_ne_zero hT))
      omega
    rw [qv_neg hP]
    simp [h1]
theorem mul_tenth (i : Nat) : qv false 1 (10 ^ i) * ((1 : Int) / (10 : Int) : Rat) = qv false 1 (10 ^ (i + 1)) := by
  have h : (((1 : Int) : Rat) / ((10 : Int) : Rat)) = qv false 1 10 := (qv_quo 1 10).symm
  rw [h, qv_mul, Nat.pow_succ]
  rfl
theorem rnd_lt {u v k T : Nat} (h : rnd u v k = T) (hu : u < B9 ^ 7) (hk : k ≤ 20) : T < B9 ^ 11 := by
  have h1 : 10 ^ k ≤ B9 ^ 3 := Nat.le_trans (Nat.pow_le_pow_right (by decide) hk) (by decide)
  have h2 : u * 10 ^ k ≤ B9 ^ 7 * B9 ^ 3 := Nat.mul_le_mul (Nat.le_of_lt hu) h1
  rw [← Nat.pow_add] at h2
  have h4 : B9 ^ 11 = B9 ^ (7 + 3) * 1000000000 := Nat.pow_succ _ _
  have h5 : 0 < B9 ^ (7 + 3) := Nat.pow_pos (by decide)
  unfold rnd at h
  split at h
  · omega
  · rename_i hv
    have h6 := (rnd_near (u := u) (v := v) (k := k) (T := T) hv (by unfold rnd; rw [if_neg hv]; exact h)).1
    have h7 : T * 2 ≤ u * 10 ^ k * 2 + 1 := by
      have h8 : T * (v * 2) ≤ (u * 10 ^ k * 2 + 1) * v := by
        rw [Nat.add_mul, Nat.one_mul]
        refine Nat.le_trans h6 (Nat.add_le_add_right ?_ _)
        exact Nat.le_mul_of_pos_right _ (Nat.pos_of_ne_zero hv)
      rw [show T * (v * 2) = T * 2 * v by rw [Nat.mul_comm v, Nat.mul_assoc]] at h8
      exact Nat.le_of_mul_le_mul_right h8 (Nat.pos_of_ne_zero hv)
    omega
end Go.Proofs.YtoeknkakdoemfaaGreatDoor

/- coinagebase.Mod -/
namespace Go.Proofs.YtoeknkakdoemfaaGreatDoor
open Go Go.RowKit

def modB (a b : Int) : Int := if a.tmod b < 0 then a.tmod b + b else a.tmod b
theorem modB_eq (a b : Int) (hb : 0 < b) : modB a b = a % b := by
  unfold modB
  have h1 := Int.tmod_eq_emod (a := a) (b := b)
  have h2 := Int.emod_nonneg a (show b ≠ 0 by omega)
  have h3 := Int.emod_lt_of_pos a hb
  have h4 : ((b.natAbs : Int)) = b := by omega
  by_cases hc : 0 ≤ a ∨ b ∣ a
  · rw [if_pos hc] at h1
    rw [if_neg (by omega)]; omega
  · rw [if_neg hc] at h1
    have h5 : a % b ≠ 0 := fun h => hc (Or.inr (Int.dvd_of_emod_eq_zero h))
    split <;> omega
set_option maxHeartbeats 1000000 in
theorem mod_any (a b : Int) (hb : 0 < b) (hb2 : b ≤ 1000) (r : Int) (hr : a % b = r) (w : World) : Calls Tryz.prog 23 #[.int .i64 a, .int .i64 b] w fun e w' => e = .returned (.int .i64 r) ∧ w = w' := by
  have hnz : ¬ b = 0 := by omega
  have HR := hide (show modB a b = r from (modB_eq a b hb).trans hr)
  have h3 : -1000 < a.tmod b ∧ a.tmod b < 1000 := by
    have h1 := Int.tmod_eq_emod (a := a) (b := b)
    have h2 := Int.emod_nonneg a (show b ≠ 0 by omega)
    have h3 := Int.emod_lt_of_pos a hb
    split at h1 <;> omega
  obtain ⟨b1, b2⟩ := h3
  clear hr
  have hwr : IntKind.i64.wrap (a.tmod b) = a.tmod b := IntWalk.i64_in _ (by omega)
  obtain ⟨t, ht⟩ : ∃ t, a.tmod b = t := ⟨_, rfl⟩
  by_cases h : t < 0
  · have d1 : decide (t < 0) = true := decide_eq_true h
    have HQ := hide (show t + b = r from by rw [← HR.out]; unfold modB; rw [ht, if_pos h])
    go_enter Tryz.func23, Tryz.ntmps23
    go_wp2_with fail
    go_ret
    exact ⟨by rw [HQ.out]; rfl, rfl⟩
  · have d1 : decide (t < 0) = false := decide_eq_false h
    have HQ := hide (show t = r from by rw [← HR.out]; unfold modB; rw [ht, if_neg h])
    go_enter Tryz.func23, Tryz.ntmps23
    go_wp2_with fail
    go_ret
    exact ⟨by rw [HQ.out]; rfl, rfl⟩
end Go.Proofs.YtoeknkakdoemfaaGreatDoor

/- FractionRounds: the walk. -/
namespace Go.Proofs.YtoeknkakdoemfaaGreatDoor
open Go Go.RowKit

theorem dpoint_lt {k : Nat} {l : List Nat} (h : ∀ x ∈ l, x < 256) : ∀ x ∈ dpoint k l, x < 256 := by
  intro x hx
  unfold dpoint at hx
  split at hx
  · exact h x hx
  · rw [List.mem_append, List.mem_cons] at hx
    rcases hx with hx | rfl | hx
    · exact h x (List.mem_of_mem_take hx)
    · decide
    · exact h x (List.mem_of_mem_drop hx)
theorem dpad_lt {k : Nat} {l : List Nat} (h : ∀ x ∈ l, x < 256) : ∀ x ∈ dpad k l, x < 256 := by
  intro x hx
  unfold dpad at hx
  rw [List.mem_append, List.mem_replicate] at hx
  rcases hx with ⟨_, rfl⟩ | hx
  · decide
  · exact h x hx
theorem dtext_lt {p : Bool} {T k : Nat} : ∀ x ∈ dtext p T k, x < 256 := by
  have h := dpoint_lt (k := k) (dpad_lt (k := k) (asc_digits T).lt256)
  intro x hx
  unfold dtext at hx
  split at hx
  · rw [List.mem_cons] at hx
    rcases hx with rfl | hx
    · decide
    · exact h x hx
  · exact h x hx
theorem asc_short {u L : Nat} (hu : u < B9 ^ L) : (asc u).length ≤ 9 * L + 1 := by
  rw [asc_len]
  by_cases h0 : u = 0
  · subst h0
    rw [← asc_len, asc_small (by decide)]
    simp
  · obtain ⟨n, h2, h3, h4⟩ := asc_pow h0
    rw [← asc_len, h4, dec_length]
    rw [pow_B9] at hu
    rcases Nat.lt_or_ge n (9 * L) with h5 | h5
    · omega
    · have := Nat.pow_le_pow_right (show 0 < 10 by decide) h5
      omega
theorem dtext_short {p : Bool} {T k : Nat} (hT : T < B9 ^ 11) (hk : k ≤ 20) : (dtext p T k).length ≤ 200 := by
  have h := asc_short hT
  have h1 : (dpad k (asc T)).length ≤ 130 := by unfold dpad; simp only [List.length_append, List.length_replicate]; omega
  have h2 : (dpoint k (dpad k (asc T))).length ≤ 131 := by
    generalize dpad k (asc T) = l at *
    unfold dpoint
    split
    · omega
    · simp only [List.length_append, List.length_take, List.length_cons, List.length_drop]; omega
  unfold dtext
  split
  · simp only [List.length_cons]; omega
  · omega
theorem unit0 : ((1 : Int) : Rat) / ((1 : Int) : Rat) = qv false 1 (10 ^ 0) := by
  have h : ((1 : Int) : Rat) / ((1 : Int) : Rat) = qv false 1 1 := (qv_quo 1 1).symm
  exact h
theorem tenth_ht : Ht (((1 : Int) : Rat) / ((10 : Int) : Rat)) 100 := by
  have h : ((1 : Int) : Rat) / ((10 : Int) : Rat) = qv false 1 10 := (qv_quo 1 10).symm
  rw [h]
  exact (qv_ht (L := 1) (by decide) (by decide) rfl).up (by omega)
theorem int_one (s : Int) : (s : Rat) / ((1 : Int) : Rat) = (s : Rat) := by
  have h : (s : Rat) / ((1 : Int) : Rat) = qv (decide (s < 0) != false) s.natAbs 1 := (qv_quo s 1).symm
  rw [h, bne_f, qv_int]
theorem sign_bd (i : Int) : -1 ≤ i.sign ∧ i.sign ≤ 1 := by
  rcases Int.lt_trichotomy i 0 with h | h | h
  · rw [Int.sign_eq_neg_one_of_neg h]; decide
  · rw [h]; decide
  · rw [Int.sign_eq_one_of_pos h]; decide
set_option maxHeartbeats 16000000 in
set_option maxRecDepth 100000 in
theorem rounds_no (HA : Hid Awake) (i : Int) (pa : Bool) (Aa : Option Addr) (na ca : Nat) (Ba : Option Addr) (ma da : Nat) (w : World) (hT : Zw w) (hf : ¬ (na ≤ 6 ∧ ma ≤ 6)) :
    Calls Tryz.prog 7 #[.agg #[.bool pa, .slice Aa na ca, .slice Ba ma da], .int .i64 i] w fun e w' => e = .returned (.bool true) ∧ Below w.heap.size w w' := by
  have HFW := hide hf
  have HT0 := hide hT
  clear hf hT
  go_enter Tryz.func7, Tryz.ntmps7
  go_wp2_with fail
  generalize hW : w.alloc _ = W
  obtain ⟨hbW, ba, -⟩ := boxesA1 hW
  clear hW
  refine (HA.out _ (HT0.out.below hbW).tab).mono ?_
  rintro e w1 ⟨rfl, hb1⟩
  have hbA := hbW.trans (hb1.mono hbW.size)
  have ba := ba.below' hb1
  clear hb1 hbW
  have k0 : w1.cell? ⟨w.heap.size, 0, none⟩ = some (.bool pa) := ba.at_ 0
  have k1 : w1.cell? ⟨w.heap.size, 1, none⟩ = some (.slice Aa na ca) := ba.at_ 1
  have k2 : w1.cell? ⟨w.heap.size, 2, none⟩ = some (.slice Ba ma da) := ba.at_ 2
  have kl := ba.lt
  go_wp2_with fail
  clear k0 k1 k2 kl
  generalize hW : w1.alloc _ = W1
  obtain ⟨hb, hfew⟩ := few1 hW
  clear hW
  have hbA := hbA.trans (hb.mono hbA.size)
  have ba := ba.below' hb
  clear hb
  refine (few_any _ 1 1 _ _ _ (by simp [maxLen]) hfew false ⟨fun h => absurd (isFew1.1 h) HFW.out, fun h => by cases h⟩).mono ?_
  rintro e w2 ⟨rfl, rfl⟩
  clear hfew
  go_wp2_with fail
  refine (HA.out _ (HT0.out.below hbA).tab).mono ?_
  rintro e w3 ⟨rfl, hb3⟩
  have hbZ := hbA.trans (hb3.mono hbA.size)
  clear hb3 hbA
  go_wp2
  go_ret
  exact ⟨rfl, hbZ⟩
set_option maxHeartbeats 16000000 in
set_option maxRecDepth 100000 in
theorem rounds_yes (HA : Hid Awake) (i : Int) (pa : Bool) (Aa : Option Addr) (na ca : Nat) (Ba : Option Addr) (ma da : Nat) (x : Rat) (w : World) (hx : Fr w 6 pa Aa na ca Ba ma da x) (hT : Zw w) (hf : na ≤ 6 ∧ ma ≤ 6) (kk : Nat) (hi : i % 21 = (kk : Int)) :
    Calls Tryz.prog 7 #[.agg #[.bool pa, .slice Aa na ca, .slice Ba ma da], .int .i64 i] w fun e w' => e = .returned (.bool true) ∧ Below w.heap.size w w' := by
  have HFW := hide hf
  have HT0 := hide hT
  have HI := hide hi
  have HK := hide (show kk ≤ 20 from by omega)
  have HX := hide hx
  clear hf hT hi
  obtain ⟨u, v, hA, hB, hq⟩ := hx
  obtain ⟨T, hTT⟩ : ∃ T, rnd u v kk = T := ⟨_, rfl⟩
  have HTL := hide (show T < B9 ^ 11 from rnd_lt hTT hA.lt HK.out)
  obtain ⟨S, hS⟩ : ∃ S, bytesOf S = dtext pa T kk := ⟨strN (dtext pa T kk), bytesOf_strN dtext_lt⟩
  have HT := hide hTT
  have HS := hide hS
  have HZ := hide (show S.size ≤ 200 from by rw [← bytesOf_length, hS]; exact dtext_short HTL.out HK.out)
  obtain ⟨r1, r2, -, -⟩ := dtext_read (l := S.data.toList) (p := pa) (T := T) (k := kk) hS
  obtain ⟨Y, hY⟩ : ∃ Y, qv pa T (10 ^ kk) = Y := ⟨_, rfl⟩
  have CP : Hid (∀ W : World, Zw W → Calls Tryz.prog 17 #[.string S] W (GivesFE Y 0 W)) := fun W hW => (fdec_any S W hW HZ.out).mono fun _ _ h => by rw [← hY, ← r2]; exact h.1 r1
  have TY0 : Ht Y 31 := qv_ht (L := 30) (upB HTL.out (by decide)) (ten30 (Nat.le_trans HK.out (by decide))) hY
  have TX0 : Ht x 7 := HX.out.ht
  obtain ⟨D, hD⟩ : ∃ D, Y - x = D := ⟨_, rfl⟩
  have TD0 : Ht D 39 := by rw [← hD]; exact (TY0.sub TX0).up (by omega)
  obtain ⟨D2, hD2⟩ : ∃ D2, D + D = D2 := ⟨_, rfl⟩
  have TD20 : Ht D2 79 := by rw [← hD2]; exact (TD0.add TD0).up (by omega)
  obtain ⟨sg, hsg⟩ : ∃ sg, D.num.sign = sg := ⟨_, rfl⟩
  have HSB := hide (show -1 ≤ sg ∧ sg ≤ 1 from by rw [← hsg]; exact sign_bd _)
  obtain ⟨sr, hsr⟩ : ∃ sr : Rat, (sg : Rat) / ((1 : Int) : Rat) = sr := ⟨_, rfl⟩
  have hsr2 : (sg : Rat) = sr := by rw [← hsr, int_one]
  have TS0 : Ht sr 1 := by
    rw [← hsr2]
    exact Ht.int (by have := HSB.out; exact Nat.lt_of_le_of_lt (show sg.natAbs ≤ 1 by omega) (by decide)) (by omega)
  obtain ⟨D3, hD3⟩ : ∃ D3, D2 * sr = D3 := ⟨_, rfl⟩
  have TD30 : Ht D3 80 := by rw [← hD3]; exact TD20.mul TS0
  obtain ⟨tn, htn⟩ : ∃ tn : Rat, ((1 : Int) : Rat) / ((10 : Int) : Rat) = tn := ⟨_, rfl⟩
  have TT := hide (show Ht tn 100 from by rw [← htn]; exact tenth_ht)
  obtain ⟨U, hU⟩ : ∃ U : Nat → Rat, U = fun j => qv false 1 (10 ^ j) := ⟨_, rfl⟩
  have HU0 := hide (show ((1 : Int) : Rat) / ((1 : Int) : Rat) = U 0 from by rw [hU]; exact unit0)
  have HUS : Hid (∀ j, U j * tn = U (j + 1)) := fun j => by rw [hU, ← htn]; exact mul_tenth j
  have HUT : Hid (∀ j, j ≤ kk → Ht (U j) 100) := fun j hj => by
    rw [hU]
    exact (qv_ht (L := 30) (show 1 < B9 ^ 30 from by decide) (ten30 (Nat.le_trans (Nat.le_trans hj HK.out) (by decide))) rfl).up (by omega)
  obtain ⟨c, hc⟩ : ∃ c, cs D3 (U kk) = c := ⟨_, rfl⟩
  have HFIN := hide (show c < 0 ∨ (c = 0 ∧ x.num.sign = sg) from by
    have h := rounds_fin pa u v kk T hTT D (by rw [hY, hq]; exact hD) sg hsg
    rw [hD2, hsr2, hD3, hq] at h
    rw [← hc, hU]
    exact h.imp id fun h => ⟨h.1, h.2.symm⟩)
  have HYT := hide (show rnd Y.num.natAbs Y.den kk = T from by rw [← hY]; exact again_T pa T kk)
  have HYS := hide (show bytesOf S = dtext (decide (Y.num < 0)) T kk from by rw [hS, ← hY, again_text])
  have TX := hide (TX0.up (show 7 ≤ 100 by omega))
  have TY := hide (TY0.up (show 31 ≤ 100 by omega))
  have TD := hide (TD0.up (show 39 ≤ 100 by omega))
  have TD2 := hide (TD20.up (show 79 ≤ 100 by omega))
  have TSR := hide (TS0.up (show 1 ≤ 100 by omega))
  have TD3 := hide (TD30.up (show 80 ≤ 100 by omega))
  have HD := hide hD
  have HD2 := hide hD2
  have HSG := hide hsg
  have HSR := hide hsr
  have HD3 := hide hD3
  have HTN := hide htn
  have HC := hide hc
  have HTL2 := hide (show T < B9 ^ (31 + 5) from upB HTL.out (by decide))
  have HTY31 := hide TY0
  have SB1 := HSB.out.1
  have SB2 := HSB.out.2
  clear hTT hS r1 r2 hY TY0 TX0 hD TD0 hD2 TD20 hsg hsr hsr2 TS0 hD3 TD30 htn hU hc hq
  go_enter Tryz.func7, Tryz.ntmps7
  go_wp2_with fail
  generalize hW : w.alloc _ = W
  obtain ⟨hbW, ba, -⟩ := boxesA1 hW
  clear hW
  refine (HA.out _ (HT0.out.below hbW).tab).mono ?_
  rintro e w1 ⟨rfl, hb1⟩
  have hbA := hbW.trans (hb1.mono hbW.size)
  have ba := ba.below' hb1
  clear hb1 hbW
  have k0 : w1.cell? ⟨w.heap.size, 0, none⟩ = some (.bool pa) := ba.at_ 0
  have k1 : w1.cell? ⟨w.heap.size, 1, none⟩ = some (.slice Aa na ca) := ba.at_ 1
  have k2 : w1.cell? ⟨w.heap.size, 2, none⟩ = some (.slice Ba ma da) := ba.at_ 2
  have kl := ba.lt
  go_wp2_with fail
  clear k0 k1 k2 kl
  generalize hW : w1.alloc _ = W1
  obtain ⟨hb, hfew⟩ := few1 hW
  clear hW
  have hbA := hbA.trans (hb.mono hbA.size)
  have ba := ba.below' hb
  clear hb
  have hx := HX.out.below hbA
  have hA := hA.below hbA
  have hB := hB.below hbA
  refine (few_any _ 1 1 _ _ _ (by simp [maxLen]) hfew true (by rw [isFew1]; simp [HFW.out])).mono ?_
  rintro e w2 ⟨rfl, rfl⟩
  clear hfew HX
  have k0 : w2.cell? ⟨w.heap.size, 0, none⟩ = some (.bool pa) := ba.at_ 0
  have k1 : w2.cell? ⟨w.heap.size, 1, none⟩ = some (.slice Aa na ca) := ba.at_ 1
  have k2 : w2.cell? ⟨w.heap.size, 2, none⟩ = some (.slice Ba ma da) := ba.at_ 2
  have kl := ba.lt
  go_wp2_with fail
  refine (mod_any i 21 (by omega) (by omega) (kk : Int) HI.out _).mono ?_
  rintro e wx ⟨rfl, rfl⟩
  go_wp2_with fail
  clear k0 k1 k2 kl
  refine (fdecimal_any 6 (by omega) (by omega) pa Aa na ca u Ba ma da v kk HK.out _ hA hB (HT0.out.below hbA).tab T HT.out HTL.out S HS.out).mono ?_
  rintro e w3 ⟨rfl, hb⟩
  clear hA hB
  have hbA := hbA.trans (hb.mono hbA.size)
  have ba := ba.below' hb
  have hx := hx.below hb
  clear hb
  go_wp2_with fail
  refine (CP.out _ (HT0.out.below hbA)).mono ?_
  rintro e w4 ⟨p7, A7, n7, c7, B7, m7, d7, rfl, hy, hb⟩
  have hbA := hbA.trans (hb.mono hbA.size)
  have ba := ba.below' hb
  have hx := hx.below hb
  clear hb
  have zl : decide (200 < (S.size : Int)) = false := by have := HZ.out; simp; omega
  go_wp2_with fail
  generalize hW : w4.alloc _ = W4
  obtain ⟨hb, b7, -⟩ := boxesA1 hW
  clear hW
  have hbA := hbA.trans (hb.mono hbA.size)
  have ba := ba.below' hb
  have hx := hx.below hb
  have hy := hy.below hb
  clear hb
  generalize w4.heap.size = g7 at *
  obtain ⟨rfl, yA, yB⟩ := hy
  have hy : Fc W4 _ A7 n7 c7 B7 m7 d7 Y := ⟨rfl, yA, yB⟩
  refine (fdecimal_any 31 (by omega) (by omega) _ A7 n7 c7 _ B7 m7 d7 _ kk HK.out _ (yA.nt (upB HTY31.out.1 (by omega))) (yB.nt (upB HTY31.out.2 (by omega))) (HT0.out.below hbA).tab T HYT.out HTL2.out S HYS.out).mono ?_
  rintro e w5 ⟨rfl, hb⟩
  clear yA yB
  have hbA := hbA.trans (hb.mono hbA.size)
  have ba := ba.below' hb
  have b7 := b7.below' hb
  have hx := hx.below hb
  have hy := hy.below hb
  clear hb
  go_wp2_with fail
  refine (fof_f 1 1 _ (by omega) (by omega) (by omega) (by omega) (U 0) HU0.out).mono ?_
  rintro e w6 ⟨p1, A1, n1, c1, B1, m1, d1, rfl, hu, hb⟩
  have hbA := hbA.trans (hb.mono hbA.size)
  have ba := ba.below' hb
  have b7 := b7.below' hb
  have hx := hx.below hb
  have hy := hy.below hb
  clear hb
  go_wp2_with fail
  generalize hW : w6.alloc _ = W6
  obtain ⟨hb, bu, -⟩ := boxesA1 hW
  clear hW
  have E6 : Below w6.heap.size w6 W6 := hb
  have hu := hu.below hb
  clear hb
  have la := ba.lt
  have l7 := b7.lt
  have KA : Hid (∀ w', Below w6.heap.size w6 w' → Below w.heap.size w w') := fun w' h => hbA.trans (h.mono hbA.size)
  have KX : Hid (∀ w', Below w6.heap.size w6 w' → Fr w' 100 pa Aa na ca Ba ma da x) := fun w' h => (hx.below h).up (by omega)
  have KY : Hid (∀ w', Below w6.heap.size w6 w' → Fr w' 100 (decide (Y.num < 0)) A7 n7 c7 B7 m7 d7 Y) := fun w' h => (hy.below h).fr TY.out
  have KB : Hid (∀ w', Below w6.heap.size w6 w' → Box w' w.heap.size #[.bool pa, .slice Aa na ca, .slice Ba ma da] 26) := fun w' h => ba.below' h
  have K7 : Hid (∀ w', Below w6.heap.size w6 w' → Box w' g7 #[.bool (decide (Y.num < 0)), .slice A7 n7 c7, .slice B7 m7 d7] 26) := fun w' h => b7.below' h
  clear hbA hx hy ba b7
  go_loopg [12] kk (fun gk i wr => ∃ (j : Nat) (p : Bool) (A : Option Addr) (n c' : Nat) (B' : Option Addr) (m d : Nat), j + gk = kk ∧ i = .int .i64 (j : Int) ∧ Below w6.heap.size w6 wr ∧ Box wr w6.heap.size #[.bool p, .slice A n c', .slice B' m d] 26 ∧ Fc wr p A n c' B' m d (U j))
  case atStart => exact ⟨0, _, _, _, _, _, _, _, by omega, rfl, E6, bu, hu⟩
  case round =>
    obtain ⟨j, p, A, n, c', B', m, d, hj, rfl, Br, bq, xq⟩ := hrel
    clear E6 bu hu
    have HJ := hide hj
    have hk20 := HK.out
    by_cases hlt : j < kk
    · have TJ := hide (HUT.out j (by omega))
      have HM := hide (HUS.out j)
      have HXQ := hide xq
      have P0 : Below wr.heap.size wr wr.drew := (Below.refl _ _).drew
      have i0 : (0 : Int) ≤ (j : Int) := by omega
      have i1 : (j : Int) < (kk : Int) := by omega
      have q0 : wr.cell? ⟨w6.heap.size, 0, none⟩ = some (.bool p) := bq.at_ 0
      have q1 : wr.cell? ⟨w6.heap.size, 1, none⟩ = some (.slice A n c') := bq.at_ 1
      have q2 : wr.cell? ⟨w6.heap.size, 2, none⟩ = some (.slice B' m d) := bq.at_ 2
      have lq := bq.lt
      clear xq hj
      go_wp2_with fail
      go_region_law (first
        | (go_simp; go_at_call 25; (with_reducible refine (fof_f 1 10 _ (by omega) (by omega) (by omega) (by omega) tn HTN.out).mono ?_); rintro e w3 ⟨p3, A3, n3, c3, B3, m3, d3, rfl, x3, hb3⟩; have E3 := P0.trans (hb3.mono P0.size); have b3 := bq.below E3 lq; have s0 : w3.cell? ⟨w6.heap.size, 0, none⟩ = some (.bool p) := b3.at_ 0; have s1 : w3.cell? ⟨w6.heap.size, 1, none⟩ = some (.slice A n c') := b3.at_ 1; have s2 : w3.cell? ⟨w6.heap.size, 2, none⟩ = some (.slice B' m d) := b3.at_ 2)
        | (go_simp; go_at_call 26; (with_reducible refine (fmul_f (L := 100) ((HXQ.out.below E3).fr TJ.out) (x3.fr TT.out) (by omega) (by omega) _ HM.out).mono ?_); rintro e w4 ⟨p4, A4, n4, c4, B4, m4, d4, rfl, x4, hb4⟩; have E4 := E3.trans (hb4.mono E3.size); have b4 := bq.below E4 lq; have g0 : w4.cell? ⟨w6.heap.size, 0, none⟩ = some (.bool p) := b4.at_ 0; have g1 : w4.cell? ⟨w6.heap.size, 1, none⟩ = some (.slice A n c') := b4.at_ 1; have g2 : w4.cell? ⟨w6.heap.size, 2, none⟩ = some (.slice B' m d) := b4.at_ 2; have f0 := b4.frozen 0; have f1 := b4.frozen 1; have f2 := b4.frozen 2))
      all_goals
        have Br := Br.trans (E4.mono Br.size)
        clear q0 q1 q2 s0 s1 s2 g0 g1 g2 f0 f1 f2
        go_wp2_with fail
        generalize hW3 : ((w4.setCell _ _).setCell _ _).setCell _ _ = W3
        obtain ⟨bz, -, C3, BB, -⟩ := put3 b4 hW3
        clear hW3
        have HG := hide (show j + 1 + (gk - 1) = kk from by have := HJ.out; omega)
        have hg1 : 1 ≤ gk := by have := HJ.out; omega
        go_roundg (gk - 1)
        case measure => omega
        case rel => exact ⟨j + 1, p4, A4, n4, c4, B4, m4, d4, HG.out, by go_num, BB _ _ Br (by omega), bz, ⟨x4.1, C3 _ _ _ _ x4.2.1, C3 _ _ _ _ x4.2.2⟩⟩
    · have hjk : j = kk := by omega
      have i1 : decide ((j : Int) < (kk : Int)) = false := by simp; omega
      have i2 : decide (j < kk) = false := by simp; omega
      have i3 : kk ≤ j := by omega
      have i4 : ¬ j < kk := by omega
      have HUK := hide (HUT.out kk (Nat.le_refl _))
      obtain ⟨UK, hUK⟩ : ∃ UK, U kk = UK := ⟨_, rfl⟩
      have HC2 := hide (show cs D3 UK = c from by rw [← hUK]; exact HC.out)
      have TU := hide (show Ht UK 100 from by rw [← hUK]; exact HUK.out)
      rw [hjk, hUK] at xq
      have hbA := KA.out _ Br
      have hx := KX.out _ Br
      have hy := KY.out _ Br
      have ba := KB.out _ Br
      have b7 := K7.out _ Br
      have hu := xq.fr TU.out
      generalize w6.heap.size = g11 at *
      clear KA KX KY KB K7 HUK HUT HUS HU0 HC xq Br hj hlt hjk hUK HJ HTN TT la l7
      have k0 : wr.cell? ⟨w.heap.size, 0, none⟩ = some (.bool pa) := ba.at_ 0
      have k1 : wr.cell? ⟨w.heap.size, 1, none⟩ = some (.slice Aa na ca) := ba.at_ 1
      have k2 : wr.cell? ⟨w.heap.size, 2, none⟩ = some (.slice Ba ma da) := ba.at_ 2
      have kl := ba.lt
      have q0 : wr.cell? ⟨g7, 0, none⟩ = some (.bool (decide (Y.num < 0))) := b7.at_ 0
      have q1 : wr.cell? ⟨g7, 1, none⟩ = some (.slice A7 n7 c7) := b7.at_ 1
      have q2 : wr.cell? ⟨g7, 2, none⟩ = some (.slice B7 m7 d7) := b7.at_ 2
      have ql := b7.lt
      go_wp2_with fail
      clear k0 k1 k2 kl q0 q1 q2 ql
      refine (fsub_f (L := 100) hy hx (by omega) (by omega) D HD.out).mono ?_
      rintro e w7 ⟨p13, A13, n13, c13, B13, m13, d13, rfl, hd, hb⟩
      clear hy b7
      have hbA := hbA.trans (hb.mono hbA.size)
      have ba := ba.below' hb
      have bq := bq.below' hb
      have hx := hx.below hb
      have hu := hu.below hb
      clear hb
      go_wp2_with fail
      generalize hW : w7.alloc _ = W7
      obtain ⟨hb, b13, -⟩ := boxesA1 hW
      clear hW
      have hbA := hbA.trans (hb.mono hbA.size)
      have ba := ba.below' hb
      have bq := bq.below' hb
      have hx := hx.below hb
      have hu := hu.below hb
      have hd := hd.below hb
      clear hb
      generalize w7.heap.size = g13 at *
      refine (fadd_f (L := 100) (hd.fr TD.out) (hd.fr TD.out) (by omega) (by omega) D2 HD2.out).mono ?_
      rintro e w8 ⟨p14, A14, n14, c14, B14, m14, d14, rfl, he, hb⟩
      have hbA := hbA.trans (hb.mono hbA.size)
      have ba := ba.below' hb
      have bq := bq.below' hb
      have b13 := b13.below' hb
      have hx := hx.below hb
      have hu := hu.below hb
      have hd := hd.below hb
      clear hb
      go_wp2_with fail
      generalize hW : w8.alloc _ = W8
      obtain ⟨hb, b14, -⟩ := boxesA1 hW
      clear hW
      have hbA := hbA.trans (hb.mono hbA.size)
      have ba := ba.below' hb
      have bq := bq.below' hb
      have b13 := b13.below' hb
      have hx := hx.below hb
      have hu := hu.below hb
      have hd := hd.below hb
      have he := he.below hb
      clear hb
      generalize w8.heap.size = g14 at *
      have l13 := b13.lt
      have l14 := b14.lt
      have KD : Hid (∀ w', Below W8.heap.size W8 w' → Fr w' 100 p13 A13 n13 c13 B13 m13 d13 D) := fun w' h => (hd.below h).fr TD.out
      have KE : Hid (∀ w', Below W8.heap.size W8 w' → Fr w' 100 p14 A14 n14 c14 B14 m14 d14 D2) := fun w' h => (he.below h).fr TD2.out
      have KS : Hid (∀ w', Below W8.heap.size W8 w' → w'.cell? ⟨g13, 0, none⟩ = some (.bool p13) ∧ w'.cell? ⟨g13, 1, none⟩ = some (.slice A13 n13 c13) ∧ w'.cell? ⟨g13, 2, none⟩ = some (.slice B13 m13 d13) ∧ w'.cell? ⟨g14, 0, none⟩ = some (.bool p14) ∧ w'.cell? ⟨g14, 1, none⟩ = some (.slice A14 n14 c14) ∧ w'.cell? ⟨g14, 2, none⟩ = some (.slice B14 m14 d14)) := fun w' h =>
        ⟨(b13.below h l13).at_ 0, (b13.below h l13).at_ 1, (b13.below h l13).at_ 2, (b14.below h l14).at_ 0, (b14.below h l14).at_ 1, (b14.below h l14).at_ 2⟩
      go_cut [15] from 84 to 88 (fun s15 wx => MadeF W8 D3 s15 wx ∧ Below W8.heap.size W8 wx)
      case first =>
        go_region_held3 (fun w' => w'.cell? ⟨g13, 0, none⟩ = some (.bool p13) ∧ w'.cell? ⟨g13, 1, none⟩ = some (.slice A13 n13 c13) ∧ w'.cell? ⟨g13, 2, none⟩ = some (.slice B13 m13 d13) ∧ w'.cell? ⟨g14, 0, none⟩ = some (.bool p14) ∧ w'.cell? ⟨g14, 1, none⟩ = some (.slice A14 n14 c14) ∧ w'.cell? ⟨g14, 2, none⟩ = some (.slice B14 m14 d14))
          (exact KS.out _ (by ((repeat (first | (with_reducible assumption) | (with_reducible exact Below.refl _ _) | (with_reducible refine Below.drewS ?_) | (with_reducible refine Below.allocS ?_ _) | (with_reducible refine Below.setS ?_ (by first | omega | (simp; omega)) _))); (first | done | fail))))
          (first
            | (go_at_call_of 29 (Value.slice A13 n13 c13); (with_reducible refine (fsign_f (L := 100) (KD.out _ (by ((repeat (first | (with_reducible assumption) | (with_reducible exact Below.refl _ _) | (with_reducible refine Below.drewS ?_) | (with_reducible refine Below.allocS ?_ _) | (with_reducible refine Below.setS ?_ (by first | omega | (simp; omega)) _))); (first | done | fail)))) (by omega) sg HSG.out).mono ?_); rintro e wa ⟨rfl, hba⟩; have Ea : Below W8.heap.size W8 wa := Below.next (by ((repeat (first | (with_reducible assumption) | (with_reducible exact Below.refl _ _) | (with_reducible refine Below.drewS ?_) | (with_reducible refine Below.allocS ?_ _) | (with_reducible refine Below.setS ?_ (by first | omega | (simp; omega)) _))); (first | done | fail))) hba; have za := Ea.size; have ya := hba.size; (try simp at ya))
            | (go_at_call 25; (with_reducible refine (fof_f sg 1 _ (by omega) (by omega) (by omega) (by omega) sr HSR.out).mono ?_); rintro e wb ⟨pb, Ab, nb, cb, Bb, mb, db, rfl, hxb, hbb⟩; have Eb : Below W8.heap.size W8 wb := Below.next (by ((repeat (first | (with_reducible assumption) | (with_reducible exact Below.refl _ _) | (with_reducible refine Below.drewS ?_) | (with_reducible refine Below.allocS ?_ _) | (with_reducible refine Below.setS ?_ (by first | omega | (simp; omega)) _))); (first | done | fail))) hbb; have zb := Eb.size; have yb := hbb.size; (try simp at yb); have tb : Hid (∀ w', Below wb.heap.size wb w' → Fr w' 100 pb Ab nb cb Bb mb db sr) := fun w' h => (hxb.below h).fr TSR.out; clear hxb)
            | (go_at_call_of 26 (Value.slice A14 n14 c14); (with_reducible refine (fmul_f (L := 100) (KE.out _ (by ((repeat (first | (with_reducible assumption) | (with_reducible exact Below.refl _ _) | (with_reducible refine Below.drewS ?_) | (with_reducible refine Below.allocS ?_ _) | (with_reducible refine Below.setS ?_ (by first | omega | (simp; omega)) _))); (first | done | fail)))) (tb.out _ (by first | exact Below.refl _ _ | exact (Below.refl _ _).drew | exact (Below.refl _ _).alloc (Nat.le_refl _) _)) (by omega) (by omega) D3 HD3.out).mono ?_); rintro e wc ⟨p15, A15, n15, c15, B15, m15, d15, rfl, h15, hbc⟩; have Ec : Below W8.heap.size W8 wc := Below.next (by ((repeat (first | (with_reducible assumption) | (with_reducible exact Below.refl _ _) | (with_reducible refine Below.drewS ?_) | (with_reducible refine Below.allocS ?_ _) | (with_reducible refine Below.setS ?_ (by first | omega | (simp; omega)) _))); (first | done | fail))) hbc; have zc := Ec.size; have yc := hbc.size; (try simp at yc); (try (have q0_0 : W8.heap.size < wc.heap.size := by omega)); (try (have q1_0 : wa.heap.size < wc.heap.size := by omega)); (try (have q2_0 : wb.heap.size < wc.heap.size := by omega)); (try (have e0_0 : Box wc (W8.heap.size) #[.bool false, .slice none 0 0, .slice none 0 0] 26 := (by ((repeat (first | (with_reducible exact Box.newE _ _ _ (by first | rfl | (simp; (first | done | fail)))) | (with_reducible refine Box.drewS ?_) | (with_reducible refine Box.alloc ?_ _) | (with_reducible refine Box.below' ?_ hbc) | (with_reducible refine Box.below' ?_ hbb) | (with_reducible refine Box.below' ?_ hba))); (first | done | fail))); have le0_0 := Box.lt e0_0; have k0e0_0 : wc.cell? ⟨W8.heap.size, 0, none⟩ = some (.bool false) := Box.at_ e0_0 0; have k1e0_0 : wc.cell? ⟨W8.heap.size, 1, none⟩ = some (.slice none 0 0) := Box.at_ e0_0 1; have k2e0_0 : wc.cell? ⟨W8.heap.size, 2, none⟩ = some (.slice none 0 0) := Box.at_ e0_0 2; have f0e0_0 := Box.frozen e0_0 0; have f1e0_0 := Box.frozen e0_0 1; have f2e0_0 := Box.frozen e0_0 2)); (try (have e1_0 : Box wc (wa.heap.size) #[.bool false, .slice none 0 0, .slice none 0 0] 26 := (by ((repeat (first | (with_reducible exact Box.newE _ _ _ (by first | rfl | (simp; (first | done | fail)))) | (with_reducible refine Box.drewS ?_) | (with_reducible refine Box.alloc ?_ _) | (with_reducible refine Box.below' ?_ hbc) | (with_reducible refine Box.below' ?_ hbb) | (with_reducible refine Box.below' ?_ hba))); (first | done | fail))); have le1_0 := Box.lt e1_0; have k0e1_0 : wc.cell? ⟨wa.heap.size, 0, none⟩ = some (.bool false) := Box.at_ e1_0 0; have k1e1_0 : wc.cell? ⟨wa.heap.size, 1, none⟩ = some (.slice none 0 0) := Box.at_ e1_0 1; have k2e1_0 : wc.cell? ⟨wa.heap.size, 2, none⟩ = some (.slice none 0 0) := Box.at_ e1_0 2; have f0e1_0 := Box.frozen e1_0 0; have f1e1_0 := Box.frozen e1_0 1; have f2e1_0 := Box.frozen e1_0 2)); (try (have e2_0 : Box wc (wb.heap.size) #[.bool false, .slice none 0 0, .slice none 0 0] 26 := (by ((repeat (first | (with_reducible exact Box.newE _ _ _ (by first | rfl | (simp; (first | done | fail)))) | (with_reducible refine Box.drewS ?_) | (with_reducible refine Box.alloc ?_ _) | (with_reducible refine Box.below' ?_ hbc) | (with_reducible refine Box.below' ?_ hbb) | (with_reducible refine Box.below' ?_ hba))); (first | done | fail))); have le2_0 := Box.lt e2_0; have k0e2_0 : wc.cell? ⟨wb.heap.size, 0, none⟩ = some (.bool false) := Box.at_ e2_0 0; have k1e2_0 : wc.cell? ⟨wb.heap.size, 1, none⟩ = some (.slice none 0 0) := Box.at_ e2_0 1; have k2e2_0 : wc.cell? ⟨wb.heap.size, 2, none⟩ = some (.slice none 0 0) := Box.at_ e2_0 2; have f0e2_0 := Box.frozen e2_0 0; have f1e2_0 := Box.frozen e2_0 1; have f2e2_0 := Box.frozen e2_0 2))))
        all_goals
          go_wp2_with fail
          go_meet
          exact ⟨⟨_, p15, A15, n15, c15, B15, m15, d15, rfl, (by first | omega | (simp; omega)), (by ((repeat (first | (with_reducible assumption) | (with_reducible exact Box.newE _ _ _ (by first | rfl | (simp; (first | done | fail)))) | (with_reducible refine Box.drewS ?_) | (with_reducible refine Box.alloc ?_ _) | (with_reducible refine Box.put1z ?_) | (with_reducible refine Box.put3z ?_) | (with_reducible refine Box.far3 ?_ (by first | omega | (simp; omega)) _ _ _) | (with_reducible refine Box.far1 ?_ (by first | omega | (simp; omega)) _))); (first | done | fail))), (by ((repeat (first | (with_reducible assumption) | (with_reducible refine Fc.drewS ?_) | (with_reducible refine Fc.allocS ?_ _) | (with_reducible refine Fc.far3z ?_ (by ((repeat (first | (with_reducible assumption) | (with_reducible exact Box.newE _ _ _ (by first | rfl | (simp; (first | done | fail)))) | (with_reducible refine Box.drewS ?_) | (with_reducible refine Box.alloc ?_ _) | (with_reducible refine Box.put1z ?_) | (with_reducible refine Box.put3z ?_) | (with_reducible refine Box.far3 ?_ (by first | omega | (simp; omega)) _ _ _) | (with_reducible refine Box.far1 ?_ (by first | omega | (simp; omega)) _))); (first | done | fail))) _ _ _ _ _ _ _))); (first | done | fail)))⟩, (by ((repeat (first | (with_reducible assumption) | (with_reducible exact Below.refl _ _) | (with_reducible refine Below.drewS ?_) | (with_reducible refine Below.allocS ?_ _) | (with_reducible refine Below.setS ?_ (by first | omega | (simp; omega)) _))); (first | done | fail)))⟩
      case rest =>
      obtain ⟨⟨g15, p15, A15, n15, c15, B15, m15, d15, rfl, -, b15, h15⟩, hb⟩ := hcut
      clear KD KE KS l13 l14 he b14
      generalize wc = W9 at *
      have hbA := hbA.trans (hb.mono hbA.size)
      have ba := ba.below' hb
      have bq := bq.below' hb
      have b13 := b13.below' hb
      have hx := hx.below hb
      have hu := hu.below hb
      have hd := hd.below hb
      clear hb
      have k0 : W9.cell? ⟨g15, 0, none⟩ = some (.bool p15) := b15.at_ 0
      have k1 : W9.cell? ⟨g15, 1, none⟩ = some (.slice A15 n15 c15) := b15.at_ 1
      have k2 : W9.cell? ⟨g15, 2, none⟩ = some (.slice B15 m15 d15) := b15.at_ 2
      have kl := b15.lt
      have q0 : W9.cell? ⟨g11, 0, none⟩ = some (.bool p) := bq.at_ 0
      have q1 : W9.cell? ⟨g11, 1, none⟩ = some (.slice A n c') := bq.at_ 1
      have q2 : W9.cell? ⟨g11, 2, none⟩ = some (.slice B' m d) := bq.at_ 2
      have ql := bq.lt
      go_wp2_with fail
      clear k0 k1 k2 kl q0 q1 q2 ql
      refine (fcmp_f (L := 100) (h15.fr TD3.out) hu (by omega) (by omega) c HC2.out).mono ?_
      rintro e w10 ⟨rfl, hb⟩
      clear h15 hu b15 bq
      have hbA := hbA.trans (hb.mono hbA.size)
      have ba := ba.below' hb
      have b13 := b13.below' hb
      have hx := hx.below hb
      have hd := hd.below hb
      clear hb
      go_wp2_with fail
      rcases HFIN.out with h | ⟨rfl, h⟩
      · have d1 : decide (c < 0) = true := decide_eq_true h
        clear h
        go_quiet (fail)
        go_wp2_with fail
        go_ret
        exact ⟨rfl, below_drewN hbA _⟩
      · have HSX := hide h
        clear h
        have la := ba.lt
        have l13 := b13.lt
        have KD : Hid (∀ w', Below w10.heap.size w10 w' → Fr w' 100 p13 A13 n13 c13 B13 m13 d13 D) := fun w' h => (hd.below h).fr TD.out
        have KX : Hid (∀ w', Below w10.heap.size w10 w' → Fr w' 100 pa Aa na ca Ba ma da x) := fun w' h => hx.below h
        have KT : Hid (∀ w', Below w10.heap.size w10 w' → w'.cell? ⟨g13, 0, none⟩ = some (.bool p13) ∧ w'.cell? ⟨g13, 1, none⟩ = some (.slice A13 n13 c13) ∧ w'.cell? ⟨g13, 2, none⟩ = some (.slice B13 m13 d13) ∧ w'.cell? ⟨w.heap.size, 0, none⟩ = some (.bool pa) ∧ w'.cell? ⟨w.heap.size, 1, none⟩ = some (.slice Aa na ca) ∧ w'.cell? ⟨w.heap.size, 2, none⟩ = some (.slice Ba ma da)) := fun w' h =>
          ⟨(b13.below h l13).at_ 0, (b13.below h l13).at_ 1, (b13.below h l13).at_ 2, (ba.below h la).at_ 0, (ba.below h la).at_ 1, (ba.below h la).at_ 2⟩
        go_region_held3 (fun w' => w'.cell? ⟨g13, 0, none⟩ = some (.bool p13) ∧ w'.cell? ⟨g13, 1, none⟩ = some (.slice A13 n13 c13) ∧ w'.cell? ⟨g13, 2, none⟩ = some (.slice B13 m13 d13) ∧ w'.cell? ⟨w.heap.size, 0, none⟩ = some (.bool pa) ∧ w'.cell? ⟨w.heap.size, 1, none⟩ = some (.slice Aa na ca) ∧ w'.cell? ⟨w.heap.size, 2, none⟩ = some (.slice Ba ma da))
          (exact KT.out _ (by ((repeat (first | (with_reducible assumption) | (with_reducible exact Below.refl _ _) | (with_reducible refine Below.drewS ?_) | (with_reducible refine Below.allocS ?_ _) | (with_reducible refine Below.setS ?_ (by first | omega | (simp; omega)) _))); (first | done | fail))))
          (first
            | (go_at_call_of 29 (Value.slice A13 n13 c13); (with_reducible refine (fsign_f (L := 100) (KD.out _ (by ((repeat (first | (with_reducible assumption) | (with_reducible exact Below.refl _ _) | (with_reducible refine Below.drewS ?_) | (with_reducible refine Below.allocS ?_ _) | (with_reducible refine Below.setS ?_ (by first | omega | (simp; omega)) _))); (first | done | fail)))) (by omega) sg HSG.out).mono ?_); rintro e wa ⟨rfl, hba⟩; have Ea : Below w10.heap.size w10 wa := Below.next (by ((repeat (first | (with_reducible assumption) | (with_reducible exact Below.refl _ _) | (with_reducible refine Below.drewS ?_) | (with_reducible refine Below.allocS ?_ _) | (with_reducible refine Below.setS ?_ (by first | omega | (simp; omega)) _))); (first | done | fail))) hba; have za := Ea.size; have ya := hba.size; (try simp at ya))
            | (go_at_call_of 29 (Value.slice Aa na ca); (with_reducible refine (fsign_f (L := 100) (KX.out _ (by ((repeat (first | (with_reducible assumption) | (with_reducible exact Below.refl _ _) | (with_reducible refine Below.drewS ?_) | (with_reducible refine Below.allocS ?_ _) | (with_reducible refine Below.setS ?_ (by first | omega | (simp; omega)) _))); (first | done | fail)))) (by omega) sg HSX.out).mono ?_); rintro e wb ⟨rfl, hbb⟩; have Eb : Below w10.heap.size w10 wb := Below.next (by ((repeat (first | (with_reducible assumption) | (with_reducible exact Below.refl _ _) | (with_reducible refine Below.drewS ?_) | (with_reducible refine Below.allocS ?_ _) | (with_reducible refine Below.setS ?_ (by first | omega | (simp; omega)) _))); (first | done | fail))) hbb; have zb := Eb.size; have yb := hbb.size; (try simp at yb)))
        all_goals
          go_wp2_with fail
          go_ret
          exact ⟨rfl, hbA.trans (Eb.mono hbA.size)⟩
theorem rounds_all (HA : Hid Awake) (i : Int) (pa : Bool) (Aa : Option Addr) (na ca : Nat) (Ba : Option Addr) (ma da : Nat) (x : Rat) (w : World) (hx : na ≤ 6 ∧ ma ≤ 6 → Fr w 6 pa Aa na ca Ba ma da x) (hT : Zw w) :
    Calls Tryz.prog 7 #[.agg #[.bool pa, .slice Aa na ca, .slice Ba ma da], .int .i64 i] w fun e w' => e = .returned (.bool true) ∧ Below w.heap.size w w' := by
  by_cases hf : na ≤ 6 ∧ ma ≤ 6
  · exact rounds_yes HA i pa Aa na ca Ba ma da x w (hx hf) hT hf (i % 21).toNat (by omega)
  · exact rounds_no HA i pa Aa na ca Ba ma da w hT hf
end Go.Proofs.YtoeknkakdoemfaaGreatDoor
