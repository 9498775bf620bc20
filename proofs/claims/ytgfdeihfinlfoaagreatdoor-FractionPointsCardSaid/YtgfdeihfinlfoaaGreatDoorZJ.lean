/- fraction.ParseDecimal: the walks, under the contracts of what it calls. -/
import Derived.Test.YtgfdeihfinlfoaaGreatDoorZH
import Derived.Test.YtgfdeihfinlfoaaGreatDoorZA
import Derived.Test.YtgfdeihfinlfoaaGreatDoorFUnits
import Derived.Test.YtgfdeihfinlfoaaGreatDoorBaseF
import Derived.Deep.CutRange
import Derived.Deep.RegionHeld3
import Derived.WalkSpells
import Derived.Test.YtgfdeihfinlfoaaGreatDoorZB
import Derived.Test.YtgfdeihfinlfoaaGreatDoorZRDecAE
import Derived.Test.YtgfdeihfinlfoaaGreatDoorZRDecA11
import Derived.Test.YtgfdeihfinlfoaaGreatDoorZRDecA10
import Derived.Test.YtgfdeihfinlfoaaGreatDoorZRDecBE
import Derived.Test.YtgfdeihfinlfoaaGreatDoorZRDecB11
import Derived.Test.YtgfdeihfinlfoaaGreatDoorZRDecB10
import Derived.Test.YtgfdeihfinlfoaaGreatDoorZI
import Derived.Test.YtgfdeihfinlfoaaGreatDoorCards
import Derived.Test.YtgfdeihfinlfoaaGreatDoorTie
import Derived.ChangeMaps5
import Derived.Lay
namespace Go.Proofs.YtgfdeihfinlfoaaGreatDoor
open Go Go.RowKit

set_option maxHeartbeats 4000000 in
set_option maxRecDepth 100000 in
theorem pd_yE1 (s D SA SB : ByteArray) (g : Bool) (u v : Nat) (b : Bool) (w : World) (hT : Zw w) (hs : s.size ≤ 200)
    (c1 : ∀ W : World, Calls Tryz.prog 32 #[.string s, .string ⟨#[45]⟩] W fun e w' => e = .returned (.tuple #[.string D, .bool g]) ∧ W = w')
    (c2 : ∀ W : World, Zw W → Calls Tryz.prog 33 #[.string D, .string ⟨#[46]⟩] W fun e w' => e = .returned (.tuple #[.string SA, .string SB, .bool true]) ∧ Below W.heap.size W w')
    (p1 : ∀ W : World, Calls Tryz.prog 34 #[.string SA] W (GivesNE u 3 W)) (p2 : ∀ W : World, Calls Tryz.prog 49 #[.string SB] W (GivesNB v b W)) :
    Calls Tryz.prog 17 #[.string s] w (fun e w' => e = .returned (.tuple #[.agg #[.bool false, .slice none 0 0, .slice none 0 0], .int .i64 3]) ∧ Below w.heap.size w w') := by
  have HT := hide hT
  have C1 := hide c1
  have C2 := hide c2
  have P1 := hide p1
  have P2 := hide p2
  have d0 : decide (200 < (s.size : Int)) = false := by simp; omega
  clear hT c1 c2 p1 p2
  go_enter Tryz.func17, Tryz.ntmps17
  go_wp2_with fail
  generalize hW : w.alloc _ = W
  obtain ⟨B, bR, -⟩ := boxesA1 hW
  clear hW
  refine (C1.out _).mono ?_
  rintro e w1 ⟨rfl, rfl⟩
  go_wp2_with fail
  refine (C2.out _ (HT.out.below B)).mono ?_
  rintro e w2 ⟨rfl, hb⟩
  have bR := bR.below' hb
  have B := B.trans (hb.mono B.size)
  clear hb
  go_wp2_with fail
  refine (P1.out _).mono ?_
  rintro e w3 hg
  obtain ⟨A3, n3, c3, rfl, a3, hb⟩ := hg.cn
  have bR := bR.below' hb
  have B := B.trans (hb.mono B.size)
  clear hb hg
  go_wp2_with fail
  generalize hW : w3.alloc _ = W3
  obtain ⟨hb, bn, -⟩ := boxesA1 hW
  clear hW
  have bR := bR.below' hb
  have a3 := a3.below hb
  have B := B.trans (hb.mono B.size)
  clear hb
  generalize w3.heap.size = gn at *
  refine (P2.out _).mono ?_
  rintro e w4 ⟨A4, n4, c4, rfl, a4, hb⟩
  have bR := bR.below' hb
  have bn := bn.below' hb
  have a3 := a3.below hb
  have B := B.trans (hb.mono B.size)
  clear hb
  have g0 : w4.cell? ⟨w.heap.size, 0, none⟩ = some (.bool false) := bR.at_ 0
  have g1 : w4.cell? ⟨w.heap.size, 1, none⟩ = some (.slice none 0 0) := bR.at_ 1
  have g2 : w4.cell? ⟨w.heap.size, 2, none⟩ = some (.slice none 0 0) := bR.at_ 2
  have f0 := bR.frozen 0
  have f1 := bR.frozen 1
  have f2 := bR.frozen 2
  have gz := bR.lt
  go_wp2_with fail
  clear g0 g1 g2 f0 f1 f2
  generalize hW3 : ((World.setCell _ _ _).setCell _ _).setCell _ _ = W3
  obtain ⟨b3, -, C3, B4, -⟩ := put3 bR hW3
  clear hW3
  have B := B4 _ _ B (Nat.le_refl _)
  generalize hW : W3.alloc _ = W5
  obtain ⟨hb, -, -⟩ := boxesA1 hW
  clear hW
  have b3 := b3.below' hb
  have B := B.trans (hb.mono B.size)
  have k0 : W5.cell? ⟨w.heap.size, 0, none⟩ = some (.bool false) := b3.at_ 0
  have k1 : W5.cell? ⟨w.heap.size, 1, none⟩ = some (.slice none 0 0) := b3.at_ 1
  have k2 : W5.cell? ⟨w.heap.size, 2, none⟩ = some (.slice none 0 0) := b3.at_ 2
  refine bodyPost_ret (v := .tuple #[.agg #[.bool false, .slice none 0 0, .slice none 0 0], .int .i64 3]) (by simp [results, Tryz.results17, go_sem, k0, k1, k2]) rfl ?_
  exact ⟨rfl, B⟩
set_option maxHeartbeats 4000000 in
set_option maxRecDepth 100000 in
theorem pd_yE2 (s D SA SB : ByteArray) (g : Bool) (u v : Nat) (w : World) (hT : Zw w) (hs : s.size ≤ 200)
    (c1 : ∀ W : World, Calls Tryz.prog 32 #[.string s, .string ⟨#[45]⟩] W fun e w' => e = .returned (.tuple #[.string D, .bool g]) ∧ W = w')
    (c2 : ∀ W : World, Zw W → Calls Tryz.prog 33 #[.string D, .string ⟨#[46]⟩] W fun e w' => e = .returned (.tuple #[.string SA, .string SB, .bool true]) ∧ Below W.heap.size W w')
    (p1 : ∀ W : World, Calls Tryz.prog 34 #[.string SA] W (GivesNE u 0 W)) (p2 : ∀ W : World, Calls Tryz.prog 49 #[.string SB] W (GivesNB v false W)) :
    Calls Tryz.prog 17 #[.string s] w (fun e w' => e = .returned (.tuple #[.agg #[.bool false, .slice none 0 0, .slice none 0 0], .int .i64 3]) ∧ Below w.heap.size w w') := by
  have HT := hide hT
  have C1 := hide c1
  have C2 := hide c2
  have P1 := hide p1
  have P2 := hide p2
  have d0 : decide (200 < (s.size : Int)) = false := by simp; omega
  clear hT c1 c2 p1 p2
  go_enter Tryz.func17, Tryz.ntmps17
  go_wp2_with fail
  generalize hW : w.alloc _ = W
  obtain ⟨B, bR, -⟩ := boxesA1 hW
  clear hW
  refine (C1.out _).mono ?_
  rintro e w1 ⟨rfl, rfl⟩
  go_wp2_with fail
  refine (C2.out _ (HT.out.below B)).mono ?_
  rintro e w2 ⟨rfl, hb⟩
  have bR := bR.below' hb
  have B := B.trans (hb.mono B.size)
  clear hb
  go_wp2_with fail
  refine (P1.out _).mono ?_
  rintro e w3 hg
  obtain ⟨A3, n3, c3, rfl, a3, hb⟩ := hg.cn
  have bR := bR.below' hb
  have B := B.trans (hb.mono B.size)
  clear hb hg
  go_wp2_with fail
  generalize hW : w3.alloc _ = W3
  obtain ⟨hb, bn, -⟩ := boxesA1 hW
  clear hW
  have bR := bR.below' hb
  have a3 := a3.below hb
  have B := B.trans (hb.mono B.size)
  clear hb
  generalize w3.heap.size = gn at *
  refine (P2.out _).mono ?_
  rintro e w4 ⟨A4, n4, c4, rfl, a4, hb⟩
  have bR := bR.below' hb
  have bn := bn.below' hb
  have a3 := a3.below hb
  have B := B.trans (hb.mono B.size)
  clear hb
  have g0 : w4.cell? ⟨w.heap.size, 0, none⟩ = some (.bool false) := bR.at_ 0
  have g1 : w4.cell? ⟨w.heap.size, 1, none⟩ = some (.slice none 0 0) := bR.at_ 1
  have g2 : w4.cell? ⟨w.heap.size, 2, none⟩ = some (.slice none 0 0) := bR.at_ 2
  have f0 := bR.frozen 0
  have f1 := bR.frozen 1
  have f2 := bR.frozen 2
  have gz := bR.lt
  go_wp2_with fail
  clear g0 g1 g2 f0 f1 f2
  generalize hW3 : ((World.setCell _ _ _).setCell _ _).setCell _ _ = W3
  obtain ⟨b3, -, C3, B4, -⟩ := put3 bR hW3
  clear hW3
  have B := B4 _ _ B (Nat.le_refl _)
  generalize hW : W3.alloc _ = W5
  obtain ⟨hb, -, -⟩ := boxesA1 hW
  clear hW
  have b3 := b3.below' hb
  have B := B.trans (hb.mono B.size)
  have k0 : W5.cell? ⟨w.heap.size, 0, none⟩ = some (.bool false) := b3.at_ 0
  have k1 : W5.cell? ⟨w.heap.size, 1, none⟩ = some (.slice none 0 0) := b3.at_ 1
  have k2 : W5.cell? ⟨w.heap.size, 2, none⟩ = some (.slice none 0 0) := b3.at_ 2
  refine bodyPost_ret (v := .tuple #[.agg #[.bool false, .slice none 0 0, .slice none 0 0], .int .i64 3]) (by simp [results, Tryz.results17, go_sem, k0, k1, k2]) rfl ?_
  exact ⟨rfl, B⟩
set_option maxHeartbeats 4000000 in
set_option maxRecDepth 100000 in
theorem pd_yT (s D SA SB : ByteArray) (g : Bool) (u v : Nat) (w : World) (hT : Zw w) (hs : s.size ≤ 200)
    (c1 : ∀ W : World, Calls Tryz.prog 32 #[.string s, .string ⟨#[45]⟩] W fun e w' => e = .returned (.tuple #[.string D, .bool g]) ∧ W = w')
    (c2 : ∀ W : World, Zw W → Calls Tryz.prog 33 #[.string D, .string ⟨#[46]⟩] W fun e w' => e = .returned (.tuple #[.string SA, .string SB, .bool true]) ∧ Below W.heap.size W w')
    (p1 : ∀ W : World, Calls Tryz.prog 34 #[.string SA] W (GivesNE u 0 W)) (p2 : ∀ W : World, Calls Tryz.prog 49 #[.string SB] W (GivesNB v true W)) (hu : u < B9 ^ 30) (hv : v < B9 ^ 445) (k : Nat) (hk : SB.size = k) (hk2 : k ≤ 200) (Q : Nat) (hQ : 10 ^ k = Q) (hQ2 : Q < B9 ^ 30) (X : Nat) (hX : u * Q = X) (hXL : X < B9 ^ 445) (Y : Nat) (hY : X + v = Y) (hY2 : Y < B9 ^ 446) (r : Rat) (hr : qv g Y Q = r) :
    Calls Tryz.prog 17 #[.string s] w (GivesFE r 0 w) := by
  have HT := hide hT
  have C1 := hide c1
  have C2 := hide c2
  have P1 := hide p1
  have P2 := hide p2
  have d0 : decide (200 < (s.size : Int)) = false := by simp; omega
  have HU := hide hu
  have HV := hide hv
  have HQ := hide hQ
  have HQ2 := hide hQ2
  have HX := hide hX
  have HXL := hide hXL
  have HY := hide hY
  have HY2 := hide hY2
  have HR := hide hr
  have HK := hide hk
  clear hT c1 c2 p1 p2 hu hv hQ hQ2 hX hXL hY hY2 hr hk
  go_enter Tryz.func17, Tryz.ntmps17
  go_wp2_with fail
  generalize hW : w.alloc _ = W
  obtain ⟨B, bR, -⟩ := boxesA1 hW
  clear hW
  refine (C1.out _).mono ?_
  rintro e w1 ⟨rfl, rfl⟩
  go_wp2_with fail
  refine (C2.out _ (HT.out.below B)).mono ?_
  rintro e w2 ⟨rfl, hb⟩
  have bR := bR.below' hb
  have B := B.trans (hb.mono B.size)
  clear hb
  go_wp2_with fail
  refine (P1.out _).mono ?_
  rintro e w3 hg
  obtain ⟨A3, n3, c3, rfl, a3, hb⟩ := hg.cn
  have bR := bR.below' hb
  have B := B.trans (hb.mono B.size)
  clear hb hg
  go_wp2_with fail
  generalize hW : w3.alloc _ = W3
  obtain ⟨hb, bn, -⟩ := boxesA1 hW
  clear hW
  have bR := bR.below' hb
  have a3 := a3.below hb
  have B := B.trans (hb.mono B.size)
  clear hb
  generalize w3.heap.size = gn at *
  refine (P2.out _).mono ?_
  rintro e w4 ⟨A4, n4, c4, rfl, a4, hb⟩
  have bR := bR.below' hb
  have bn := bn.below' hb
  have a3 := a3.below hb
  have B := B.trans (hb.mono B.size)
  clear hb
  go_wp2_with fail
  generalize hW : w4.alloc _ = W4
  obtain ⟨hb, bd, -⟩ := boxesA1 hW
  clear hW
  have bR := bR.below' hb
  have bn := bn.below' hb
  have a3 := a3.below hb
  have a4 := a4.below hb
  have B := B.trans (hb.mono B.size)
  clear hb
  generalize w4.heap.size = gd at *
  rw [HK.out]
  refine (units_any k (by omega) _ Q HQ.out).mono ?_
  rintro e w5 hg
  obtain ⟨A5, n5, c5, rfl, a5, hb⟩ := hg.cn
  have bR := bR.below' hb
  have bn := bn.below' hb
  have bd := bd.below' hb
  have a3 := a3.below hb
  have a4 := a4.below hb
  have B := B.trans (hb.mono B.size)
  clear hb hg
  go_wp2_with fail
  generalize hW : w5.alloc _ = W5
  obtain ⟨hb, bu, -⟩ := boxesA1 hW
  clear hW
  have bR := bR.below' hb
  have bn := bn.below' hb
  have bd := bd.below' hb
  have a3 := a3.below hb
  have a4 := a4.below hb
  have a5 := a5.below hb
  have B := B.trans (hb.mono B.size)
  clear hb
  generalize w5.heap.size = gu at *
  have KS : Hid (∀ w', Below W5.heap.size W5 w' → w'.cell? ⟨gn, 0, none⟩ = some (.slice A3 n3 c3) ∧ w'.cell? ⟨gd, 0, none⟩ = some (.slice A4 n4 c4) ∧ w'.cell? ⟨gu, 0, none⟩ = some (.slice A5 n5 c5)) := fun w' h =>
    ⟨(bn.below' h).at_ 0, (bd.below' h).at_ 0, (bu.below' h).at_ 0⟩
  go_cut [14] from 53 to 57 (fun s14 wx => MadeN W5 Y s14 wx ∧ Below W5.heap.size W5 wx)
  case first =>
    go_region_held3 (fun w' => w'.cell? ⟨gn, 0, none⟩ = some (.slice A3 n3 c3) ∧ w'.cell? ⟨gd, 0, none⟩ = some (.slice A4 n4 c4) ∧ w'.cell? ⟨gu, 0, none⟩ = some (.slice A5 n5 c5))
      (exact KS.out _ (by ((repeat (first | (with_reducible assumption) | (with_reducible exact Below.refl _ _) | (with_reducible refine Below.drewS ?_) | (with_reducible refine Below.allocS ?_ _) | (with_reducible refine Below.setS ?_ (by first | omega | (simp; omega)) _))); (first | done | fail))))
      (first
        | (go_at_call 52; (with_reducible refine (mul_n (L := 30) ((a3.below (by ((repeat (first | (with_reducible assumption) | (with_reducible exact Below.refl _ _) | (with_reducible refine Below.drewS ?_) | (with_reducible refine Below.allocS ?_ _) | (with_reducible refine Below.setS ?_ (by first | omega | (simp; omega)) _))); (first | done | fail)))).nt HU.out) ((a5.below (by ((repeat (first | (with_reducible assumption) | (with_reducible exact Below.refl _ _) | (with_reducible refine Below.drewS ?_) | (with_reducible refine Below.allocS ?_ _) | (with_reducible refine Below.setS ?_ (by first | omega | (simp; omega)) _))); (first | done | fail)))).nt HQ2.out) (by omega) X HX.out).mono ?_); rintro e wm ⟨Am, nm, cm, rfl, rm, lm, mm, hbm⟩; have Em : Below W5.heap.size W5 wm := Below.next (by ((repeat (first | (with_reducible assumption) | (with_reducible exact Below.refl _ _) | (with_reducible refine Below.drewS ?_) | (with_reducible refine Below.allocS ?_ _) | (with_reducible refine Below.setS ?_ (by first | omega | (simp; omega)) _))); (first | done | fail))) hbm; have zm := Em.size; have ym := hbm.size; (try simp at ym); have hm : Cn wm Am nm cm X := ⟨rm, lm, mm⟩; clear rm lm mm)
        | (go_at_call 51; (with_reducible refine (add_n (L := 445) ((hm.below (by ((repeat (first | (with_reducible assumption) | (with_reducible exact Below.refl _ _) | (with_reducible refine Below.drewS ?_) | (with_reducible refine Below.allocS ?_ _) | (with_reducible refine Below.setS ?_ (by first | omega | (simp; omega)) _))); (first | done | fail)))).nt HXL.out) ((a4.below (by ((repeat (first | (with_reducible assumption) | (with_reducible exact Below.refl _ _) | (with_reducible refine Below.drewS ?_) | (with_reducible refine Below.allocS ?_ _) | (with_reducible refine Below.setS ?_ (by first | omega | (simp; omega)) _))); (first | done | fail)))).nt HV.out) (by omega) Y HY.out).mono ?_); rintro e wn ⟨An, nn, cn, rfl, rn, ln, mn, hbn⟩; have En : Below W5.heap.size W5 wn := Below.next (by ((repeat (first | (with_reducible assumption) | (with_reducible exact Below.refl _ _) | (with_reducible refine Below.drewS ?_) | (with_reducible refine Below.allocS ?_ _) | (with_reducible refine Below.setS ?_ (by first | omega | (simp; omega)) _))); (first | done | fail))) hbn; have zn := En.size; have yn := hbn.size; (try simp at yn); (try (have q0_0 : W5.heap.size < wn.heap.size := by omega)); (try (have q1_0 : wm.heap.size < wn.heap.size := by omega)); (try (have e0_0 : Box wn (W5.heap.size) #[.slice none 0 0] 24 := (by ((repeat (first | (with_reducible exact Box.newE _ _ _ (by first | rfl | (simp; (first | done | fail)))) | (with_reducible refine Box.drewS ?_) | (with_reducible refine Box.alloc ?_ _) | (with_reducible refine Box.below' ?_ hbn) | (with_reducible refine Box.below' ?_ hbm))); (first | done | fail))); have le0_0 := Box.lt e0_0; have ke0_0 := Box.cell e0_0; have fe0_0 := Box.frozen e0_0 0)); (try (have e1_0 : Box wn (wm.heap.size) #[.slice none 0 0] 24 := (by ((repeat (first | (with_reducible exact Box.newE _ _ _ (by first | rfl | (simp; (first | done | fail)))) | (with_reducible refine Box.drewS ?_) | (with_reducible refine Box.alloc ?_ _) | (with_reducible refine Box.below' ?_ hbn) | (with_reducible refine Box.below' ?_ hbm))); (first | done | fail))); have le1_0 := Box.lt e1_0; have ke1_0 := Box.cell e1_0; have fe1_0 := Box.frozen e1_0 0)); have hn : Cn wn An nn cn Y := ⟨rn, ln, mn⟩; clear rn ln mn))
    all_goals
      go_wp2_with fail
      go_meet
      exact ⟨⟨_, An, nn, cn, rfl, (by first | omega | (simp; omega)), (by ((repeat (first | (with_reducible assumption) | (with_reducible exact Box.newE _ _ _ (by first | rfl | (simp; (first | done | fail)))) | (with_reducible refine Box.drewS ?_) | (with_reducible refine Box.alloc ?_ _) | (with_reducible refine Box.put1z ?_) | (with_reducible refine Box.put3z ?_) | (with_reducible refine Box.far3 ?_ (by first | omega | (simp; omega)) _ _ _) | (with_reducible refine Box.far1 ?_ (by first | omega | (simp; omega)) _))); (first | done | fail))), (by ((repeat (first | (with_reducible assumption) | (with_reducible refine Cn.drewS ?_) | (with_reducible refine Cn.allocS ?_ _) | (with_reducible refine Cn.far3z ?_ (by ((repeat (first | (with_reducible assumption) | (with_reducible exact Box.newE _ _ _ (by first | rfl | (simp; (first | done | fail)))) | (with_reducible refine Box.drewS ?_) | (with_reducible refine Box.alloc ?_ _) | (with_reducible refine Box.put1z ?_) | (with_reducible refine Box.put3z ?_) | (with_reducible refine Box.far3 ?_ (by first | omega | (simp; omega)) _ _ _) | (with_reducible refine Box.far1 ?_ (by first | omega | (simp; omega)) _))); (first | done | fail))) _ _ _ _ _ _ _) | (with_reducible refine Cn.far1z ?_ (by ((repeat (first | (with_reducible assumption) | (with_reducible exact Box.newE _ _ _ (by first | rfl | (simp; (first | done | fail)))) | (with_reducible refine Box.drewS ?_) | (with_reducible refine Box.alloc ?_ _) | (with_reducible refine Box.put1z ?_) | (with_reducible refine Box.put3z ?_) | (with_reducible refine Box.far3 ?_ (by first | omega | (simp; omega)) _ _ _) | (with_reducible refine Box.far1 ?_ (by first | omega | (simp; omega)) _))); (first | done | fail))) _))); (first | done | fail)))⟩, (by ((repeat (first | (with_reducible assumption) | (with_reducible exact Below.refl _ _) | (with_reducible refine Below.drewS ?_) | (with_reducible refine Below.allocS ?_ _) | (with_reducible refine Below.setS ?_ (by first | omega | (simp; omega)) _))); (first | done | fail)))⟩
  case rest =>
  obtain ⟨⟨g6, An, nn, cn, rfl, hg6, b6, hn⟩, E6⟩ := hcut
  have B := B.trans (E6.mono B.size)
  have bR := bR.below' E6
  have bu := bu.below' E6
  have a5 := a5.below E6
  clear E6 KS hg6 bn bd a3 a4
  generalize wc = W6 at *
  have q0 := b6.cell
  have q1 := bu.cell
  go_wp2_with fail
  refine (fnorm_f (L := 446) (frMk' (hn.nt HY2.out) (a5.nt (upB (j := 446) HQ2.out (by decide))) HR.out) (by omega) (by omega)).mono ?_
  rintro e w7 ⟨p5, A7, n7, c7, B7, m7, d7, rfl, x5, hb⟩
  have bR := bR.below' hb
  have B := B.trans (hb.mono B.size)
  clear hb q0 q1 b6 bu a5 hn
  have g0 : w7.cell? ⟨w.heap.size, 0, none⟩ = some (.bool false) := bR.at_ 0
  have g1 : w7.cell? ⟨w.heap.size, 1, none⟩ = some (.slice none 0 0) := bR.at_ 1
  have g2 : w7.cell? ⟨w.heap.size, 2, none⟩ = some (.slice none 0 0) := bR.at_ 2
  have f0 := bR.frozen 0
  have f1 := bR.frozen 1
  have f2 := bR.frozen 2
  have gz := bR.lt
  go_wp2_with fail
  clear g0 g1 g2 f0 f1 f2
  generalize hW3 : ((w7.setCell _ _).setCell _ _).setCell _ _ = W3
  obtain ⟨b3, -, C3, B4, -⟩ := put3 bR hW3
  clear hW3
  have k0 : W3.cell? ⟨w.heap.size, 0, none⟩ = some (.bool p5) := b3.at_ 0
  have k1 : W3.cell? ⟨w.heap.size, 1, none⟩ = some (.slice A7 n7 c7) := b3.at_ 1
  have k2 : W3.cell? ⟨w.heap.size, 2, none⟩ = some (.slice B7 m7 d7) := b3.at_ 2
  refine bodyPost_ret (v := .tuple #[.agg #[.bool p5, .slice A7 n7 c7, .slice B7 m7 d7], .int .i64 0]) (by simp [results, Tryz.results17, go_sem, k0, k1, k2]) rfl ?_
  exact ⟨p5, A7, n7, c7, B7, m7, d7, rfl, ⟨x5.1, C3 _ _ _ _ x5.2.1, C3 _ _ _ _ x5.2.2⟩, B4 _ _ B (by omega)⟩
set_option maxHeartbeats 4000000 in
set_option maxRecDepth 100000 in
theorem pd_nE1 (s D SA : ByteArray) (g : Bool) (u v : Nat) (b : Bool) (w : World) (hT : Zw w) (hs : s.size ≤ 200)
    (c1 : ∀ W : World, Calls Tryz.prog 32 #[.string s, .string ⟨#[45]⟩] W fun e w' => e = .returned (.tuple #[.string D, .bool g]) ∧ W = w')
    (c2 : ∀ W : World, Zw W → Calls Tryz.prog 33 #[.string D, .string ⟨#[46]⟩] W fun e w' => e = .returned (.tuple #[.string SA, .string ⟨#[]⟩, .bool false]) ∧ Below W.heap.size W w')
    (p1 : ∀ W : World, Calls Tryz.prog 34 #[.string SA] W (GivesNE u 3 W)) (p2 : ∀ W : World, Calls Tryz.prog 49 #[.string ⟨#[]⟩] W (GivesNB v b W)) :
    Calls Tryz.prog 17 #[.string s] w (fun e w' => e = .returned (.tuple #[.agg #[.bool false, .slice none 0 0, .slice none 0 0], .int .i64 3]) ∧ Below w.heap.size w w') := by
  have HT := hide hT
  have C1 := hide c1
  have C2 := hide c2
  have P1 := hide p1
  have P2 := hide p2
  have d0 : decide (200 < (s.size : Int)) = false := by simp; omega
  clear hT c1 c2 p1 p2
  go_enter Tryz.func17, Tryz.ntmps17
  go_wp2_with fail
  generalize hW : w.alloc _ = W
  obtain ⟨B, bR, -⟩ := boxesA1 hW
  clear hW
  refine (C1.out _).mono ?_
  rintro e w1 ⟨rfl, rfl⟩
  go_wp2_with fail
  refine (C2.out _ (HT.out.below B)).mono ?_
  rintro e w2 ⟨rfl, hb⟩
  have bR := bR.below' hb
  have B := B.trans (hb.mono B.size)
  clear hb
  go_wp2_with fail
  refine (P1.out _).mono ?_
  rintro e w3 hg
  obtain ⟨A3, n3, c3, rfl, a3, hb⟩ := hg.cn
  have bR := bR.below' hb
  have B := B.trans (hb.mono B.size)
  clear hb hg
  go_wp2_with fail
  generalize hW : w3.alloc _ = W3
  obtain ⟨hb, bn, -⟩ := boxesA1 hW
  clear hW
  have bR := bR.below' hb
  have a3 := a3.below hb
  have B := B.trans (hb.mono B.size)
  clear hb
  generalize w3.heap.size = gn at *
  refine (P2.out _).mono ?_
  rintro e w4 ⟨A4, n4, c4, rfl, a4, hb⟩
  have bR := bR.below' hb
  have bn := bn.below' hb
  have a3 := a3.below hb
  have B := B.trans (hb.mono B.size)
  clear hb
  have g0 : w4.cell? ⟨w.heap.size, 0, none⟩ = some (.bool false) := bR.at_ 0
  have g1 : w4.cell? ⟨w.heap.size, 1, none⟩ = some (.slice none 0 0) := bR.at_ 1
  have g2 : w4.cell? ⟨w.heap.size, 2, none⟩ = some (.slice none 0 0) := bR.at_ 2
  have f0 := bR.frozen 0
  have f1 := bR.frozen 1
  have f2 := bR.frozen 2
  have gz := bR.lt
  go_wp2_with fail
  clear g0 g1 g2 f0 f1 f2
  generalize hW3 : ((World.setCell _ _ _).setCell _ _).setCell _ _ = W3
  obtain ⟨b3, -, C3, B4, -⟩ := put3 bR hW3
  clear hW3
  have B := B4 _ _ B (Nat.le_refl _)
  generalize hW : W3.alloc _ = W5
  obtain ⟨hb, -, -⟩ := boxesA1 hW
  clear hW
  have b3 := b3.below' hb
  have B := B.trans (hb.mono B.size)
  have k0 : W5.cell? ⟨w.heap.size, 0, none⟩ = some (.bool false) := b3.at_ 0
  have k1 : W5.cell? ⟨w.heap.size, 1, none⟩ = some (.slice none 0 0) := b3.at_ 1
  have k2 : W5.cell? ⟨w.heap.size, 2, none⟩ = some (.slice none 0 0) := b3.at_ 2
  refine bodyPost_ret (v := .tuple #[.agg #[.bool false, .slice none 0 0, .slice none 0 0], .int .i64 3]) (by simp [results, Tryz.results17, go_sem, k0, k1, k2]) rfl ?_
  exact ⟨rfl, B⟩
set_option maxHeartbeats 4000000 in
set_option maxRecDepth 100000 in
theorem pd_nT (s D SA : ByteArray) (g : Bool) (u v : Nat) (b : Bool) (w : World) (hT : Zw w) (hs : s.size ≤ 200)
    (c1 : ∀ W : World, Calls Tryz.prog 32 #[.string s, .string ⟨#[45]⟩] W fun e w' => e = .returned (.tuple #[.string D, .bool g]) ∧ W = w')
    (c2 : ∀ W : World, Zw W → Calls Tryz.prog 33 #[.string D, .string ⟨#[46]⟩] W fun e w' => e = .returned (.tuple #[.string SA, .string ⟨#[]⟩, .bool false]) ∧ Below W.heap.size W w')
    (p1 : ∀ W : World, Calls Tryz.prog 34 #[.string SA] W (GivesNE u 0 W)) (p2 : ∀ W : World, Calls Tryz.prog 49 #[.string ⟨#[]⟩] W (GivesNB v b W)) (hu : u < B9 ^ 30) (hv : v < B9 ^ 445) (k : Nat) (hk : 0 = k) (hk2 : k ≤ 200) (Q : Nat) (hQ : 10 ^ k = Q) (hQ2 : Q < B9 ^ 30) (X : Nat) (hX : u * Q = X) (hXL : X < B9 ^ 445) (Y : Nat) (hY : X + v = Y) (hY2 : Y < B9 ^ 446) (r : Rat) (hr : qv g Y Q = r) :
    Calls Tryz.prog 17 #[.string s] w (GivesFE r 0 w) := by
  have HT := hide hT
  have C1 := hide c1
  have C2 := hide c2
  have P1 := hide p1
  have P2 := hide p2
  have d0 : decide (200 < (s.size : Int)) = false := by simp; omega
  have HU := hide hu
  have HV := hide hv
  have HQ := hide hQ
  have HQ2 := hide hQ2
  have HX := hide hX
  have HXL := hide hXL
  have HY := hide hY
  have HY2 := hide hY2
  have HR := hide hr
  subst hk
  clear hT c1 c2 p1 p2 hu hv hQ hQ2 hX hXL hY hY2 hr
  go_enter Tryz.func17, Tryz.ntmps17
  go_wp2_with fail
  generalize hW : w.alloc _ = W
  obtain ⟨B, bR, -⟩ := boxesA1 hW
  clear hW
  refine (C1.out _).mono ?_
  rintro e w1 ⟨rfl, rfl⟩
  go_wp2_with fail
  refine (C2.out _ (HT.out.below B)).mono ?_
  rintro e w2 ⟨rfl, hb⟩
  have bR := bR.below' hb
  have B := B.trans (hb.mono B.size)
  clear hb
  go_wp2_with fail
  refine (P1.out _).mono ?_
  rintro e w3 hg
  obtain ⟨A3, n3, c3, rfl, a3, hb⟩ := hg.cn
  have bR := bR.below' hb
  have B := B.trans (hb.mono B.size)
  clear hb hg
  go_wp2_with fail
  generalize hW : w3.alloc _ = W3
  obtain ⟨hb, bn, -⟩ := boxesA1 hW
  clear hW
  have bR := bR.below' hb
  have a3 := a3.below hb
  have B := B.trans (hb.mono B.size)
  clear hb
  generalize w3.heap.size = gn at *
  refine (P2.out _).mono ?_
  rintro e w4 ⟨A4, n4, c4, rfl, a4, hb⟩
  have bR := bR.below' hb
  have bn := bn.below' hb
  have a3 := a3.below hb
  have B := B.trans (hb.mono B.size)
  clear hb
  go_wp2_with fail
  generalize hW : w4.alloc _ = W4
  obtain ⟨hb, bd, -⟩ := boxesA1 hW
  clear hW
  have bR := bR.below' hb
  have bn := bn.below' hb
  have a3 := a3.below hb
  have a4 := a4.below hb
  have B := B.trans (hb.mono B.size)
  clear hb
  generalize w4.heap.size = gd at *
  refine (units_any 0 (by omega) _ Q HQ.out).mono ?_
  rintro e w5 hg
  obtain ⟨A5, n5, c5, rfl, a5, hb⟩ := hg.cn
  have bR := bR.below' hb
  have bn := bn.below' hb
  have bd := bd.below' hb
  have a3 := a3.below hb
  have a4 := a4.below hb
  have B := B.trans (hb.mono B.size)
  clear hb hg
  go_wp2_with fail
  generalize hW : w5.alloc _ = W5
  obtain ⟨hb, bu, -⟩ := boxesA1 hW
  clear hW
  have bR := bR.below' hb
  have bn := bn.below' hb
  have bd := bd.below' hb
  have a3 := a3.below hb
  have a4 := a4.below hb
  have a5 := a5.below hb
  have B := B.trans (hb.mono B.size)
  clear hb
  generalize w5.heap.size = gu at *
  have KS : Hid (∀ w', Below W5.heap.size W5 w' → w'.cell? ⟨gn, 0, none⟩ = some (.slice A3 n3 c3) ∧ w'.cell? ⟨gd, 0, none⟩ = some (.slice A4 n4 c4) ∧ w'.cell? ⟨gu, 0, none⟩ = some (.slice A5 n5 c5)) := fun w' h =>
    ⟨(bn.below' h).at_ 0, (bd.below' h).at_ 0, (bu.below' h).at_ 0⟩
  go_cut [14] from 53 to 57 (fun s14 wx => MadeN W5 Y s14 wx ∧ Below W5.heap.size W5 wx)
  case first =>
    go_region_held3 (fun w' => w'.cell? ⟨gn, 0, none⟩ = some (.slice A3 n3 c3) ∧ w'.cell? ⟨gd, 0, none⟩ = some (.slice A4 n4 c4) ∧ w'.cell? ⟨gu, 0, none⟩ = some (.slice A5 n5 c5))
      (exact KS.out _ (by ((repeat (first | (with_reducible assumption) | (with_reducible exact Below.refl _ _) | (with_reducible refine Below.drewS ?_) | (with_reducible refine Below.allocS ?_ _) | (with_reducible refine Below.setS ?_ (by first | omega | (simp; omega)) _))); (first | done | fail))))
      (first
        | (go_at_call 52; (with_reducible refine (mul_n (L := 30) ((a3.below (by ((repeat (first | (with_reducible assumption) | (with_reducible exact Below.refl _ _) | (with_reducible refine Below.drewS ?_) | (with_reducible refine Below.allocS ?_ _) | (with_reducible refine Below.setS ?_ (by first | omega | (simp; omega)) _))); (first | done | fail)))).nt HU.out) ((a5.below (by ((repeat (first | (with_reducible assumption) | (with_reducible exact Below.refl _ _) | (with_reducible refine Below.drewS ?_) | (with_reducible refine Below.allocS ?_ _) | (with_reducible refine Below.setS ?_ (by first | omega | (simp; omega)) _))); (first | done | fail)))).nt HQ2.out) (by omega) X HX.out).mono ?_); rintro e wm ⟨Am, nm, cm, rfl, rm, lm, mm, hbm⟩; have Em : Below W5.heap.size W5 wm := Below.next (by ((repeat (first | (with_reducible assumption) | (with_reducible exact Below.refl _ _) | (with_reducible refine Below.drewS ?_) | (with_reducible refine Below.allocS ?_ _) | (with_reducible refine Below.setS ?_ (by first | omega | (simp; omega)) _))); (first | done | fail))) hbm; have zm := Em.size; have ym := hbm.size; (try simp at ym); have hm : Cn wm Am nm cm X := ⟨rm, lm, mm⟩; clear rm lm mm)
        | (go_at_call 51; (with_reducible refine (add_n (L := 445) ((hm.below (by ((repeat (first | (with_reducible assumption) | (with_reducible exact Below.refl _ _) | (with_reducible refine Below.drewS ?_) | (with_reducible refine Below.allocS ?_ _) | (with_reducible refine Below.setS ?_ (by first | omega | (simp; omega)) _))); (first | done | fail)))).nt HXL.out) ((a4.below (by ((repeat (first | (with_reducible assumption) | (with_reducible exact Below.refl _ _) | (with_reducible refine Below.drewS ?_) | (with_reducible refine Below.allocS ?_ _) | (with_reducible refine Below.setS ?_ (by first | omega | (simp; omega)) _))); (first | done | fail)))).nt HV.out) (by omega) Y HY.out).mono ?_); rintro e wn ⟨An, nn, cn, rfl, rn, ln, mn, hbn⟩; have En : Below W5.heap.size W5 wn := Below.next (by ((repeat (first | (with_reducible assumption) | (with_reducible exact Below.refl _ _) | (with_reducible refine Below.drewS ?_) | (with_reducible refine Below.allocS ?_ _) | (with_reducible refine Below.setS ?_ (by first | omega | (simp; omega)) _))); (first | done | fail))) hbn; have zn := En.size; have yn := hbn.size; (try simp at yn); (try (have q0_0 : W5.heap.size < wn.heap.size := by omega)); (try (have q1_0 : wm.heap.size < wn.heap.size := by omega)); (try (have e0_0 : Box wn (W5.heap.size) #[.slice none 0 0] 24 := (by ((repeat (first | (with_reducible exact Box.newE _ _ _ (by first | rfl | (simp; (first | done | fail)))) | (with_reducible refine Box.drewS ?_) | (with_reducible refine Box.alloc ?_ _) | (with_reducible refine Box.below' ?_ hbn) | (with_reducible refine Box.below' ?_ hbm))); (first | done | fail))); have le0_0 := Box.lt e0_0; have ke0_0 := Box.cell e0_0; have fe0_0 := Box.frozen e0_0 0)); (try (have e1_0 : Box wn (wm.heap.size) #[.slice none 0 0] 24 := (by ((repeat (first | (with_reducible exact Box.newE _ _ _ (by first | rfl | (simp; (first | done | fail)))) | (with_reducible refine Box.drewS ?_) | (with_reducible refine Box.alloc ?_ _) | (with_reducible refine Box.below' ?_ hbn) | (with_reducible refine Box.below' ?_ hbm))); (first | done | fail))); have le1_0 := Box.lt e1_0; have ke1_0 := Box.cell e1_0; have fe1_0 := Box.frozen e1_0 0)); have hn : Cn wn An nn cn Y := ⟨rn, ln, mn⟩; clear rn ln mn))
    all_goals
      go_wp2_with fail
      go_meet
      exact ⟨⟨_, An, nn, cn, rfl, (by first | omega | (simp; omega)), (by ((repeat (first | (with_reducible assumption) | (with_reducible exact Box.newE _ _ _ (by first | rfl | (simp; (first | done | fail)))) | (with_reducible refine Box.drewS ?_) | (with_reducible refine Box.alloc ?_ _) | (with_reducible refine Box.put1z ?_) | (with_reducible refine Box.put3z ?_) | (with_reducible refine Box.far3 ?_ (by first | omega | (simp; omega)) _ _ _) | (with_reducible refine Box.far1 ?_ (by first | omega | (simp; omega)) _))); (first | done | fail))), (by ((repeat (first | (with_reducible assumption) | (with_reducible refine Cn.drewS ?_) | (with_reducible refine Cn.allocS ?_ _) | (with_reducible refine Cn.far3z ?_ (by ((repeat (first | (with_reducible assumption) | (with_reducible exact Box.newE _ _ _ (by first | rfl | (simp; (first | done | fail)))) | (with_reducible refine Box.drewS ?_) | (with_reducible refine Box.alloc ?_ _) | (with_reducible refine Box.put1z ?_) | (with_reducible refine Box.put3z ?_) | (with_reducible refine Box.far3 ?_ (by first | omega | (simp; omega)) _ _ _) | (with_reducible refine Box.far1 ?_ (by first | omega | (simp; omega)) _))); (first | done | fail))) _ _ _ _ _ _ _) | (with_reducible refine Cn.far1z ?_ (by ((repeat (first | (with_reducible assumption) | (with_reducible exact Box.newE _ _ _ (by first | rfl | (simp; (first | done | fail)))) | (with_reducible refine Box.drewS ?_) | (with_reducible refine Box.alloc ?_ _) | (with_reducible refine Box.put1z ?_) | (with_reducible refine Box.put3z ?_) | (with_reducible refine Box.far3 ?_ (by first | omega | (simp; omega)) _ _ _) | (with_reducible refine Box.far1 ?_ (by first | omega | (simp; omega)) _))); (first | done | fail))) _))); (first | done | fail)))⟩, (by ((repeat (first | (with_reducible assumption) | (with_reducible exact Below.refl _ _) | (with_reducible refine Below.drewS ?_) | (with_reducible refine Below.allocS ?_ _) | (with_reducible refine Below.setS ?_ (by first | omega | (simp; omega)) _))); (first | done | fail)))⟩
  case rest =>
  obtain ⟨⟨g6, An, nn, cn, rfl, hg6, b6, hn⟩, E6⟩ := hcut
  have B := B.trans (E6.mono B.size)
  have bR := bR.below' E6
  have bu := bu.below' E6
  have a5 := a5.below E6
  clear E6 KS hg6 bn bd a3 a4
  generalize wc = W6 at *
  have q0 := b6.cell
  have q1 := bu.cell
  go_wp2_with fail
  refine (fnorm_f (L := 446) (frMk' (hn.nt HY2.out) (a5.nt (upB (j := 446) HQ2.out (by decide))) HR.out) (by omega) (by omega)).mono ?_
  rintro e w7 ⟨p5, A7, n7, c7, B7, m7, d7, rfl, x5, hb⟩
  have bR := bR.below' hb
  have B := B.trans (hb.mono B.size)
  clear hb q0 q1 b6 bu a5 hn
  have g0 : w7.cell? ⟨w.heap.size, 0, none⟩ = some (.bool false) := bR.at_ 0
  have g1 : w7.cell? ⟨w.heap.size, 1, none⟩ = some (.slice none 0 0) := bR.at_ 1
  have g2 : w7.cell? ⟨w.heap.size, 2, none⟩ = some (.slice none 0 0) := bR.at_ 2
  have f0 := bR.frozen 0
  have f1 := bR.frozen 1
  have f2 := bR.frozen 2
  have gz := bR.lt
  go_wp2_with fail
  clear g0 g1 g2 f0 f1 f2
  generalize hW3 : ((w7.setCell _ _).setCell _ _).setCell _ _ = W3
  obtain ⟨b3, -, C3, B4, -⟩ := put3 bR hW3
  clear hW3
  have k0 : W3.cell? ⟨w.heap.size, 0, none⟩ = some (.bool p5) := b3.at_ 0
  have k1 : W3.cell? ⟨w.heap.size, 1, none⟩ = some (.slice A7 n7 c7) := b3.at_ 1
  have k2 : W3.cell? ⟨w.heap.size, 2, none⟩ = some (.slice B7 m7 d7) := b3.at_ 2
  refine bodyPost_ret (v := .tuple #[.agg #[.bool p5, .slice A7 n7 c7, .slice B7 m7 d7], .int .i64 0]) (by simp [results, Tryz.results17, go_sem, k0, k1, k2]) rfl ?_
  exact ⟨p5, A7, n7, c7, B7, m7, d7, rfl, ⟨x5.1, C3 _ _ _ _ x5.2.1, C3 _ _ _ _ x5.2.2⟩, B4 _ _ B (by omega)⟩
end Go.Proofs.YtgfdeihfinlfoaaGreatDoor

/- The contract of fraction.ParseDecimal. -/
namespace Go.Proofs.YtgfdeihfinlfoaaGreatDoor
open Go Go.RowKit

/-- decimal notation, and the number that it is -/
def wholeL (l : List UInt8) : List UInt8 := abv 46 (bodL l)
def afterL (l : List UInt8) : List UInt8 := blw 46 [] (bodL l)
def okD (l : List UInt8) : Prop := IsT (NB (wholeL l)) ∧ ((46 : UInt8) ∈ bodL l → AllDig (NB (afterL l)) ∧ afterL l ≠ [])
def numD (l : List UInt8) : Nat := decV (NB (wholeL l)) * 10 ^ (afterL l).length + decV (NB (afterL l))
def ratD (l : List UInt8) : Rat := qv (sgnL l) (numD l) (10 ^ (afterL l).length)
/-- what both return -/
def PostD (s : ByteArray) (w : World) (e : Ending) (w' : World) : Prop :=
  (okD s.data.toList → GivesFE (ratD s.data.toList) 0 w e w') ∧ (¬ okD s.data.toList → e = .returned (.tuple #[.agg #[.bool false, .slice none 0 0, .slice none 0 0], .int .i64 3]) ∧ Below w.heap.size w w')
theorem postD_yes {s : ByteArray} {w w' : World} {e : Ending} (hk : okD s.data.toList) (h : GivesFE (ratD s.data.toList) 0 w e w') : PostD s w e w' := ⟨fun _ => h, fun hn => absurd hk hn⟩
theorem postD_no {s : ByteArray} {w w' : World} {e : Ending} (hk : ¬ okD s.data.toList) (h : e = .returned (.tuple #[.agg #[.bool false, .slice none 0 0, .slice none 0 0], .int .i64 3]) ∧ Below w.heap.size w w') : PostD s w e w' := ⟨fun hn => absurd hn hk, fun _ => h⟩
theorem digB {a : List UInt8} {L : Nat} (h : AllDig (NB a)) (hl : a.length ≤ 9 * L) : decV (NB a) < B9 ^ L := by
  have h1 := decV_lt (NB a) h
  have h2 : (NB a).length = a.length := by simp [NB]
  rw [h2] at h1
  rw [pow_B9]
  exact Nat.lt_of_lt_of_le h1 (Nat.pow_le_pow_right (by decide) hl)
theorem dig30 {a : List UInt8} (h : AllDig (NB a)) (hl : a.length ≤ 200) : decV (NB a) < B9 ^ 30 := digB (L := 30) h (Nat.le_trans hl (by decide))
theorem ten30 {k : Nat} (hk : k ≤ 200) : 10 ^ k < B9 ^ 30 := upB (j := 30) (tenC hk) (by decide)
theorem parts_have {l : List UInt8} (h : (46 : UInt8) ∈ bodL l) : ∃ a b, bodL l = a ++ 46 :: b ∧ (46 : UInt8) ∉ a ∧ wholeL l = a ∧ afterL l = b := by
  obtain ⟨a, b, e, hn⟩ := part_at 46 _ h
  have h2 := abv1 46 [] a b hn
  rw [← e] at h2
  exact ⟨a, b, e, hn, h2.1, h2.2⟩
theorem parts_not {l : List UInt8} (h : (46 : UInt8) ∉ bodL l) : wholeL l = bodL l ∧ afterL l = [] := abv0 46 [] _ h
theorem prod445 {u Q : Nat} (hu : u < B9 ^ 30) (hQ : Q < B9 ^ 30) : u * Q < B9 ^ 445 := upB (i := 60) (j := 445) (mulB (i := 30) (j := 30) hu hQ) (by decide)
theorem sumB {X v L M : Nat} (hM : M = L + 1) (hX : X < B9 ^ L) (hv : v < B9 ^ L) : X + v < B9 ^ M := by
  subst hM
  exact addB hX hv
theorem sum446 {X v : Nat} (hX : X < B9 ^ 445) (hv : v < B9 ^ 445) : X + v < B9 ^ 446 := sumB (M := 446) (L := 445) rfl hX hv
theorem fdec_any (s : ByteArray) (w : World) (hT : Zw w) (hs : s.size ≤ 200) : Calls Tryz.prog 17 #[.string s] w (PostD s w) := by
  have hbl : (bodL s.data.toList).length ≤ 200 := Nat.le_trans (bod_len _) (by rw [← size_list]; exact hs)
  have c1 := fun W => cutPre s W _ _ rfl rfl
  have DL := mkS_list (bodL s.data.toList)
  have DS := mkS_size (bodL s.data.toList)
  by_cases hp : (46 : UInt8) ∈ bodL s.data.toList
  · obtain ⟨a, b, hl, hn, e1, e2⟩ := parts_have hp
    have la : a.length ≤ 200 := by rw [hl] at hbl; simp only [List.length_append, List.length_cons] at hbl; omega
    have lb : b.length ≤ 200 := by rw [hl] at hbl; simp only [List.length_append, List.length_cons] at hbl; omega
    have SA := mkS_list a
    have SB := mkS_list b
    have ZA := mkS_size a
    have ZB := mkS_size b
    have c2 := fun W (hW : Zw W) => cutHas 46 (mkS (bodL s.data.toList)) W hW (by omega) (by rw [DL]; exact hp) (mkS a) (mkS b) [] (by rw [DL]; exact congrArg mkS e1) (by rw [DL]; exact congrArg mkS e2)
    obtain ⟨V, bo, hV, hbo, hVL, rd⟩ := rd_any (mkS b) (by omega)
    rw [SB] at hV hbo
    have pa : IsT (NB a) → ∀ W, Calls Tryz.prog 34 #[.string (mkS a)] W (GivesNE (decV (NB a)) 0 W) := fun h W => np_yes _ W (by omega) (by rw [SA]; exact h) _ (by rw [SA])
    have pan : ¬ IsT (NB a) → ∀ W, Calls Tryz.prog 34 #[.string (mkS a)] W (GivesNE 0 3 W) := fun h W => np_no _ W (by omega) (by rw [SA]; exact h)
    have hok : okD s.data.toList ↔ IsT (NB a) ∧ AllDig (NB b) ∧ b ≠ [] := by
      unfold okD
      rw [e1, e2]
      exact ⟨fun h => ⟨h.1, h.2 hp⟩, fun h => ⟨h.1, fun _ => h.2⟩⟩
    by_cases ha : IsT (NB a)
    · rcases bo with _ | _
      · exact (pd_yE2 s _ _ _ _ _ V w hT hs c1 c2 (pa ha) rd).mono fun _ _ h => postD_no (fun hk => by have := hbo.2 (hok.1 hk).2; cases this) h
      · have hb := hbo.1 rfl
        have hv := hV hb.1
        refine (pd_yT s _ _ _ _ _ V w hT hs c1 c2 (pa ha) rd (dig30 ha.1 la) hVL b.length (by rw [ZB]) lb _ rfl (ten30 lb) _ rfl (prod445 (dig30 ha.1 la) (ten30 lb)) _ rfl (sum446 (prod445 (dig30 ha.1 la) (ten30 lb)) hVL) (ratD s.data.toList) ?_).mono fun _ _ h => postD_yes (hok.2 ⟨ha, hb⟩) h
        unfold ratD numD
        rw [e1, e2, hv]
    · exact (pd_yE1 s _ _ _ _ _ V bo w hT hs c1 c2 (pan ha) rd).mono fun _ _ h => postD_no (fun hk => ha (hok.1 hk).1) h
  · obtain ⟨e1, e2⟩ := parts_not hp
    have c2 := fun W (hW : Zw W) => cutNot 46 (mkS (bodL s.data.toList)) W hW (by omega) (by rw [DL]; exact hp)
    obtain ⟨V, bo, hV, hbo, hVL, rd⟩ := rd_any ⟨#[]⟩ (by decide)
    have hV0 : V = 0 := hV (fun x hx => by simp [NB] at hx)
    have hok : okD s.data.toList ↔ IsT (NB (bodL s.data.toList)) := by
      unfold okD
      rw [e1]
      exact ⟨fun h => h.1, fun h => ⟨h, fun hq => absurd hq hp⟩⟩
    by_cases ha : IsT (NB (bodL s.data.toList))
    · have pa := fun W => np_yes (mkS (bodL s.data.toList)) W (by omega) (by rw [DL]; exact ha) _ rfl
      rw [DL] at pa
      have h30 := dig30 ha.1 hbl
      refine (pd_nT s _ _ _ _ V bo w hT hs c1 c2 pa rd h30 hVL 0 rfl (by omega) _ rfl (ten30 (by omega)) _ rfl (prod445 h30 (ten30 (by omega))) _ rfl (sum446 (prod445 h30 (ten30 (by omega))) hVL) (ratD s.data.toList) ?_).mono fun _ _ h => postD_yes (hok.2 ha) h
      unfold ratD numD
      rw [e1, e2, hV0]
      rfl
    · have pan := fun W => np_no (mkS (bodL s.data.toList)) W (by omega) (by rw [DL]; exact ha)
      exact (pd_nE1 s _ _ _ _ V bo w hT hs c1 c2 pan rd).mono fun _ _ h => postD_no (fun hk => ha (hok.1 hk)) h
end Go.Proofs.YtgfdeihfinlfoaaGreatDoor

/- The contract of the reference's ParseDecimal. -/
namespace Go.Proofs.YtgfdeihfinlfoaaGreatDoor
open Go Go.RowKit

theorem rd_yes {t : ByteArray} {l : List UInt8} (ht : t.data.toList = l) (hs : l.length ≤ 4000) (h : AllDig (NB l) ∧ l ≠ []) (W : World) : Calls Tryz.prog 53 #[.string t] W fun e w' => e = .returned (.bool true) ∧ W = w' := by
  subst ht
  exact gdigits_any t W (by rw [size_list]; omega) true ⟨fun _ => h, fun _ => rfl⟩
theorem rd_no {t : ByteArray} {l : List UInt8} (ht : t.data.toList = l) (hs : l.length ≤ 4000) (h : ¬ (AllDig (NB l) ∧ l ≠ [])) (W : World) : Calls Tryz.prog 53 #[.string t] W fun e w' => e = .returned (.bool false) ∧ W = w' := by
  subst ht
  exact gdigits_any t W (by rw [size_list]; omega) false ⟨fun e => (by cases e), fun e => absurd e h⟩
theorem eq46 {c : UInt8} : ((c.toNat : Int) == 46) = true ↔ c = 46 := by
  rw [beq_iff_eq]
  constructor
  · intro h
    exact UInt8.toNat_inj.1 (by show c.toNat = 46; omega)
  · rintro rfl
    rfl
theorem ne46 {c : UInt8} : ((c.toNat : Int) == 46) = false ↔ c ≠ 46 := by
  rw [← Bool.not_eq_true, eq46]
section
variable {D : ByteArray} {a b : List UInt8} (h : D.data.toList = a ++ 46 :: b) (hn : (46 : UInt8) ∉ a)
include h
theorem sp_lt : a.length < D.size := by rw [size_of h]; simp
theorem sp_at : (((D[a.length]'(sp_lt h)).toNat : Int) == 46) = true := by
  rw [eq46, get_of h (sp_lt h) (by simp)]
  simp
theorem sp_a : (D.extract 0 a.length).data.toList = a := by rw [ex_list, h]; simp
theorem sp_b : (D.extract (a.length + 1) D.size).data.toList = b := by
  rw [ex_list, size_of h, h, List.take_length]
  simp
include hn
theorem sp_no (k : Nat) (hk : k < a.length) : (((D[k]'(Nat.lt_trans hk (sp_lt h))).toNat : Int) == 46) = false := by
  rw [ne46, get_of h (Nat.lt_trans hk (sp_lt h)) (by simp; omega), List.getElem_append_left hk]
  exact fun e => hn (by rw [← e]; exact List.getElem_mem hk)
end
theorem wp_no {D : ByteArray} {a : List UInt8} (h : D.data.toList = a) (hn : (46 : UInt8) ∉ a) (k : Nat) (hk : k < D.size) : (((D[k]'hk).toNat : Int) == 46) = false := by
  have hl : k < a.length := by rw [← size_of h]; exact hk
  rw [ne46, get_of h hk hl]
  exact fun e => hn (by rw [← e]; exact List.getElem_mem hl)
/-- how a whole part that is digits can begin -/
theorem whole_cases {W : ByteArray} {a : List UInt8} (h : W.data.toList = a) (hd : AllDig (NB a) ∧ a ≠ []) :
    (IsT (NB a) ∧ (a.length ≤ 1 ∨ 1 < a.length ∧ ∃ z2 : 0 < W.size, (((W[0]'z2).toNat : Int) == 48) = false)) ∨
    (¬ IsT (NB a) ∧ 1 < a.length ∧ ∃ z2 : 0 < W.size, (((W[0]'z2).toNat : Int) == 48) = true) := by
  rcases ha : a with _ | ⟨c, r⟩
  · exact absurd ha hd.2
  · have hz : W.size = r.length + 1 := by rw [size_of h, ha]; rfl
    have z2 : 0 < W.size := by omega
    have hc : W[0] = c := get_of (h.trans ha) z2 (by simp)
    by_cases e : c.toNat = 48
    · by_cases h1 : r = []
      · subst h1
        exact .inl ⟨⟨by rw [← ha]; exact hd.1, .inl (by simp [NB, e])⟩, .inl (by simp)⟩
      · refine .inr ⟨fun ht => ?_, ?_, z2, by rw [hc, beq_iff_eq]; omega⟩
        · rcases ht.2 with h3 | ⟨y, m, h3, h4⟩
          · simp only [NB, List.map_cons, List.cons.injEq, List.map_eq_nil_iff] at h3
            exact h1 h3.2
          · simp only [NB, List.map_cons, List.cons.injEq] at h3
            exact h4 (h3.1 ▸ e)
        · rcases r with _ | ⟨x, r⟩
          · exact absurd rfl h1
          · simp
    · refine .inl ⟨⟨by rw [← ha]; exact hd.1, .inr ⟨c.toNat, NB r, rfl, e⟩⟩, ?_⟩
      by_cases h1 : r = []
      · subst h1
        exact .inl (by simp)
      · refine .inr ⟨?_, z2, by rw [hc, beq_eq_false_iff_ne]; omega⟩
        rcases r with _ | ⟨x, r⟩
        · exact absurd rfl h1
        · simp
theorem ten_ne (k : Nat) : ((10 ^ k : Nat) : Rat) ≠ 0 := by
  intro e
  have : (10 ^ k : Nat) = 0 := by exact_mod_cast e
  have h := Nat.pow_pos (n := k) (show 0 < 10 by decide)
  omega
theorem ten_ht {k : Nat} (hk : k ≤ 200) : Ht ((10 ^ k : Nat) : Rat) 24 := ht_nat (tenC hk) (by omega)
theorem rat_quo (g : Bool) (N k : Nat) : qv g N 1 / ((10 ^ k : Nat) : Rat) = qv g N (10 ^ k) := by
  have e : ((10 ^ k : Nat) : Rat) = qv false (10 ^ k) 1 := by rw [qv_one]; rfl
  rw [e, qv_div, Nat.mul_one, Nat.one_mul, Bool.bne_false]
theorem NB_app (a b : List UInt8) : NB (a ++ b) = NB a ++ NB b := by simp [NB]
theorem NB_len (a : List UInt8) : (NB a).length = a.length := by simp [NB]
theorem all_app {a b : List UInt8} (ha : AllDig (NB a)) (hb : AllDig (NB b)) : AllDig (NB (a ++ b)) := by
  rw [NB_app]
  intro x hx
  rcases List.mem_append.1 hx with h | h
  · exact ha x h
  · exact hb x h
theorem sizeB (D : ByteArray) (i j : Nat) (l : List UInt8) (h : (D.extract i j).data.toList = l) : (D.extract i j).size = l.length := size_of h
theorem isT_ne {a : List UInt8} (h : IsT (NB a)) : a ≠ [] := by
  rintro rfl
  rcases h.2 with h | ⟨y, m, h, -⟩
  · cases h
  · cases h
theorem gdec_m (s : ByteArray) (w : World) (hs : s.size ≤ 200) (q0 : 0 < s.size) (q1 : (((s[0]'q0).toNat : Int) == 45) = true) (hsg : sgnL s.data.toList = true) (hD : (s.extract 1 s.size).data.toList = bodL s.data.toList) (hz : (s.extract 1 s.size).size = s.size - 1) : Calls Tryz.prog 18 #[.string s] w (PostD s w) := by
  have hbl : (bodL s.data.toList).length ≤ 200 := Nat.le_trans (bod_len _) (by rw [← size_list]; exact hs)
  by_cases hp : (46 : UInt8) ∈ bodL s.data.toList
  · obtain ⟨a, b, hl, hn, e1, e2⟩ := parts_have hp
    have lab : a.length + (b.length + 1) ≤ 200 := by rw [hl] at hbl; simpa using hbl
    rw [hl] at hD
    have ta := sp_a hD
    have tb := sp_b hD
    rw [hz] at tb
    have hzD : (s.size - 1) = a.length + (b.length + 1) := by rw [← hz, size_of hD]; simp
    have hok : okD s.data.toList ↔ IsT (NB a) ∧ AllDig (NB b) ∧ b ≠ [] := by
      unfold okD
      rw [e1, e2]
      exact ⟨fun h => ⟨h.1, h.2 hp⟩, fun h => ⟨h.1, fun _ => h.2⟩⟩
    by_cases hd : AllDig (NB a) ∧ a ≠ []
    · rcases whole_cases ta hd with ⟨ht, z⟩ | ⟨ht, z1, z2, z3⟩
      · by_cases hb : AllDig (NB b) ∧ b ≠ []
        · have hk : (s.size - 1) - (a.length + 1) = b.length := by omega
          have hb0 : 0 < b.length := List.length_pos_iff.2 hb.2
          have hAL : (((s.extract 1 s.size).extract 0 a.length) ++ ((s.extract 1 s.size).extract (a.length + 1) (s.size - 1))).data.toList = a ++ b := by rw [ba_app, ta, tb]
          have hdA : AllDig (NB (((s.extract 1 s.size).extract 0 a.length) ++ ((s.extract 1 s.size).extract (a.length + 1) (s.size - 1))).data.toList) := by rw [hAL]; exact all_app hd.1 hb.1
          have hN : decV (NB (((s.extract 1 s.size).extract 0 a.length) ++ ((s.extract 1 s.size).extract (a.length + 1) (s.size - 1))).data.toList) = numD s.data.toList := by
            unfold numD
            rw [hAL, NB_app, decV_append, NB_len, e1, e2]
          have hNL : numD s.data.toList < B9 ^ 30 := by
            rw [← hN, hAL]
            exact dig30 (all_app hd.1 hb.1) (by simp; omega)
          have hAs : (((s.extract 1 s.size).extract 0 a.length) ++ ((s.extract 1 s.size).extract (a.length + 1) (s.size - 1))).size ≤ 201 := by rw [size_of hAL]; simp; omega
          have hA0 : 0 < (((s.extract 1 s.size).extract 0 a.length) ++ ((s.extract 1 s.size).extract (a.length + 1) (s.size - 1))).size := by rw [size_of hAL]; simp; omega
          have hr : qv true (numD s.data.toList) 1 / ((10 ^ ((s.size - 1) - (a.length + 1)) : Nat) : Rat) = ratD s.data.toList := by
            unfold ratD
            rw [rat_quo, hk, hsg, e2]
          have hkl : a.length + 1 < (s.size - 1) := by omega
          rcases z with z1 | ⟨z1, z2, z3⟩
          · exact (gd_myT10 s a.length w hs (rd_yes ta (by omega) hd) (rd_yes tb (by omega) hb) q0 q1 (sp_lt hD) (sp_at hD) (sp_no hD hn) hkl z1 _ rfl hdA _ hN hNL hAs hA0 _ rfl (ten_ne _) (ten_ht (by omega)) _ hr).mono fun _ _ h => postD_yes (hok.2 ⟨ht, hb⟩) h
          · exact (gd_myT11 s a.length w hs (rd_yes ta (by omega) hd) (rd_yes tb (by omega) hb) q0 q1 (sp_lt hD) (sp_at hD) (sp_no hD hn) hkl z1 z2 z3 _ rfl hdA _ hN hNL hAs hA0 _ rfl (ten_ne _) (ten_ht (by omega)) _ hr).mono fun _ _ h => postD_yes (hok.2 ⟨ht, hb⟩) h
        · exact (gd_myE3 s a.length w hs (rd_yes ta (by omega) hd) (rd_no tb (by omega) hb) q0 q1 (sp_lt hD) (sp_at hD) (sp_no hD hn) z).mono fun _ _ h => postD_no (fun hk => hb (hok.1 hk).2) h
      · exact (gd_myE2 s a.length w hs (rd_yes ta (by omega) hd) q0 q1 (sp_lt hD) (sp_at hD) (sp_no hD hn) z1 z2 z3).mono fun _ _ h => postD_no (fun hk => ht (hok.1 hk).1) h
    · exact (gd_myE1 s a.length w hs (rd_no ta (by omega) hd) q0 q1 (sp_lt hD) (sp_at hD) (sp_no hD hn)).mono fun _ _ h => postD_no (fun hk => hd ⟨(hok.1 hk).1.1, isT_ne (hok.1 hk).1⟩) h
  · obtain ⟨e1, e2⟩ := parts_not hp
    have hzD : (s.size - 1) = (bodL s.data.toList).length := by rw [← hz, size_of hD]
    have hok : okD s.data.toList ↔ IsT (NB (bodL s.data.toList)) := by
      unfold okD
      rw [e1]
      exact ⟨fun h => h.1, fun h => ⟨h, fun hq => absurd hq hp⟩⟩
    by_cases hd : AllDig (NB (bodL s.data.toList)) ∧ bodL s.data.toList ≠ []
    · have hb0 : 0 < (bodL s.data.toList).length := List.length_pos_iff.2 hd.2
      rcases whole_cases hD hd with ⟨ht, z⟩ | ⟨ht, z1, z2, z3⟩
      · rw [← hzD] at z
        have hAL : ((s.extract 1 s.size) ++ ⟨#[]⟩).data.toList = bodL s.data.toList := (by rw [ba_app]; exact (List.append_nil _).trans hD)
        have hN : decV (NB ((s.extract 1 s.size) ++ ⟨#[]⟩).data.toList) = numD s.data.toList := by
          unfold numD
          rw [hAL, e1, e2]
          simp [NB, decV]
        have hNL : numD s.data.toList < B9 ^ 30 := by
          rw [← hN, hAL]
          exact dig30 hd.1 hbl
        have hr : qv true (numD s.data.toList) 1 / ((10 ^ 0 : Nat) : Rat) = ratD s.data.toList := by
          unfold ratD
          rw [rat_quo, hsg, e2]
          rfl
        exact (gd_mnT s w hs (rd_yes hD (by omega) hd) q0 q1 (wp_no hD hp) z _ rfl (by rw [hAL]; exact hd.1) _ hN hNL (by rw [size_of hAL]; omega) (by rw [size_of hAL]; exact hb0) _ rfl (ten_ne _) (ten_ht (by omega)) _ hr).mono fun _ _ h => postD_yes (hok.2 ht) h
      · exact (gd_mnE2 s w hs (rd_yes hD (by omega) hd) q0 q1 (wp_no hD hp) (by rw [hzD]; exact z1) z2 z3).mono fun _ _ h => postD_no (fun hk => ht (hok.1 hk)) h
    · exact (gd_mnE1 s w hs (rd_no hD (by omega) hd) q0 q1 (wp_no hD hp)).mono fun _ _ h => postD_no (fun hk => hd ⟨(hok.1 hk).1, isT_ne (hok.1 hk)⟩) h
theorem gdec_p (s : ByteArray) (w : World) (hs : s.size ≤ 200) (q0 : 0 < s.size) (q1 : (((s[0]'q0).toNat : Int) == 45) = false) (hsg : sgnL s.data.toList = false) (hD : s.data.toList = bodL s.data.toList) : Calls Tryz.prog 18 #[.string s] w (PostD s w) := by
  have hbl : (bodL s.data.toList).length ≤ 200 := Nat.le_trans (bod_len _) (by rw [← size_list]; exact hs)
  by_cases hp : (46 : UInt8) ∈ bodL s.data.toList
  · obtain ⟨a, b, hl, hn, e1, e2⟩ := parts_have hp
    have lab : a.length + (b.length + 1) ≤ 200 := by rw [hl] at hbl; simpa using hbl
    rw [hl] at hD
    have ta := sp_a hD
    have tb := sp_b hD
    have hzD : s.size = a.length + (b.length + 1) := by rw [size_of hD]; simp
    have hok : okD s.data.toList ↔ IsT (NB a) ∧ AllDig (NB b) ∧ b ≠ [] := by
      unfold okD
      rw [e1, e2]
      exact ⟨fun h => ⟨h.1, h.2 hp⟩, fun h => ⟨h.1, fun _ => h.2⟩⟩
    by_cases hd : AllDig (NB a) ∧ a ≠ []
    · rcases whole_cases ta hd with ⟨ht, z⟩ | ⟨ht, z1, z2, z3⟩
      · by_cases hb : AllDig (NB b) ∧ b ≠ []
        · have hk : s.size - (a.length + 1) = b.length := by omega
          have hb0 : 0 < b.length := List.length_pos_iff.2 hb.2
          have hAL : ((s.extract 0 a.length) ++ (s.extract (a.length + 1) s.size)).data.toList = a ++ b := by rw [ba_app, ta, tb]
          have hdA : AllDig (NB ((s.extract 0 a.length) ++ (s.extract (a.length + 1) s.size)).data.toList) := by rw [hAL]; exact all_app hd.1 hb.1
          have hN : decV (NB ((s.extract 0 a.length) ++ (s.extract (a.length + 1) s.size)).data.toList) = numD s.data.toList := by
            unfold numD
            rw [hAL, NB_app, decV_append, NB_len, e1, e2]
          have hNL : numD s.data.toList < B9 ^ 30 := by
            rw [← hN, hAL]
            exact dig30 (all_app hd.1 hb.1) (by simp; omega)
          have hAs : ((s.extract 0 a.length) ++ (s.extract (a.length + 1) s.size)).size ≤ 201 := by rw [size_of hAL]; simp; omega
          have hA0 : 0 < ((s.extract 0 a.length) ++ (s.extract (a.length + 1) s.size)).size := by rw [size_of hAL]; simp; omega
          have hr : qv false (numD s.data.toList) 1 / ((10 ^ (s.size - (a.length + 1)) : Nat) : Rat) = ratD s.data.toList := by
            unfold ratD
            rw [rat_quo, hk, hsg, e2]
          have hkl : a.length + 1 < s.size := by omega
          rcases z with z1 | ⟨z1, z2, z3⟩
          · exact (gd_pyT10 s a.length w hs (rd_yes ta (by omega) hd) (rd_yes tb (by omega) hb) q0 q1 (sp_lt hD) (sp_at hD) (sp_no hD hn) hkl z1 _ rfl hdA _ hN hNL hAs hA0 _ rfl (ten_ne _) (ten_ht (by omega)) _ hr).mono fun _ _ h => postD_yes (hok.2 ⟨ht, hb⟩) h
          · exact (gd_pyT11 s a.length w hs (rd_yes ta (by omega) hd) (rd_yes tb (by omega) hb) q0 q1 (sp_lt hD) (sp_at hD) (sp_no hD hn) hkl z1 z2 z3 _ rfl hdA _ hN hNL hAs hA0 _ rfl (ten_ne _) (ten_ht (by omega)) _ hr).mono fun _ _ h => postD_yes (hok.2 ⟨ht, hb⟩) h
        · exact (gd_pyE3 s a.length w hs (rd_yes ta (by omega) hd) (rd_no tb (by omega) hb) q0 q1 (sp_lt hD) (sp_at hD) (sp_no hD hn) z).mono fun _ _ h => postD_no (fun hk => hb (hok.1 hk).2) h
      · exact (gd_pyE2 s a.length w hs (rd_yes ta (by omega) hd) q0 q1 (sp_lt hD) (sp_at hD) (sp_no hD hn) z1 z2 z3).mono fun _ _ h => postD_no (fun hk => ht (hok.1 hk).1) h
    · exact (gd_pyE1 s a.length w hs (rd_no ta (by omega) hd) q0 q1 (sp_lt hD) (sp_at hD) (sp_no hD hn)).mono fun _ _ h => postD_no (fun hk => hd ⟨(hok.1 hk).1.1, isT_ne (hok.1 hk).1⟩) h
  · obtain ⟨e1, e2⟩ := parts_not hp
    have hzD : s.size = (bodL s.data.toList).length := by rw [size_of hD]
    have hok : okD s.data.toList ↔ IsT (NB (bodL s.data.toList)) := by
      unfold okD
      rw [e1]
      exact ⟨fun h => h.1, fun h => ⟨h, fun hq => absurd hq hp⟩⟩
    by_cases hd : AllDig (NB (bodL s.data.toList)) ∧ bodL s.data.toList ≠ []
    · have hb0 : 0 < (bodL s.data.toList).length := List.length_pos_iff.2 hd.2
      rcases whole_cases hD hd with ⟨ht, z⟩ | ⟨ht, z1, z2, z3⟩
      · rw [← hzD] at z
        have hAL : (s ++ ⟨#[]⟩).data.toList = bodL s.data.toList := (by rw [ba_app]; exact (List.append_nil _).trans hD)
        have hN : decV (NB (s ++ ⟨#[]⟩).data.toList) = numD s.data.toList := by
          unfold numD
          rw [hAL, e1, e2]
          simp [NB, decV]
        have hNL : numD s.data.toList < B9 ^ 30 := by
          rw [← hN, hAL]
          exact dig30 hd.1 hbl
        have hr : qv false (numD s.data.toList) 1 / ((10 ^ 0 : Nat) : Rat) = ratD s.data.toList := by
          unfold ratD
          rw [rat_quo, hsg, e2]
          rfl
        exact (gd_pnT s w hs (rd_yes hD (by omega) hd) q0 q1 (wp_no hD hp) z _ rfl (by rw [hAL]; exact hd.1) _ hN hNL (by rw [size_of hAL]; omega) (by rw [size_of hAL]; exact hb0) _ rfl (ten_ne _) (ten_ht (by omega)) _ hr).mono fun _ _ h => postD_yes (hok.2 ht) h
      · exact (gd_pnE2 s w hs (rd_yes hD (by omega) hd) q0 q1 (wp_no hD hp) (by rw [hzD]; exact z1) z2 z3).mono fun _ _ h => postD_no (fun hk => ht (hok.1 hk)) h
    · exact (gd_pnE1 s w hs (rd_no hD (by omega) hd) q0 q1 (wp_no hD hp)).mono fun _ _ h => postD_no (fun hk => hd ⟨(hok.1 hk).1, isT_ne (hok.1 hk)⟩) h
theorem gdec_any (s : ByteArray) (w : World) (hs : s.size ≤ 200) : Calls Tryz.prog 18 #[.string s] w (PostD s w) := by
  rcases hl : s.data.toList with _ | ⟨c, r⟩
  · have hz : s.size = 0 := by rw [size_list, hl]; rfl
    have hb : bodL s.data.toList = [] := by rw [hl]; rfl
    refine (gd_enE1 s w hs (rd_no hl (by simp) (fun h => h.2 rfl)) hz (fun k h => by omega)).mono fun _ _ h => postD_no (fun hk => ?_) h
    have h1 := hk.1
    unfold wholeL at h1
    rw [hb] at h1
    exact isT_ne h1 rfl
  · have q0 : 0 < s.size := by rw [size_list, hl]; simp
    have h0 : s[0] = c := get_of hl q0 (by simp)
    have zl : s.size = r.length + 1 := by rw [size_list, hl]; rfl
    by_cases hc : c = 45
    · subst hc
      have hg := sgn_cons r
      rw [← hl] at hg
      refine gdec_m s w hs q0 (by rw [h0]; rfl) hg.1 (by rw [ex_list, size_list, List.take_length, hg.2, hl]; rfl) (by rw [ByteArray.size_extract]; omega)
    · have hg := sgn_not (l := s.data.toList) (by rw [hl]; simp only [List.head?_cons, ne_eq, Option.some.injEq]; exact hc)
      refine gdec_p s w hs q0 ?_ hg.1 hg.2.symm
      rw [h0, ← Bool.not_eq_true, beq_iff_eq]
      exact fun e => hc (UInt8.toNat_inj.1 (by show c.toNat = 45; omega))
end Go.Proofs.YtgfdeihfinlfoaaGreatDoor

/- FractionPoints: the walks. -/
namespace Go.Proofs.YtgfdeihfinlfoaaGreatDoor
open Go Go.RowKit

theorem ht_ratD {l : List UInt8} (hk : okD l) (hl : l.length ≤ 200) : Ht (ratD l) 31 := by
  have hbl : (bodL l).length ≤ 200 := Nat.le_trans (bod_len l) hl
  by_cases hp : (46 : UInt8) ∈ bodL l
  · obtain ⟨a, b, he, hn, e1, e2⟩ := parts_have hp
    have lab : a.length + (b.length + 1) ≤ 200 := by rw [he] at hbl; simpa using hbl
    have h1 := hk.1
    have h2 := hk.2 hp
    rw [e1] at h1
    rw [e2] at h2
    have hN : numD l = decV (NB (a ++ b)) := by
      unfold numD
      rw [NB_app, decV_append, NB_len, e1, e2]
    refine qv_ht (L := 30) ?_ ?_ rfl
    · rw [hN]
      exact dig30 (all_app h1.1 h2.1) (by simp; omega)
    · rw [e2]
      exact ten30 (by omega)
  · obtain ⟨e1, e2⟩ := parts_not hp
    have h1 := hk.1
    rw [e1] at h1
    refine qv_ht (L := 30) ?_ ?_ rfl
    · unfold numD
      rw [e1, e2]
      have := dig30 h1.1 hbl
      simpa [NB, decV] using this
    · rw [e2]
      exact ten30 (by simp)
set_option maxHeartbeats 1000000 in
theorem fdec_full (s : ByteArray) (w : World) (hs : 200 < s.size) : Calls Tryz.prog 17 #[.string s] w fun e w' => e = .returned (.tuple #[.agg #[.bool false, .slice none 0 0, .slice none 0 0], .int .i64 6]) ∧ Below w.heap.size w w' := by
  have hd : decide (200 < (s.size : Int)) = true := by simp; omega
  go_enter Tryz.func17, Tryz.ntmps17
  go_wp2
  refine bodyPost_ret (v := .tuple #[.agg #[.bool false, .slice none 0 0, .slice none 0 0], .int .i64 6]) (by simp [results, Tryz.results17, go_sem]) rfl ?_
  exact ⟨rfl, (Below.refl _ _).alloc (Nat.le_refl _) _⟩
set_option maxHeartbeats 1000000 in
theorem gdec_full (s : ByteArray) (w : World) (hs : 200 < s.size) : Calls Tryz.prog 18 #[.string s] w fun e w' => e = .returned (.tuple #[.agg #[.bool false, .slice none 0 0, .slice none 0 0], .int .i64 6]) ∧ Below w.heap.size w w' := by
  have hd : decide (200 < (s.size : Int)) = true := by simp; omega
  go_enter Tryz.func18, Tryz.ntmps18
  go_wp2
  refine bodyPost_ret (v := .tuple #[.agg #[.bool false, .slice none 0 0, .slice none 0 0], .int .i64 6]) (by simp [results, Tryz.results18, go_sem]) rfl ?_
  exact ⟨rfl, (Below.refl _ _).alloc (Nat.le_refl _) _⟩
set_option maxHeartbeats 16000000 in
set_option maxRecDepth 100000 in
theorem zpoints_big (HA : Hid Awake) (s : ByteArray) (w : World) (hT : Zw w) (h1 : 300 < s.size) :
    Calls Tryz.prog 5 #[.string s] w fun e w' => e = .returned (.bool true) ∧ Below w.heap.size w w' := by
  have HT0 := hide hT
  have e1 : decide (300 < (s.size : Int)) = true := by simp; omega
  clear hT
  go_enter Tryz.func5, Tryz.ntmps5
  go_wp2_with fail
  refine (HA.out _ HT0.out.tab).mono ?_
  rintro e w1 ⟨rfl, B⟩
  go_wp2_with fail
  refine (HA.out _ (HT0.out.below B).tab).mono ?_
  rintro e w2 ⟨rfl, hb⟩
  have B := B.trans (hb.mono B.size)
  clear hb
  go_wp2_with fail
  go_ret
  exact ⟨rfl, B⟩
set_option maxHeartbeats 16000000 in
set_option maxRecDepth 100000 in
theorem zpoints_full (HA : Hid Awake) (s : ByteArray) (w : World) (hT : Zw w) (h1 : 200 < s.size) (h2 : s.size ≤ 300) :
    Calls Tryz.prog 5 #[.string s] w fun e w' => e = .returned (.bool true) ∧ Below w.heap.size w w' := by
  have HT0 := hide hT
  have e1 : decide (300 < (s.size : Int)) = false := by simp; omega
  have C1 : Hid (∀ W : World, Calls Tryz.prog 17 #[.string s] W fun e w' => e = .returned (.tuple #[.agg #[.bool false, .slice none 0 0, .slice none 0 0], .int .i64 6]) ∧ Below W.heap.size W w') := fun W => fdec_full s W h1
  have C2 : Hid (∀ W : World, Calls Tryz.prog 18 #[.string s] W fun e w' => e = .returned (.tuple #[.agg #[.bool false, .slice none 0 0, .slice none 0 0], .int .i64 6]) ∧ Below W.heap.size W w') := fun W => gdec_full s W h1
  clear hT
  go_enter Tryz.func5, Tryz.ntmps5
  go_wp2_with fail
  refine (HA.out _ HT0.out.tab).mono ?_
  rintro e w1 ⟨rfl, B⟩
  go_wp2_with fail
  refine (C1.out _).mono ?_
  rintro e w2 ⟨rfl, hb⟩
  have B := B.trans (hb.mono B.size)
  clear hb
  go_wp2_with fail
  generalize hW : w2.alloc _ = W2
  obtain ⟨hb, bx, -⟩ := boxesA1 hW
  clear hW
  have B := B.trans (hb.mono B.size)
  clear hb
  generalize w2.heap.size = gx at *
  refine (C2.out _).mono ?_
  rintro e w3 ⟨rfl, hb⟩
  have B := B.trans (hb.mono B.size)
  have bx := bx.below' hb
  clear hb
  have k0 : w3.cell? ⟨gx, 0, none⟩ = some (.bool false) := bx.at_ 0
  have k1 : w3.cell? ⟨gx, 1, none⟩ = some (.slice none 0 0) := bx.at_ 1
  have k2 : w3.cell? ⟨gx, 2, none⟩ = some (.slice none 0 0) := bx.at_ 2
  have k3 := bx.lt
  go_wp2_with fail
  generalize hW : w3.alloc _ = W3
  obtain ⟨hb, -, -⟩ := boxesA1 hW
  clear hW
  have B := B.trans (hb.mono B.size)
  clear hb k0 k1 k2 k3 bx
  refine (base_zero _).mono ?_
  rintro e w4 ⟨rfl, hb⟩
  have B := B.trans (hb.mono B.size)
  clear hb
  go_wp2_with fail
  go_ret
  exact ⟨rfl, B⟩
set_option maxHeartbeats 16000000 in
set_option maxRecDepth 100000 in
theorem zpoints_form (HA : Hid Awake) (s : ByteArray) (w : World) (hT : Zw w) (h1 : s.size ≤ 200) (hn : ¬ okD s.data.toList) :
    Calls Tryz.prog 5 #[.string s] w fun e w' => e = .returned (.bool true) ∧ Below w.heap.size w w' := by
  have HT0 := hide hT
  have e1 : decide (300 < (s.size : Int)) = false := by simp; omega
  have C1 : Hid (∀ W : World, Zw W → Calls Tryz.prog 17 #[.string s] W fun e w' => e = .returned (.tuple #[.agg #[.bool false, .slice none 0 0, .slice none 0 0], .int .i64 3]) ∧ Below W.heap.size W w') := fun W hW => (fdec_any s W hW h1).mono fun _ _ h => h.2 hn
  have C2 : Hid (∀ W : World, Calls Tryz.prog 18 #[.string s] W fun e w' => e = .returned (.tuple #[.agg #[.bool false, .slice none 0 0, .slice none 0 0], .int .i64 3]) ∧ Below W.heap.size W w') := fun W => (gdec_any s W h1).mono fun _ _ h => h.2 hn
  clear hn
  clear hT
  go_enter Tryz.func5, Tryz.ntmps5
  go_wp2_with fail
  refine (HA.out _ HT0.out.tab).mono ?_
  rintro e w1 ⟨rfl, B⟩
  go_wp2_with fail
  refine (C1.out _ (HT0.out.below B)).mono ?_
  rintro e w2 ⟨rfl, hb⟩
  have B := B.trans (hb.mono B.size)
  clear hb
  go_wp2_with fail
  generalize hW : w2.alloc _ = W2
  obtain ⟨hb, bx, -⟩ := boxesA1 hW
  clear hW
  have B := B.trans (hb.mono B.size)
  clear hb
  generalize w2.heap.size = gx at *
  refine (C2.out _).mono ?_
  rintro e w3 ⟨rfl, hb⟩
  have B := B.trans (hb.mono B.size)
  have bx := bx.below' hb
  clear hb
  have k0 : w3.cell? ⟨gx, 0, none⟩ = some (.bool false) := bx.at_ 0
  have k1 : w3.cell? ⟨gx, 1, none⟩ = some (.slice none 0 0) := bx.at_ 1
  have k2 : w3.cell? ⟨gx, 2, none⟩ = some (.slice none 0 0) := bx.at_ 2
  have k3 := bx.lt
  go_wp2_with fail
  generalize hW : w3.alloc _ = W3
  obtain ⟨hb, -, -⟩ := boxesA1 hW
  clear hW
  have B := B.trans (hb.mono B.size)
  clear hb k0 k1 k2 k3 bx
  refine (base_zero _).mono ?_
  rintro e w4 ⟨rfl, hb⟩
  have B := B.trans (hb.mono B.size)
  clear hb
  go_wp2_with fail
  go_ret
  exact ⟨rfl, B⟩
set_option maxHeartbeats 16000000 in
set_option maxRecDepth 100000 in
theorem zpoints_ok (HA : Hid Awake) (s : ByteArray) (w : World) (hT : Zw w) (h1 : s.size ≤ 200) (hn : okD s.data.toList) :
    Calls Tryz.prog 5 #[.string s] w fun e w' => e = .returned (.bool true) ∧ Below w.heap.size w w' := by
  have HT0 := hide hT
  have e1 : decide (300 < (s.size : Int)) = false := by simp; omega
  have C1 : Hid (∀ W : World, Zw W → Calls Tryz.prog 17 #[.string s] W (GivesFE (ratD s.data.toList) 0 W)) := fun W hW => (fdec_any s W hW h1).mono fun _ _ h => h.1 hn
  have C2 : Hid (∀ W : World, Calls Tryz.prog 18 #[.string s] W (GivesFE (ratD s.data.toList) 0 W)) := fun W => (gdec_any s W h1).mono fun _ _ h => h.1 hn
  have TX := hide (ht_ratD hn (by rw [← size_list]; exact h1))
  clear hn
  clear hT
  go_enter Tryz.func5, Tryz.ntmps5
  go_wp2_with fail
  refine (HA.out _ HT0.out.tab).mono ?_
  rintro e w1 ⟨rfl, B⟩
  go_wp2_with fail
  refine (C1.out _ (HT0.out.below B)).mono ?_
  rintro e w2 ⟨p5, A5, n5, c5, B5, m5, d5, rfl, x5, hb⟩
  have B := B.trans (hb.mono B.size)
  clear hb
  go_wp2_with fail
  generalize hW : w2.alloc _ = W2
  obtain ⟨hb, bx, -⟩ := boxesA1 hW
  clear hW
  have x5 := x5.below hb
  have B := B.trans (hb.mono B.size)
  clear hb
  generalize w2.heap.size = gx at *
  refine (C2.out _).mono ?_
  rintro e w3 ⟨p6, A6, n6, c6, B6, m6, d6, rfl, x6, hb⟩
  have B := B.trans (hb.mono B.size)
  have bx := bx.below' hb
  have x5 := x5.below hb
  clear hb
  have k0 : w3.cell? ⟨gx, 0, none⟩ = some (.bool p5) := bx.at_ 0
  have k1 : w3.cell? ⟨gx, 1, none⟩ = some (.slice A5 n5 c5) := bx.at_ 1
  have k2 : w3.cell? ⟨gx, 2, none⟩ = some (.slice B5 m5 d5) := bx.at_ 2
  have k3 := bx.lt
  go_wp2_with fail
  generalize hW : w3.alloc _ = W3
  obtain ⟨hb, -, -⟩ := boxesA1 hW
  clear hW
  have B := B.trans (hb.mono B.size)
  have x5 := x5.below hb
  have x6 := x6.below hb
  clear hb k0 k1 k2 k3 bx
  refine (fbase_f x5 x6 TX.out (by omega)).mono ?_
  rintro e w4 ⟨rfl, hb⟩
  have B := B.trans (hb.mono B.size)
  clear hb
  go_wp2_with fail
  go_ret
  exact ⟨rfl, B⟩
theorem zpoints_all (HA : Hid Awake) (s : ByteArray) (w : World) (hT : Zw w) :
    Calls Tryz.prog 5 #[.string s] w fun e w' => e = .returned (.bool true) ∧ Below w.heap.size w w' := by
  by_cases h1 : s.size ≤ 200
  · by_cases h : okD s.data.toList
    · exact zpoints_ok HA s w hT h1 h
    · exact zpoints_form HA s w hT h1 h
  · by_cases h2 : 300 < s.size
    · exact zpoints_big HA s w hT h2
    · exact zpoints_full HA s w hT (by omega) (by omega)
end Go.Proofs.YtgfdeihfinlfoaaGreatDoor

/- FractionPoints returns true for every string, whatever the world that holds the five laid tables; the arguments read as before. Conditions: the row's own list of laid variables, tied to the program's text. -/
namespace Go.Proofs.YtgfdeihfinlfoaaGreatDoor
open Go Go.ChangeShapes Go.WideShapes Go.ChangeAt Go.RowKit Go.ChangeMaps

/-- the row's list: the three tables and two more -/
def five : List (String × DataW Unit) := Rows.fractionPointsRow.laid
def isThree (x : String × DataW Unit) : Bool := x.1 == "math/bits.deBruijn32tab" || x.1 == "math/bits.deBruijn64tab" || x.1 == "internal/strconv.uint64pow10"
theorem five_three : five.filter isThree = three := by kernel_rfl
theorem three_of {W : World} (h : laidMetH Tryz.prog five W) : laidMetH Tryz.prog three W := by
  have h' := h.filter isThree
  rwa [five_three] at h'

theorem zpoints_call (s : ByteArray) (w : World) (hT : Zw w) (_h : s.size ≤ maxLen) :
    Calls Tryz.prog 5 #[.string s] w fun e w' => e = .returned (.bool true) ∧ Below w.heap.size w w' := zpoints_all (hide awake2) s w hT

def zpointsArgs : Array Value := #[.string ⟨#[]⟩]
set_option maxRecDepth 100000 in
theorem zpoints_met (os : Os) : laidMet Tryz.prog five ((World.laidAll Tryz.prog os five).forCall (fun _ _ => 0) ⟨#[], zpointsArgs, []⟩).memory :=
  laidMet_laidAll _ (by kernel_rfl) (by kernel_rfl)
theorem zpoints_reads (os : Os) {H : Type} (enc : TypeId × Value → H) : ∃ places, DataW.whole enc Tryz.prog ((World.laidAll Tryz.prog os five).forCall (fun _ _ => 0) ⟨#[], zpointsArgs, []⟩).memory Tryz.f5.params.toList Rows.fractionPointsSpec.vars false zpointsArgs.toList 8 = some ([.lit (.string [])], [], places) :=
  ⟨[], by kernel_rfl⟩

set_option maxRecDepth 100000 in
theorem zpoints_lifted (os : Os) (started : os.Started) (H : Type) (enc : TypeId × Value → H) (F : Stop.Interp) :
    ReturnsInHanded {} Tryz.checked os 5 .any ((OpenSpec.ofChange Rows.fractionPointsSpec).preRow enc Tryz.prog Tryz.f5 Rows.fractionPointsRow.domain false Rows.fractionPointsRow.laid) (((OpenSpec.ofChange Rows.fractionPointsSpec).at F).post enc Tryz.prog Tryz.f5 false true false false) := by
  obtain ⟨places, hx⟩ := zpoints_reads os enc
  refine returnsInHanded_of_row (C := Tryz.checked) (s := OpenSpec.ofChange Rows.fractionPointsSpec) own started (by kernel_rfl) Tryz.func5
    (witness_row_at (enc := enc) (C := Tryz.checked) false (World.laidAll Tryz.prog os five) zpointsArgs (World.laidAll_os _ _ _) (by kernel_rfl) (by kernel_rfl) (by kernel_rfl)
      (OpenSpec.preRow_of_cond 8 hx (by kernel_rfl) (fun k hk => by cases hk) (by kernel_rfl) (zpoints_met os))) ?_
  intro W base args ds gs before hval0 hW _ _ _ hL hS _
  have hval : ∀ (j : Nat) t v, Tryz.f5.params[j]? = some t → args[j]? = some v → Value.okWide Tryz.prog W .any base t v := hval0
  have hW' := hW
  obtain ⟨p, q, hA0, hV, rfl, hfz, hnd⟩ := hW
  have hA : DataW.TrodAll enc Tryz.prog W 0 (fun _ => true) true Tryz.f5.params.toList args.toList ds p := hA0
  rw [Tryz.params5] at hA hval
  obtain ⟨v0, vs0, d0, ds0, p0, q0, hargs, rfl, rfl, h0, r0⟩ := trodAll_cons hA
  obtain ⟨rfl, rfl, rfl⟩ := trodAll_nil r0
  obtain rfl : args = #[v0] := by cases args; simp_all
  obtain ⟨rfl, rfl⟩ := trodVars_none hV
  obtain ⟨s0, rfl, rfl, rfl, w0⟩ := open_string Tryz.underlying9 (hval 0 9 v0 rfl rfl) h0
  clear hA0 hval0
  simp only [List.append_nil] at hW'
  refine (zpoints_call s0 W (zw_of (three_of hL) hS) w0).mono fun e W' ⟨he, hb⟩ => ?_
  subst he
  exact ⟨_, rfl, _, _, _, [], [], [], hW', trodAll_cons_mk (shut_bool Tryz.underlying4 _) trodAll_mk0, (trodAll_cons_mk (shut_string Tryz.underlying9 w0) trodAll_mk0), rfl, hb.frame _, fun h => by cases h⟩

theorem zpoints_said : Rows.FractionPointsSaid :=
  OpenClaim.holds_of_cond 5 Tryz.f5 rfl rfl rfl rfl rfl rfl rfl ⟨rfl, rfl, rfl, rfl, rfl⟩ rfl rfl rfl rfl rfl (by kernel_rfl) Tryz.func5 (by kernel_rfl)
    (of_decide_eq_true (by kernel_rfl)) (by unfold Func.isWrapper; first | (rw [if_pos (by decide +kernel)]; kernel_rfl) | (rw [if_neg (by decide +kernel)]; exact ⟨rfl, rfl⟩))
    (fun os started H enc _ F => by rw [OpenClaim.pre_eq_preRow]; exact zpoints_lifted os started H enc F)

theorem zpoints_plain (f : FuncId) (fn : Func) (hf : Tryz.pinned.checked.prog.funcNamed "coinage/coinagelaw02.FractionPoints" = some f) (hfn : Tryz.pinned.checked.prog.funcs[f]? = some fn) :
    false = Tryz.pinned.checked.prog.looks [] ∧ ∀ (j : Nat) t, fn.params[j]? = some t → Tryz.pinned.checked.prog.wantsStandIn t = false := by
  obtain rfl : f = 5 := Option.some.inj ((show Tryz.prog.funcNamed "coinage/coinagelaw02.FractionPoints" = some 5 by kernel_rfl).symm.trans hf) |>.symm
  obtain rfl : fn = Tryz.f5 := (Option.some.inj (Tryz.func5.symm.trans hfn)).symm
  refine ⟨by kernel_rfl, fun j t ht => ?_⟩
  rw [Tryz.params5] at ht
  obtain rfl : t = 9 := by simpa using Array.mem_of_getElem? ht
  exact (show Tryz.prog.wantsStandIn 9 = false by kernel_rfl)

theorem zpoints_card : Rows.FractionPointsCardSaid :=
  Claim7.holds_tied_plain_at .later [] _ _ _ _ zpoints_said (fun _ h => by cases h) (by kernel_rfl) (fun _ h => by cases h) fractionPoints_row_tie rfl ⟨rfl, rfl⟩ (by kernel_rfl) rfl zpoints_plain (by kernel_rfl)
end Go.Proofs.YtgfdeihfinlfoaaGreatDoor
