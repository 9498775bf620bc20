/- The laws of sums, products and quotients of fractions: the walk. -/
import Derived.Test.YtanhofmgapbjfaaDoorFRat
import Derived.Test.YtanhofmgapbjfaaDoorFFew
import Derived.Test.YtanhofmgapbjfaaDoorBaseF
import Derived.Deep.CutRange
import Derived.Deep.RegionHeld3
namespace Go.Proofs.YtanhofmgapbjfaaDoor
open Go Go.RowKit

/-- a canonical fraction of the number r in a new box that a slot points to -/
def MadeF (W : World) (r : Rat) (s : Value) (wx : World) : Prop :=
  ∃ g p A n c B m d, s = .pointer (some ⟨g, 0, none⟩) ∧ W.heap.size ≤ g ∧ Box wx g #[.bool p, .slice A n c, .slice B m d] 26 ∧ Fc wx p A n c B m d r
theorem Fc.drewS {w : World} {p : Bool} {A : Option Addr} {n c : Nat} {B : Option Addr} {m d : Nat} {x : Rat} (h : Fc w p A n c B m d x) : Fc w.drew p A n c B m d x := h
theorem Fc.allocS {w : World} {p : Bool} {A : Option Addr} {n c : Nat} {B : Option Addr} {m d : Nat} {x : Rat} (h : Fc w p A n c B m d x) (o : Obj) : Fc (w.alloc o) p A n c B m d x := h.below ((Below.refl _ _).alloc (Nat.le_refl _) _)
theorem Fc.far3z {w : World} {p : Bool} {A : Option Addr} {n c : Nat} {B : Option Addr} {m d : Nat} {x : Rat} {g : Nat} (h : Fc w p A n c B m d x) (b : Box w g #[.bool false, .slice none 0 0, .slice none 0 0] 26) (q : Bool) (A' : Option Addr) (n' c' : Nat) (B' : Option Addr) (m' d' : Nat) :
    Fc (((w.setCell ⟨g, 0, none⟩ (.bool q)).setCell ⟨g, 1, none⟩ (.slice A' n' c')).setCell ⟨g, 2, none⟩ (.slice B' m' d')) p A n c B m d x :=
  ⟨h.1, h.2.1.far3z b _ _ _ _ _ _ _, h.2.2.far3z b _ _ _ _ _ _ _⟩
/-- the boxes of three fractions, with a slice of them -/
theorem few3 {w W : World} {t : TypeId} {p1 p2 p3 : Bool} {A1 B1 A2 B2 A3 B3 : Option Addr} {n1 c1 m1 d1 n2 c2 m2 d2 n3 c3 m3 d3 : Nat} (hW : w.alloc (.cells #[.bool p1, .slice A1 n1 c1, .slice B1 m1 d1, .bool p2, .slice A2 n2 c2, .slice B2 m2 d2, .bool p3, .slice A3 n3 c3, .slice B3 m3 d3] t) = W) :
    Below w.heap.size w W ∧ FewL W (some ⟨w.heap.size, 0, none⟩) 3 (fun i => if i = 0 then n1 else if i = 1 then n2 else n3) (fun i => if i = 0 then m1 else if i = 1 then m2 else m3) := by
  obtain ⟨h1, h2, -⟩ := boxesA1 hW
  refine ⟨h1, fun _ => ⟨_, _, rfl, fun i hi => ?_⟩⟩
  have h0 : i = 0 ∨ i = 1 ∨ i = 2 := by omega
  rcases h0 with rfl | rfl | rfl
  · exact ⟨A1, c1, B1, d1, h2.at_ 1, h2.at_ 2⟩
  · exact ⟨A2, c2, B2, d2, h2.at_ 4, h2.at_ 5⟩
  · exact ⟨A3, c3, B3, d3, h2.at_ 7, h2.at_ 8⟩
theorem isFew3 {n1 m1 n2 m2 n3 m3 : Nat} : isFew 3 (fun i => if i = 0 then n1 else if i = 1 then n2 else n3) (fun i => if i = 0 then m1 else if i = 1 then m2 else m3) ↔ (n1 ≤ 6 ∧ m1 ≤ 6) ∧ (n2 ≤ 6 ∧ m2 ≤ 6) ∧ n3 ≤ 6 ∧ m3 ≤ 6 := by
  constructor
  · intro h
    exact ⟨h.1 0 (by omega), h.1 1 (by omega), h.1 2 (by omega)⟩
  · intro h
    refine ⟨fun i hi => ?_, by omega⟩
    have h0 : i = 0 ∨ i = 1 ∨ i = 2 := by omega
    rcases h0 with rfl | rfl | rfl
    · exact h.1
    · exact h.2.1
    · exact h.2.2
/-- what awake gives -/
def Awake : Prop := ∀ w : World, Tab w → Calls Tryd.prog 9 #[] w fun e w' => e = .returned (.bool true) ∧ Below w.heap.size w w'
set_option maxHeartbeats 16000000 in
set_option maxRecDepth 100000 in
theorem field_yes (HA : Hid Awake) (pa : Bool) (Aa : Option Addr) (na ca : Nat) (Ba : Option Addr) (ma da : Nat) (pb : Bool) (Ab : Option Addr) (nb cb : Nat) (Bb : Option Addr) (mb db : Nat) (pc : Bool) (Ac : Option Addr) (nc cc : Nat) (Bc : Option Addr) (mc dc : Nat) (x y z : Rat) (w : World) (hx : Fr w 6 pa Aa na ca Ba ma da x) (hy : Fr w 6 pb Ab nb cb Bb mb db y) (hz : Fr w 6 pc Ac nc cc Bc mc dc z) (hT : Tab w) (hf : (na ≤ 6 ∧ ma ≤ 6) ∧ (nb ≤ 6 ∧ mb ≤ 6) ∧ nc ≤ 6 ∧ mc ≤ 6) :
    Calls Tryd.prog 7 #[.agg #[.bool pa, .slice Aa na ca, .slice Ba ma da], .agg #[.bool pb, .slice Ab nb cb, .slice Bb mb db], .agg #[.bool pc, .slice Ac nc cc, .slice Bc mc dc]] w fun e w' => e = .returned (.bool true) ∧ Below w.heap.size w w' := by
  have HFW := hide hf
  clear hf
  have TX := hx.ht
  have TY := hy.ht
  have TZ := hz.ht
  have T2 := hide (show Ht (x + y) 40 from Ht.up (TX.add TY) (by omega))
  have T3 := hide (show Ht (x * y) 40 from Ht.up (TX.mul TY) (by omega))
  have T4 := hide (show Ht (x + y + z) 40 from Ht.up ((TX.add TY).add TZ) (by omega))
  have T5 := hide (show Ht (y + z) 40 from Ht.up (TY.add TZ) (by omega))
  have T6 := hide (show Ht (x * y * z) 40 from Ht.up ((TX.mul TY).mul TZ) (by omega))
  have T7 := hide (show Ht (y * z) 40 from Ht.up (TY.mul TZ) (by omega))
  have T8 := hide (show Ht (z * (x + y)) 40 from Ht.up (TZ.mul (TX.add TY)) (by omega))
  have T9 := hide (show Ht (z * x) 40 from Ht.up (TZ.mul TX) (by omega))
  have T10 := hide (show Ht (z * y) 40 from Ht.up (TZ.mul TY) (by omega))
  have T1 := hide (show Ht (x) 40 from Ht.up TX (by omega))
  clear TX TY TZ
  go_enter Tryd.func7, Tryd.ntmps7
  go_wp2_with fail
  generalize hW : ((w.alloc _).alloc _).alloc _ = W
  obtain ⟨hbW, ba, bb, bc, -⟩ := boxesA3 hW
  clear hW
  refine (HA.out _ (hT.below hbW)).mono ?_
  rintro e w1 ⟨rfl, hb1⟩
  have hbA := hbW.trans (hb1.mono hbW.size)
  have ba := ba.below' hb1
  have bb := bb.below' hb1
  have bc := bc.below' hb1
  have hx := hx.below hbA
  have hy := hy.below hbA
  have hz := hz.below hbA
  clear hb1 hbW
  have k0 : w1.cell? ⟨w.heap.size, 0, none⟩ = some (.bool pa) := ba.at_ 0
  have k1 : w1.cell? ⟨w.heap.size, 1, none⟩ = some (.slice Aa na ca) := ba.at_ 1
  have k2 : w1.cell? ⟨w.heap.size, 2, none⟩ = some (.slice Ba ma da) := ba.at_ 2
  have lt0 := ba.lt
  have k3 : w1.cell? ⟨w.heap.size + 1, 0, none⟩ = some (.bool pb) := bb.at_ 0
  have k4 : w1.cell? ⟨w.heap.size + 1, 1, none⟩ = some (.slice Ab nb cb) := bb.at_ 1
  have k5 : w1.cell? ⟨w.heap.size + 1, 2, none⟩ = some (.slice Bb mb db) := bb.at_ 2
  have lt1 := bb.lt
  have k6 : w1.cell? ⟨w.heap.size + 1 + 1, 0, none⟩ = some (.bool pc) := bc.at_ 0
  have k7 : w1.cell? ⟨w.heap.size + 1 + 1, 1, none⟩ = some (.slice Ac nc cc) := bc.at_ 1
  have k8 : w1.cell? ⟨w.heap.size + 1 + 1, 2, none⟩ = some (.slice Bc mc dc) := bc.at_ 2
  have lt2 := bc.lt
  go_wp2_with fail
  clear k0 k1 k2 k3 k4 k5 k6 k7 k8 lt0 lt1 lt2
  generalize hW : w1.alloc _ = W1
  obtain ⟨hb, hfew⟩ := few3 hW
  have bS := (boxesA1 hW).2.1
  clear hW bS
  have hbA := hbA.trans (hb.mono hbA.size)
  have ba := ba.below' hb
  have bb := bb.below' hb
  have bc := bc.below' hb
  have hx := hx.below hb
  have hy := hy.below hb
  have hz := hz.below hb
  clear hb
  refine (few_any _ 3 3 _ _ _ (by simp [maxLen]) hfew true (by rw [isFew3]; simp [HFW.out])).mono ?_
  rintro e w2 ⟨rfl, rfl⟩
  clear hfew
  have k0 : w2.cell? ⟨w.heap.size, 0, none⟩ = some (.bool pa) := ba.at_ 0
  have k1 : w2.cell? ⟨w.heap.size, 1, none⟩ = some (.slice Aa na ca) := ba.at_ 1
  have k2 : w2.cell? ⟨w.heap.size, 2, none⟩ = some (.slice Ba ma da) := ba.at_ 2
  have lt0 := ba.lt
  have k3 : w2.cell? ⟨w.heap.size + 1, 0, none⟩ = some (.bool pb) := bb.at_ 0
  have k4 : w2.cell? ⟨w.heap.size + 1, 1, none⟩ = some (.slice Ab nb cb) := bb.at_ 1
  have k5 : w2.cell? ⟨w.heap.size + 1, 2, none⟩ = some (.slice Bb mb db) := bb.at_ 2
  have lt1 := bb.lt
  have k6 : w2.cell? ⟨w.heap.size + 1 + 1, 0, none⟩ = some (.bool pc) := bc.at_ 0
  have k7 : w2.cell? ⟨w.heap.size + 1 + 1, 1, none⟩ = some (.slice Ac nc cc) := bc.at_ 1
  have k8 : w2.cell? ⟨w.heap.size + 1 + 1, 2, none⟩ = some (.slice Bc mc dc) := bc.at_ 2
  have lt2 := bc.lt
  have SZ2 : Hid (w.heap.size + 2 < w2.heap.size) := lt2
  go_wp2_with fail
  have KX : Hid (∀ w', Below w2.heap.size w2 w' → Fr w' 40 pa Aa na ca Ba ma da x) := fun w' h => (hx.below h).up (by omega)
  have KY : Hid (∀ w', Below w2.heap.size w2 w' → Fr w' 40 pb Ab nb cb Bb mb db y) := fun w' h => (hy.below h).up (by omega)
  have KZ : Hid (∀ w', Below w2.heap.size w2 w' → Fr w' 40 pc Ac nc cc Bc mc dc z) := fun w' h => (hz.below h).up (by omega)
  have KS : Hid (∀ w', Below w2.heap.size w2 w' → w'.cell? ⟨w.heap.size, 0, none⟩ = some (.bool pa) ∧ w'.cell? ⟨w.heap.size, 1, none⟩ = some (.slice Aa na ca) ∧ w'.cell? ⟨w.heap.size, 2, none⟩ = some (.slice Ba ma da) ∧ w'.cell? ⟨w.heap.size + 1, 0, none⟩ = some (.bool pb) ∧ w'.cell? ⟨w.heap.size + 1, 1, none⟩ = some (.slice Ab nb cb) ∧ w'.cell? ⟨w.heap.size + 1, 2, none⟩ = some (.slice Bb mb db)) := fun w' h =>
    ⟨(ba.below h lt0).at_ 0, (ba.below h lt0).at_ 1, (ba.below h lt0).at_ 2, (bb.below h lt1).at_ 0, (bb.below h lt1).at_ 1, (bb.below h lt1).at_ 2⟩
  go_cut [7, 8] from 22 to 28 (fun s7 s8 wx => (MadeF w2 (x + y) s7 wx ∧ MadeF w2 (x * y) s8 wx) ∧ Below w2.heap.size w2 wx)
  case first =>
    clear k0 k1 k2 k3 k4 k5 k6 k7 k8
    go_region_held3 (fun w' => w'.cell? ⟨w.heap.size, 0, none⟩ = some (.bool pa) ∧ w'.cell? ⟨w.heap.size, 1, none⟩ = some (.slice Aa na ca) ∧ w'.cell? ⟨w.heap.size, 2, none⟩ = some (.slice Ba ma da) ∧ w'.cell? ⟨w.heap.size + 1, 0, none⟩ = some (.bool pb) ∧ w'.cell? ⟨w.heap.size + 1, 1, none⟩ = some (.slice Ab nb cb) ∧ w'.cell? ⟨w.heap.size + 1, 2, none⟩ = some (.slice Bb mb db))
      (exact KS.out _ (by ((repeat (first | (with_reducible assumption) | (with_reducible exact Below.refl _ _) | (with_reducible refine Below.drewS ?_) | (with_reducible refine Below.allocS ?_ _) | (with_reducible refine Below.setS ?_ (by first | omega | (simp; omega)) _))); (first | done | fail))))
      (first
        | (go_at_call_of 20 (Value.slice Aa na ca); (with_reducible refine (fadd_f (L := 40) (KX.out _ (by ((repeat (first | (with_reducible assumption) | (with_reducible exact Below.refl _ _) | (with_reducible refine Below.drewS ?_) | (with_reducible refine Below.allocS ?_ _) | (with_reducible refine Below.setS ?_ (by first | omega | (simp; omega)) _))); (first | done | fail)))) (KY.out _ (by ((repeat (first | (with_reducible assumption) | (with_reducible exact Below.refl _ _) | (with_reducible refine Below.drewS ?_) | (with_reducible refine Below.allocS ?_ _) | (with_reducible refine Below.setS ?_ (by first | omega | (simp; omega)) _))); (first | done | fail)))) (by omega) (by omega) (x + y) rfl).mono ?_); rintro e w5 ⟨p5, A5, n5, c5, B5, m5, d5, rfl, h5, hb5⟩; have E5 : Below w2.heap.size w2 w5 := Below.next (by ((repeat (first | (with_reducible assumption) | (with_reducible exact Below.refl _ _) | (with_reducible refine Below.drewS ?_) | (with_reducible refine Below.allocS ?_ _) | (with_reducible refine Below.setS ?_ (by first | omega | (simp; omega)) _))); (first | done | fail))) hb5; have z5 := E5.size; have y5 := hb5.size; (try simp at y5))
        | (go_at_call_of 24 (Value.slice Aa na ca); (with_reducible refine (fmul_f (L := 40) (KX.out _ (by ((repeat (first | (with_reducible assumption) | (with_reducible exact Below.refl _ _) | (with_reducible refine Below.drewS ?_) | (with_reducible refine Below.allocS ?_ _) | (with_reducible refine Below.setS ?_ (by first | omega | (simp; omega)) _))); (first | done | fail)))) (KY.out _ (by ((repeat (first | (with_reducible assumption) | (with_reducible exact Below.refl _ _) | (with_reducible refine Below.drewS ?_) | (with_reducible refine Below.allocS ?_ _) | (with_reducible refine Below.setS ?_ (by first | omega | (simp; omega)) _))); (first | done | fail)))) (by omega) (by omega) (x * y) rfl).mono ?_); rintro e w6 ⟨p6, A6, n6, c6, B6, m6, d6, rfl, h6, hb6⟩; have E6 : Below w2.heap.size w2 w6 := Below.next (by ((repeat (first | (with_reducible assumption) | (with_reducible exact Below.refl _ _) | (with_reducible refine Below.drewS ?_) | (with_reducible refine Below.allocS ?_ _) | (with_reducible refine Below.setS ?_ (by first | omega | (simp; omega)) _))); (first | done | fail))) hb6; have z6 := E6.size; have y6 := hb6.size; (try simp at y6); (try (have q0_0 : w2.heap.size < w6.heap.size := by omega)); (try (have q0_1 : w2.heap.size + 1 < w6.heap.size := by omega)); (try (have q1_0 : w5.heap.size < w6.heap.size := by omega)); (try (have q1_1 : w5.heap.size + 1 < w6.heap.size := by omega)); (try (have e0_0 : Box w6 (w2.heap.size) #[.bool false, .slice none 0 0, .slice none 0 0] 26 := (by ((repeat (first | (with_reducible exact Box.newE _ _ _ (by first | rfl | (simp; (first | done | fail)))) | (with_reducible refine Box.drewS ?_) | (with_reducible refine Box.alloc ?_ _) | (with_reducible refine Box.below' ?_ hb6) | (with_reducible refine Box.below' ?_ hb5))); (first | done | fail))); have le0_0 := Box.lt e0_0; have k0e0_0 : w6.cell? ⟨w2.heap.size, 0, none⟩ = some (.bool false) := Box.at_ e0_0 0; have k1e0_0 : w6.cell? ⟨w2.heap.size, 1, none⟩ = some (.slice none 0 0) := Box.at_ e0_0 1; have k2e0_0 : w6.cell? ⟨w2.heap.size, 2, none⟩ = some (.slice none 0 0) := Box.at_ e0_0 2; have f0e0_0 := Box.frozen e0_0 0; have f1e0_0 := Box.frozen e0_0 1; have f2e0_0 := Box.frozen e0_0 2)); (try (have e0_1 : Box w6 (w2.heap.size + 1) #[.bool false, .slice none 0 0, .slice none 0 0] 26 := (by ((repeat (first | (with_reducible exact Box.newE _ _ _ (by first | rfl | (simp; (first | done | fail)))) | (with_reducible refine Box.drewS ?_) | (with_reducible refine Box.alloc ?_ _) | (with_reducible refine Box.below' ?_ hb6) | (with_reducible refine Box.below' ?_ hb5))); (first | done | fail))); have le0_1 := Box.lt e0_1; have k0e0_1 : w6.cell? ⟨w2.heap.size + 1, 0, none⟩ = some (.bool false) := Box.at_ e0_1 0; have k1e0_1 : w6.cell? ⟨w2.heap.size + 1, 1, none⟩ = some (.slice none 0 0) := Box.at_ e0_1 1; have k2e0_1 : w6.cell? ⟨w2.heap.size + 1, 2, none⟩ = some (.slice none 0 0) := Box.at_ e0_1 2; have f0e0_1 := Box.frozen e0_1 0; have f1e0_1 := Box.frozen e0_1 1; have f2e0_1 := Box.frozen e0_1 2)); (try (have e1_0 : Box w6 (w5.heap.size) #[.bool false, .slice none 0 0, .slice none 0 0] 26 := (by ((repeat (first | (with_reducible exact Box.newE _ _ _ (by first | rfl | (simp; (first | done | fail)))) | (with_reducible refine Box.drewS ?_) | (with_reducible refine Box.alloc ?_ _) | (with_reducible refine Box.below' ?_ hb6) | (with_reducible refine Box.below' ?_ hb5))); (first | done | fail))); have le1_0 := Box.lt e1_0; have k0e1_0 : w6.cell? ⟨w5.heap.size, 0, none⟩ = some (.bool false) := Box.at_ e1_0 0; have k1e1_0 : w6.cell? ⟨w5.heap.size, 1, none⟩ = some (.slice none 0 0) := Box.at_ e1_0 1; have k2e1_0 : w6.cell? ⟨w5.heap.size, 2, none⟩ = some (.slice none 0 0) := Box.at_ e1_0 2; have f0e1_0 := Box.frozen e1_0 0; have f1e1_0 := Box.frozen e1_0 1; have f2e1_0 := Box.frozen e1_0 2)); (try (have e1_1 : Box w6 (w5.heap.size + 1) #[.bool false, .slice none 0 0, .slice none 0 0] 26 := (by ((repeat (first | (with_reducible exact Box.newE _ _ _ (by first | rfl | (simp; (first | done | fail)))) | (with_reducible refine Box.drewS ?_) | (with_reducible refine Box.alloc ?_ _) | (with_reducible refine Box.below' ?_ hb6) | (with_reducible refine Box.below' ?_ hb5))); (first | done | fail))); have le1_1 := Box.lt e1_1; have k0e1_1 : w6.cell? ⟨w5.heap.size + 1, 0, none⟩ = some (.bool false) := Box.at_ e1_1 0; have k1e1_1 : w6.cell? ⟨w5.heap.size + 1, 1, none⟩ = some (.slice none 0 0) := Box.at_ e1_1 1; have k2e1_1 : w6.cell? ⟨w5.heap.size + 1, 2, none⟩ = some (.slice none 0 0) := Box.at_ e1_1 2; have f0e1_1 := Box.frozen e1_1 0; have f1e1_1 := Box.frozen e1_1 1; have f2e1_1 := Box.frozen e1_1 2)); have h5 := h5.below (Below.next (by ((repeat (first | (with_reducible assumption) | (with_reducible exact Below.refl _ _) | (with_reducible refine Below.drewS ?_) | (with_reducible refine Below.allocS ?_ _) | (with_reducible refine Below.setS ?_ (by first | omega | (simp; omega)) _))); (first | done | fail))) hb6)))
    all_goals
      go_wp2_with fail
      go_meet
      exact ⟨⟨⟨_, p5, A5, n5, c5, B5, m5, d5, rfl, (by first | omega | (simp; omega)), (by ((repeat (first | (with_reducible assumption) | (with_reducible exact Box.newE _ _ _ (by first | rfl | (simp; (first | done | fail)))) | (with_reducible refine Box.drewS ?_) | (with_reducible refine Box.alloc ?_ _) | (with_reducible refine Box.put1z ?_) | (with_reducible refine Box.put3z ?_) | (with_reducible refine Box.far3 ?_ (by first | omega | (simp; omega)) _ _ _) | (with_reducible refine Box.far1 ?_ (by first | omega | (simp; omega)) _))); (first | done | fail))), (by ((repeat (first | (with_reducible assumption) | (with_reducible refine Fc.drewS ?_) | (with_reducible refine Fc.allocS ?_ _) | (with_reducible refine Fc.far3z ?_ (by ((repeat (first | (with_reducible assumption) | (with_reducible exact Box.newE _ _ _ (by first | rfl | (simp; (first | done | fail)))) | (with_reducible refine Box.drewS ?_) | (with_reducible refine Box.alloc ?_ _) | (with_reducible refine Box.put1z ?_) | (with_reducible refine Box.put3z ?_) | (with_reducible refine Box.far3 ?_ (by first | omega | (simp; omega)) _ _ _) | (with_reducible refine Box.far1 ?_ (by first | omega | (simp; omega)) _))); (first | done | fail))) _ _ _ _ _ _ _))); (first | done | fail)))⟩, ⟨_, p6, A6, n6, c6, B6, m6, d6, rfl, (by first | omega | (simp; omega)), (by ((repeat (first | (with_reducible assumption) | (with_reducible exact Box.newE _ _ _ (by first | rfl | (simp; (first | done | fail)))) | (with_reducible refine Box.drewS ?_) | (with_reducible refine Box.alloc ?_ _) | (with_reducible refine Box.put1z ?_) | (with_reducible refine Box.put3z ?_) | (with_reducible refine Box.far3 ?_ (by first | omega | (simp; omega)) _ _ _) | (with_reducible refine Box.far1 ?_ (by first | omega | (simp; omega)) _))); (first | done | fail))), (by ((repeat (first | (with_reducible assumption) | (with_reducible refine Fc.drewS ?_) | (with_reducible refine Fc.allocS ?_ _) | (with_reducible refine Fc.far3z ?_ (by ((repeat (first | (with_reducible assumption) | (with_reducible exact Box.newE _ _ _ (by first | rfl | (simp; (first | done | fail)))) | (with_reducible refine Box.drewS ?_) | (with_reducible refine Box.alloc ?_ _) | (with_reducible refine Box.put1z ?_) | (with_reducible refine Box.put3z ?_) | (with_reducible refine Box.far3 ?_ (by first | omega | (simp; omega)) _ _ _) | (with_reducible refine Box.far1 ?_ (by first | omega | (simp; omega)) _))); (first | done | fail))) _ _ _ _ _ _ _))); (first | done | fail)))⟩⟩, (by ((repeat (first | (with_reducible assumption) | (with_reducible exact Below.refl _ _) | (with_reducible refine Below.drewS ?_) | (with_reducible refine Below.allocS ?_ _) | (with_reducible refine Below.setS ?_ (by first | omega | (simp; omega)) _))); (first | done | fail)))⟩
  case rest =>
  obtain ⟨⟨⟨g7, p7, A7, n7, c7, B7, m7, d7, rfl, hg7, b7, h7⟩, ⟨g8, p8, A8, n8, c8, B8, m8, d8, rfl, hg8, b8, h8⟩⟩, E2⟩ := hcut
  have ba := ba.below' E2
  have bb := bb.below' E2
  have bc := bc.below' E2
  have hbA := hbA.trans (E2.mono hbA.size)
  generalize wc = W3 at *
  have KX2 : Hid (∀ w', Below W3.heap.size W3 w' → Fr w' 40 pa Aa na ca Ba ma da x) := fun w' h => KX.out _ (E2.trans (h.mono E2.size))
  have KY2 : Hid (∀ w', Below W3.heap.size W3 w' → Fr w' 40 pb Ab nb cb Bb mb db y) := fun w' h => KY.out _ (E2.trans (h.mono E2.size))
  have KZ2 : Hid (∀ w', Below W3.heap.size W3 w' → Fr w' 40 pc Ac nc cc Bc mc dc z) := fun w' h => KZ.out _ (E2.trans (h.mono E2.size))
  have C7 : Hid (∀ w', Below W3.heap.size W3 w' → Fc w' p7 A7 n7 c7 B7 m7 d7 (x + y)) := fun w' h => h7.below h
  have C8 : Hid (∀ w', Below W3.heap.size W3 w' → Fc w' p8 A8 n8 c8 B8 m8 d8 (x * y)) := fun w' h => h8.below h
  have K7 : Hid (∀ w', Below W3.heap.size W3 w' → Fr w' 40 p7 A7 n7 c7 B7 m7 d7 (x + y)) := fun w' h => (h7.below h).fr T2.out
  have K8 : Hid (∀ w', Below W3.heap.size W3 w' → Fr w' 40 p8 A8 n8 c8 B8 m8 d8 (x * y)) := fun w' h => (h8.below h).fr T3.out
  have lt0 := ba.lt
  have lt1 := bb.lt
  have lt2 := bc.lt
  have lt7 := b7.lt
  have lt8 := b8.lt
  have KT : Hid (∀ w', Below W3.heap.size W3 w' → w'.cell? ⟨w.heap.size, 0, none⟩ = some (.bool pa) ∧ w'.cell? ⟨w.heap.size, 1, none⟩ = some (.slice Aa na ca) ∧ w'.cell? ⟨w.heap.size, 2, none⟩ = some (.slice Ba ma da) ∧ w'.cell? ⟨w.heap.size + 1, 0, none⟩ = some (.bool pb) ∧ w'.cell? ⟨w.heap.size + 1, 1, none⟩ = some (.slice Ab nb cb) ∧ w'.cell? ⟨w.heap.size + 1, 2, none⟩ = some (.slice Bb mb db) ∧ w'.cell? ⟨w.heap.size + 1 + 1, 0, none⟩ = some (.bool pc) ∧ w'.cell? ⟨w.heap.size + 1 + 1, 1, none⟩ = some (.slice Ac nc cc) ∧ w'.cell? ⟨w.heap.size + 1 + 1, 2, none⟩ = some (.slice Bc mc dc) ∧ w'.cell? ⟨g7, 0, none⟩ = some (.bool p7) ∧ w'.cell? ⟨g7, 1, none⟩ = some (.slice A7 n7 c7) ∧ w'.cell? ⟨g7, 2, none⟩ = some (.slice B7 m7 d7) ∧ w'.cell? ⟨g8, 0, none⟩ = some (.bool p8) ∧ w'.cell? ⟨g8, 1, none⟩ = some (.slice A8 n8 c8) ∧ w'.cell? ⟨g8, 2, none⟩ = some (.slice B8 m8 d8)) := fun w' h =>
    ⟨(ba.below h lt0).at_ 0, (ba.below h lt0).at_ 1, (ba.below h lt0).at_ 2, (bb.below h lt1).at_ 0, (bb.below h lt1).at_ 1, (bb.below h lt1).at_ 2, (bc.below h lt2).at_ 0, (bc.below h lt2).at_ 1, (bc.below h lt2).at_ 2, (b7.below h lt7).at_ 0, (b7.below h lt7).at_ 1, (b7.below h lt7).at_ 2, (b8.below h lt8).at_ 0, (b8.below h lt8).at_ 1, (b8.below h lt8).at_ 2⟩
  clear E2 KX KY KZ KS h7 h8 hg7 hg8 hx hy hz ba bb bc b7 b8
  have P0 : Below W3.heap.size W3 W3.drew := (Below.refl _ _).drew
  go_wp2_with fail
  go_region_held3 (fun w' => w'.cell? ⟨w.heap.size, 0, none⟩ = some (.bool pa) ∧ w'.cell? ⟨w.heap.size, 1, none⟩ = some (.slice Aa na ca) ∧ w'.cell? ⟨w.heap.size, 2, none⟩ = some (.slice Ba ma da) ∧ w'.cell? ⟨w.heap.size + 1, 0, none⟩ = some (.bool pb) ∧ w'.cell? ⟨w.heap.size + 1, 1, none⟩ = some (.slice Ab nb cb) ∧ w'.cell? ⟨w.heap.size + 1, 2, none⟩ = some (.slice Bb mb db) ∧ w'.cell? ⟨w.heap.size + 1 + 1, 0, none⟩ = some (.bool pc) ∧ w'.cell? ⟨w.heap.size + 1 + 1, 1, none⟩ = some (.slice Ac nc cc) ∧ w'.cell? ⟨w.heap.size + 1 + 1, 2, none⟩ = some (.slice Bc mc dc) ∧ w'.cell? ⟨g7, 0, none⟩ = some (.bool p7) ∧ w'.cell? ⟨g7, 1, none⟩ = some (.slice A7 n7 c7) ∧ w'.cell? ⟨g7, 2, none⟩ = some (.slice B7 m7 d7) ∧ w'.cell? ⟨g8, 0, none⟩ = some (.bool p8) ∧ w'.cell? ⟨g8, 1, none⟩ = some (.slice A8 n8 c8) ∧ w'.cell? ⟨g8, 2, none⟩ = some (.slice B8 m8 d8))
    (first | exact KT.out _ E13 | exact KT.out _ E12 | exact KT.out _ E11 | exact KT.out _ E10 | exact KT.out _ P0 | exact KT.out _ (Below.refl _ _))
    (first
      | (go_at_call_of 20 (Value.slice Ab nb cb); (with_reducible refine (fadd_f (L := 40) (KY2.out _ P0) (KX2.out _ P0) (by omega) (by omega) (x + y) (Rat.add_comm _ _)).mono ?_); rintro e w10 ⟨p10, A10, n10, c10, B10, m10, d10, rfl, h10, hb10⟩; have E10 : Below W3.heap.size W3 w10 := (P0).trans (hb10.mono (P0).size))
      | (go_at_call_of 11 (Value.slice A7 n7 c7); (with_reducible refine (fbase_f (C7.out _ E10) h10 T2.out (by omega)).mono ?_); rintro e w11 ⟨rfl, hb11⟩; have E11 : Below W3.heap.size W3 w11 := (E10).trans (hb11.mono (E10).size))
      | (go_at_call_of 24 (Value.slice Ab nb cb); (with_reducible refine (fmul_f (L := 40) (KY2.out _ E11) (KX2.out _ E11) (by omega) (by omega) (x * y) (Rat.mul_comm _ _)).mono ?_); rintro e w12 ⟨p12, A12, n12, c12, B12, m12, d12, rfl, h12, hb12⟩; have E12 : Below W3.heap.size W3 w12 := (E11).trans (hb12.mono (E11).size))
      | (go_at_call_of 11 (Value.slice A8 n8 c8); (with_reducible refine (fbase_f (C8.out _ E12) h12 T3.out (by omega)).mono ?_); rintro e w13 ⟨rfl, hb13⟩; have E13 : Below W3.heap.size W3 w13 := (E12).trans (hb13.mono (E12).size)))
  clear E10 E11 E12 hb10 hb11 hb12 hb13 h10 h12
  have P1 : Below W3.heap.size W3 w13.drew := E13.drew
  go_wp2_with fail
  go_region_held3 (fun w' => w'.cell? ⟨w.heap.size, 0, none⟩ = some (.bool pa) ∧ w'.cell? ⟨w.heap.size, 1, none⟩ = some (.slice Aa na ca) ∧ w'.cell? ⟨w.heap.size, 2, none⟩ = some (.slice Ba ma da) ∧ w'.cell? ⟨w.heap.size + 1, 0, none⟩ = some (.bool pb) ∧ w'.cell? ⟨w.heap.size + 1, 1, none⟩ = some (.slice Ab nb cb) ∧ w'.cell? ⟨w.heap.size + 1, 2, none⟩ = some (.slice Bb mb db) ∧ w'.cell? ⟨w.heap.size + 1 + 1, 0, none⟩ = some (.bool pc) ∧ w'.cell? ⟨w.heap.size + 1 + 1, 1, none⟩ = some (.slice Ac nc cc) ∧ w'.cell? ⟨w.heap.size + 1 + 1, 2, none⟩ = some (.slice Bc mc dc) ∧ w'.cell? ⟨g7, 0, none⟩ = some (.bool p7) ∧ w'.cell? ⟨g7, 1, none⟩ = some (.slice A7 n7 c7) ∧ w'.cell? ⟨g7, 2, none⟩ = some (.slice B7 m7 d7) ∧ w'.cell? ⟨g8, 0, none⟩ = some (.bool p8) ∧ w'.cell? ⟨g8, 1, none⟩ = some (.slice A8 n8 c8) ∧ w'.cell? ⟨g8, 2, none⟩ = some (.slice B8 m8 d8))
    (first | exact KT.out _ E21 | exact KT.out _ E20 | exact KT.out _ E19 | exact KT.out _ E18 | exact KT.out _ E17 | exact KT.out _ E16 | exact KT.out _ E15 | exact KT.out _ E14 | exact KT.out _ P1 | exact KT.out _ E13)
    (first
      | (go_at_call_of 20 (Value.slice A7 n7 c7); (with_reducible refine (fadd_f (L := 40) (K7.out _ P1) (KZ2.out _ P1) (by omega) (by omega) (x + y + z) rfl).mono ?_); rintro e w14 ⟨p14, A14, n14, c14, B14, m14, d14, rfl, h14, hb14⟩; have E14 : Below W3.heap.size W3 w14 := (P1).trans (hb14.mono (P1).size))
      | (go_at_call_of 20 (Value.slice Ab nb cb); (with_reducible refine (fadd_f (L := 40) (KY2.out _ E14) (KZ2.out _ E14) (by omega) (by omega) (y + z) rfl).mono ?_); rintro e w15 ⟨p15, A15, n15, c15, B15, m15, d15, rfl, h15, hb15⟩; have E15 : Below W3.heap.size W3 w15 := (E14).trans (hb15.mono (E14).size))
      | (go_at_call_of 20 (Value.slice Aa na ca); (with_reducible refine (fadd_f (L := 40) (KX2.out _ E15) (Fc.fr h15 T5.out) (by omega) (by omega) (x + y + z) (Rat.add_assoc _ _ _).symm).mono ?_); rintro e w16 ⟨p16, A16, n16, c16, B16, m16, d16, rfl, h16, hb16⟩; have E16 : Below W3.heap.size W3 w16 := (E15).trans (hb16.mono (E15).size))
      | (go_at_call_of 11 (Value.slice A14 n14 c14); (with_reducible refine (fbase_f ((h14.below hb15).below hb16) h16 T4.out (by omega)).mono ?_); rintro e w17 ⟨rfl, hb17⟩; have E17 : Below W3.heap.size W3 w17 := (E16).trans (hb17.mono (E16).size))
      | (go_at_call_of 24 (Value.slice A8 n8 c8); (with_reducible refine (fmul_f (L := 40) (K8.out _ E17) (KZ2.out _ E17) (by omega) (by omega) (x * y * z) rfl).mono ?_); rintro e w18 ⟨p18, A18, n18, c18, B18, m18, d18, rfl, h18, hb18⟩; have E18 : Below W3.heap.size W3 w18 := (E17).trans (hb18.mono (E17).size))
      | (go_at_call_of 24 (Value.slice Ab nb cb); (with_reducible refine (fmul_f (L := 40) (KY2.out _ E18) (KZ2.out _ E18) (by omega) (by omega) (y * z) rfl).mono ?_); rintro e w19 ⟨p19, A19, n19, c19, B19, m19, d19, rfl, h19, hb19⟩; have E19 : Below W3.heap.size W3 w19 := (E18).trans (hb19.mono (E18).size))
      | (go_at_call_of 24 (Value.slice Aa na ca); (with_reducible refine (fmul_f (L := 40) (KX2.out _ E19) (Fc.fr h19 T7.out) (by omega) (by omega) (x * y * z) (Rat.mul_assoc _ _ _).symm).mono ?_); rintro e w20 ⟨p20, A20, n20, c20, B20, m20, d20, rfl, h20, hb20⟩; have E20 : Below W3.heap.size W3 w20 := (E19).trans (hb20.mono (E19).size))
      | (go_at_call_of 11 (Value.slice A18 n18 c18); (with_reducible refine (fbase_f ((h18.below hb19).below hb20) h20 T6.out (by omega)).mono ?_); rintro e w21 ⟨rfl, hb21⟩; have E21 : Below W3.heap.size W3 w21 := (E20).trans (hb21.mono (E20).size)))
  clear E14 E15 E16 E17 E18 E19 E20 hb14 hb15 hb16 hb17 hb18 hb19 hb20 hb21 h14 h15 h16 h18 h19 h20
  clear P1 E13
  have P2 : Below W3.heap.size W3 w21.drew := E21.drew
  go_wp2_with fail
  go_region_held3 (fun w' => w'.cell? ⟨w.heap.size, 0, none⟩ = some (.bool pa) ∧ w'.cell? ⟨w.heap.size, 1, none⟩ = some (.slice Aa na ca) ∧ w'.cell? ⟨w.heap.size, 2, none⟩ = some (.slice Ba ma da) ∧ w'.cell? ⟨w.heap.size + 1, 0, none⟩ = some (.bool pb) ∧ w'.cell? ⟨w.heap.size + 1, 1, none⟩ = some (.slice Ab nb cb) ∧ w'.cell? ⟨w.heap.size + 1, 2, none⟩ = some (.slice Bb mb db) ∧ w'.cell? ⟨w.heap.size + 1 + 1, 0, none⟩ = some (.bool pc) ∧ w'.cell? ⟨w.heap.size + 1 + 1, 1, none⟩ = some (.slice Ac nc cc) ∧ w'.cell? ⟨w.heap.size + 1 + 1, 2, none⟩ = some (.slice Bc mc dc) ∧ w'.cell? ⟨g7, 0, none⟩ = some (.bool p7) ∧ w'.cell? ⟨g7, 1, none⟩ = some (.slice A7 n7 c7) ∧ w'.cell? ⟨g7, 2, none⟩ = some (.slice B7 m7 d7) ∧ w'.cell? ⟨g8, 0, none⟩ = some (.bool p8) ∧ w'.cell? ⟨g8, 1, none⟩ = some (.slice A8 n8 c8) ∧ w'.cell? ⟨g8, 2, none⟩ = some (.slice B8 m8 d8))
    (first | exact KT.out _ E29 | exact KT.out _ E28 | exact KT.out _ E27 | exact KT.out _ E26 | exact KT.out _ E25 | exact KT.out _ E24 | exact KT.out _ E23 | exact KT.out _ E22 | exact KT.out _ P2 | exact KT.out _ E21)
    (first
      | (go_at_call_of 24 (Value.slice Ac nc cc); (with_reducible refine (fmul_f (L := 40) (KZ2.out _ P2) (K7.out _ P2) (by omega) (by omega) (z * (x + y)) rfl).mono ?_); rintro e w22 ⟨p22, A22, n22, c22, B22, m22, d22, rfl, h22, hb22⟩; have E22 : Below W3.heap.size W3 w22 := (P2).trans (hb22.mono (P2).size))
      | (go_at_call_of 24 (Value.slice Ac nc cc); (with_reducible refine (fmul_f (L := 40) (KZ2.out _ E22) (KX2.out _ E22) (by omega) (by omega) (z * x) rfl).mono ?_); rintro e w23 ⟨p23, A23, n23, c23, B23, m23, d23, rfl, h23, hb23⟩; have E23 : Below W3.heap.size W3 w23 := (E22).trans (hb23.mono (E22).size))
      | (go_at_call_of 24 (Value.slice Ac nc cc); (with_reducible refine (fmul_f (L := 40) (KZ2.out _ E23) (KY2.out _ E23) (by omega) (by omega) (z * y) rfl).mono ?_); rintro e w24 ⟨p24, A24, n24, c24, B24, m24, d24, rfl, h24, hb24⟩; have E24 : Below W3.heap.size W3 w24 := (E23).trans (hb24.mono (E23).size))
      | (go_at_call_of 20 (Value.slice A23 n23 c23); (with_reducible refine (fadd_f (L := 40) (Fc.fr (h23.below hb24) T9.out) (Fc.fr h24 T10.out) (by omega) (by omega) (z * (x + y)) (Rat.mul_add _ _ _).symm).mono ?_); rintro e w25 ⟨p25, A25, n25, c25, B25, m25, d25, rfl, h25, hb25⟩; have E25 : Below W3.heap.size W3 w25 := (E24).trans (hb25.mono (E24).size))
      | (go_at_call_of 11 (Value.slice A22 n22 c22); (with_reducible refine (fbase_f (((h22.below hb23).below hb24).below hb25) h25 T8.out (by omega)).mono ?_); rintro e w26 ⟨rfl, hb26⟩; have E26 : Below W3.heap.size W3 w26 := (E25).trans (hb26.mono (E25).size))
      | (go_at_call_of 22 (Value.slice A7 n7 c7); (with_reducible refine (fsub_f (L := 40) (K7.out _ E26) (KY2.out _ E26) (by omega) (by omega) (x) Rat.add_sub_cancel).mono ?_); rintro e w27 ⟨p27, A27, n27, c27, B27, m27, d27, rfl, h27, hb27⟩; have E27 : Below W3.heap.size W3 w27 := (E26).trans (hb27.mono (E26).size))
      | (go_at_call_of 14 (Value.slice Aa na ca); (with_reducible refine (fnorm_f (L := 40) (KX2.out _ E27) (by omega) (by omega)).mono ?_); rintro e w28 ⟨p28, A28, n28, c28, B28, m28, d28, rfl, h28, hb28⟩; have E28 : Below W3.heap.size W3 w28 := (E27).trans (hb28.mono (E27).size))
      | (go_at_call_of 11 (Value.slice A27 n27 c27); (with_reducible refine (fbase_f (h27.below hb28) h28 T1.out (by omega)).mono ?_); rintro e w29 ⟨rfl, hb29⟩; have E29 : Below W3.heap.size W3 w29 := (E28).trans (hb29.mono (E28).size)))
  clear E22 E23 E24 E25 E26 E27 E28 hb22 hb23 hb24 hb25 hb26 hb27 hb28 hb29 h22 h23 h24 h25 h27 h28
  clear P2 E21
  obtain ⟨k0, k1, k2, k3, k4, k5, k6, k7, k8, k9, k10, k11, k12, k13, k14⟩ := KT.out w29 E29
  go_wp2_with fail
  clear k0 k1 k2 k3 k4 k5 k6 k7 k8 k9 k10 k11 k12 k13 k14
  by_cases hy0 : y = 0
  · refine (fdiv_f0 (L := 40) (KY2.out _ E29) (by omega) hy0).mono ?_
    rintro e w30 ⟨rfl, hb30⟩
    have E30 := E29.trans (hb30.mono E29.size)
    have HY0 := hide hy0
    clear hb30 hy0
    obtain ⟨k0, k1, k2, k3, k4, k5, k6, k7, k8, k9, k10, k11, k12, k13, k14⟩ := KT.out w30 E30
    have l0 : w.heap.size < w30.heap.size := Nat.lt_of_lt_of_le lt0 E30.size
    have l1 : w.heap.size + 1 < w30.heap.size := Nat.lt_of_lt_of_le lt1 E30.size
    have l2 : w.heap.size + 1 + 1 < w30.heap.size := Nat.lt_of_lt_of_le lt2 E30.size
    have l7 : g7 < w30.heap.size := Nat.lt_of_lt_of_le lt7 E30.size
    have l8 : g8 < w30.heap.size := Nat.lt_of_lt_of_le lt8 E30.size
    go_wp2_with fail
    clear k0 k1 k2 k3 k4 k5 k6 k7 k8 k9 k10 k11 k12 k13 k14 l0 l1 l2 l7 l8
    generalize hW : w30.alloc _ = W31
    obtain ⟨hb, -, -⟩ := boxesA1 hW
    clear hW
    have E31 := E30.trans (hb.mono E30.size)
    refine (fsign_f (L := 40) (KY2.out _ E31) (by omega) 0 (by rw [HY0.out]; rfl)).mono ?_
    rintro e w32 ⟨rfl, hb32⟩
    have E32 := E31.trans (hb32.mono E31.size)
    have hbZ := hbA.trans (E32.mono hbA.size)
    clear hb32 hb E32 E31 E30
    go_wp2
    go_ret
    exact ⟨rfl, hbZ⟩
  · refine (fdiv_f (L := 40) (K8.out _ E29) (KY2.out _ E29) (by omega) hy0 x (Rat.mul_div_cancel hy0)).mono ?_
    rintro e w30 ⟨p30, A30, n30, c30, B30, m30, d30, rfl, h30, hb30⟩
    have E30 := E29.trans (hb30.mono E29.size)
    obtain ⟨o, ho⟩ : ∃ o, y.num.sign = o := ⟨_, rfl⟩
    have ho2 : (o == 0) = false := by
      rw [← ho, beq_eq_false_iff_ne]
      exact fun h => hy0 (Rat.num_eq_zero.1 (Int.sign_eq_zero_iff_zero.1 h))
    have HO := hide ho
    clear hb30 hy0 ho
    obtain ⟨k0, k1, k2, k3, k4, k5, k6, k7, k8, k9, k10, k11, k12, k13, k14⟩ := KT.out w30 E30
    have l0 : w.heap.size < w30.heap.size := Nat.lt_of_lt_of_le lt0 E30.size
    have l1 : w.heap.size + 1 < w30.heap.size := Nat.lt_of_lt_of_le lt1 E30.size
    have l2 : w.heap.size + 1 + 1 < w30.heap.size := Nat.lt_of_lt_of_le lt2 E30.size
    have l7 : g7 < w30.heap.size := Nat.lt_of_lt_of_le lt7 E30.size
    have l8 : g8 < w30.heap.size := Nat.lt_of_lt_of_le lt8 E30.size
    go_wp2_with fail
    clear k0 k1 k2 k3 k4 k5 k6 k7 k8 k9 k10 k11 k12 k13 k14 l0 l1 l2 l7 l8
    generalize hW : w30.alloc _ = W31
    obtain ⟨hb, b9, -⟩ := boxesA1 hW
    clear hW
    have E31 := E30.trans (hb.mono E30.size)
    have h30 := h30.below hb
    clear hb
    refine (fsign_f (L := 40) (KY2.out _ E31) (by omega) o HO.out).mono ?_
    rintro e w32 ⟨rfl, hb32⟩
    have E32 := E31.trans (hb32.mono E31.size)
    have h30 := h30.below hb32
    have b9 := b9.below' hb32
    clear hb32 E31 E30
    go_wp2_with fail
    have lt9 := b9.lt
    have KU : Hid (∀ w', Below w32.heap.size w32 w' → w'.cell? ⟨w.heap.size, 0, none⟩ = some (.bool pa) ∧ w'.cell? ⟨w.heap.size, 1, none⟩ = some (.slice Aa na ca) ∧ w'.cell? ⟨w.heap.size, 2, none⟩ = some (.slice Ba ma da) ∧ w'.cell? ⟨w30.heap.size, 0, none⟩ = some (.bool p30) ∧ w'.cell? ⟨w30.heap.size, 1, none⟩ = some (.slice A30 n30 c30) ∧ w'.cell? ⟨w30.heap.size, 2, none⟩ = some (.slice B30 m30 d30)) := fun w' h => by
      obtain ⟨q0, q1, q2, -⟩ := KT.out _ (E32.trans (h.mono E32.size))
      exact ⟨q0, q1, q2, (b9.below h lt9).at_ 0, (b9.below h lt9).at_ 1, (b9.below h lt9).at_ 2⟩
    have KA : Hid (∀ w', Below w32.heap.size w32 w' → Fr w' 40 pa Aa na ca Ba ma da x) := fun w' h => KX2.out _ (E32.trans (h.mono E32.size))
    have CQ : Hid (∀ w', Below w32.heap.size w32 w' → Fc w' p30 A30 n30 c30 B30 m30 d30 x) := fun w' h => h30.below h
    have P3 : Below w32.heap.size w32 w32.drew := (Below.refl _ _).drew
    clear h30 b9 lt9
    go_region_held3 (fun w' => w'.cell? ⟨w.heap.size, 0, none⟩ = some (.bool pa) ∧ w'.cell? ⟨w.heap.size, 1, none⟩ = some (.slice Aa na ca) ∧ w'.cell? ⟨w.heap.size, 2, none⟩ = some (.slice Ba ma da) ∧ w'.cell? ⟨w30.heap.size, 0, none⟩ = some (.bool p30) ∧ w'.cell? ⟨w30.heap.size, 1, none⟩ = some (.slice A30 n30 c30) ∧ w'.cell? ⟨w30.heap.size, 2, none⟩ = some (.slice B30 m30 d30))
      (first | exact KU.out _ E34 | exact KU.out _ E33 | exact KU.out _ P3 | exact KU.out _ (Below.refl _ _))
      (first
        | (go_at_call_of 14 (Value.slice Aa na ca); (with_reducible refine (fnorm_f (L := 40) (KA.out _ P3) (by omega) (by omega)).mono ?_); rintro e w33 ⟨p33, A33, n33, c33, B33, m33, d33, rfl, h33, hb33⟩; have E33 : Below w32.heap.size w32 w33 := (P3).trans (hb33.mono (P3).size))
        | (go_at_call_of 11 (Value.slice A30 n30 c30); (with_reducible refine (fbase_f (CQ.out _ E33) h33 T1.out (by omega)).mono ?_); rintro e w34 ⟨rfl, hb34⟩; have E34 : Below w32.heap.size w32 w34 := (E33).trans (hb34.mono (E33).size)))
    clear E33 hb33 hb34 h33
    have hbZ := hbA.trans ((E32.trans (E34.mono E32.size)).mono hbA.size)
    clear E34 E32 KU KA CQ P3
    go_wp2
    go_ret
    exact ⟨rfl, hbZ⟩
end Go.Proofs.YtanhofmgapbjfaaDoor
