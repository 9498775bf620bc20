/- DecisionFills. -/
import Derived.Test.YtalbdclcappjpaaOA
namespace Go.Proofs.Ytalbdclcappjpaa
open Go Go.RowKit Go.Lib
/-- the first i decisions, and marks, of an author -/
def fD (k : Int) (i : Nat) : List Dec := (List.range i).map fun (j : Nat) => (⟨k, (j : Int) + 1, 3, 1, 2⟩ : Dec)
def fM (k : Int) (i : Nat) : List Mk := (List.range i).map fun (j : Nat) => (⟨k, (j : Int) + 1⟩ : Mk)
theorem fD_len (k : Int) (i : Nat) : (fD k i).length = i := by simp [fD]
theorem fM_len (k : Int) (i : Nat) : (fM k i).length = i := by simp [fM]
theorem fD_next (k : Int) (i : Nat) : fD k (i + 1) = fD k i ++ [⟨k, (i : Int) + 1, 3, 1, 2⟩] := by simp [fD, List.range_succ]
theorem fM_next (k : Int) (i : Nat) : fM k (i + 1) = fM k i ++ [⟨k, (i : Int) + 1⟩] := by simp [fM, List.range_succ]
theorem fD_mem {k : Int} {i : Nat} {x : Dec} : x ∈ fD k i ↔ ∃ j : Nat, j < i ∧ x = ⟨k, (j : Int) + 1, 3, 1, 2⟩ := by
  unfold fD
  rw [List.mem_map]
  constructor
  · rintro ⟨j, h, rfl⟩; exact ⟨j, List.mem_range.1 h, rfl⟩
  · rintro ⟨j, h, rfl⟩; exact ⟨j, List.mem_range.2 h, rfl⟩
theorem fM_mem {k : Int} {i : Nat} {x : Mk} : x ∈ fM k i ↔ ∃ j : Nat, j < i ∧ x = ⟨k, (j : Int) + 1⟩ := by
  unfold fM
  rw [List.mem_map]
  constructor
  · rintro ⟨j, h, rfl⟩; exact ⟨j, List.mem_range.1 h, rfl⟩
  · rintro ⟨j, h, rfl⟩; exact ⟨j, List.mem_range.2 h, rfl⟩
theorem ins_end {α : Type} {κ : α → Int} {l : List α} {x : α} (h : ∀ y ∈ l, κ y < κ x) : ins κ x l = l ++ [x] := by
  have hc : cnt κ (κ x) l = l.length := by
    unfold cnt
    rw [List.countP_eq_length]
    intro y hy
    exact decide_eq_true (h y hy)
  unfold ins
  rw [hc, List.take_length, List.drop_length]
def fX (k : Int) (i : Nat) : Led := ⟨fD k i, fM k i⟩
/-- one more decision, one more mark -/
theorem f_make {k : Int} (hk : 0 ≤ k ∧ k ≤ 7) {i : Nat} (hi : i < 200) : mkE (fD k i) ⟨k, (i : Int) + 1, 3, 1, 2⟩ = 0 ∧ mkL (fD k i) ⟨k, (i : Int) + 1, 3, 1, 2⟩ = fD k (i + 1) := by
  have hlt : ∀ y ∈ fD k i, y.key < (⟨k, (i : Int) + 1, 3, 1, 2⟩ : Dec).key := fun y hy => by
    obtain ⟨j, hj, rfl⟩ := fD_mem.1 hy
    unfold Dec.key
    simp only
    omega
  have hv : vD ⟨k, (i : Int) + 1, 3, 1, 2⟩ = true := by
    unfold vD vM vK Dec.mk_
    simp
    omega
  have he : mkE (fD k i) ⟨k, (i : Int) + 1, 3, 1, 2⟩ = 0 := mkE_of hv (.inr ⟨fun y hy => by have := hlt y hy; omega, by rw [fD_len]; exact hi⟩)
  refine ⟨he, ?_⟩
  unfold mkL
  rw [if_pos he, put_out fun h => by have := hlt _ h; omega, ins_end hlt, fD_next]
theorem f_wd {k : Int} (hk : 0 ≤ k ∧ k ≤ 7) {i : Nat} (hi : i < 200) : wdE (fM k i) ⟨k, (i : Int) + 1⟩ = 0 ∧ wdL (fM k i) ⟨k, (i : Int) + 1⟩ = fM k (i + 1) := by
  have hlt : ∀ y ∈ fM k i, y.key < (⟨k, (i : Int) + 1⟩ : Mk).key := fun y hy => by
    obtain ⟨j, hj, rfl⟩ := fM_mem.1 hy
    unfold Mk.key
    simp only
    omega
  have hv : vM ⟨k, (i : Int) + 1⟩ = true := by
    rw [vM_true]
    simp only
    omega
  have he : wdE (fM k i) ⟨k, (i : Int) + 1⟩ = 0 := wdE_of hv (.inr (by rw [fM_len]; exact hi))
  refine ⟨he, ?_⟩
  unfold wdL
  rw [if_pos he, put_out fun h => by have := hlt _ h; omega, ins_end hlt, fM_next]
/-- what a further decision is answered -/
def fE (k : Int) (x : Dec) : Int := if vD x = true then if x.u = k then if x.k = 3 ∧ x.a = 1 ∧ x.b = 2 then 0 else 10 else 6 else 1
theorem f_more {k : Int} (x : Dec) : mkE (fD k 200) x = fE k x := by
  unfold fE
  by_cases hv : vD x = true
  · rw [if_pos hv]
    have hm := vM_true.1 (vD_vM hv)
    simp only [Dec.mk_] at hm
    by_cases hu : x.u = k
    · rw [if_pos hu]
      obtain ⟨j, hj⟩ : ∃ j : Nat, x.n = (j : Int) + 1 := ⟨(x.n - 1).toNat, by omega⟩
      have hmem : (⟨k, (j : Int) + 1, 3, 1, 2⟩ : Dec) ∈ fD k 200 := fD_mem.2 ⟨j, by omega, rfl⟩
      by_cases hx : x.k = 3 ∧ x.a = 1 ∧ x.b = 2
      · rw [if_pos hx]
        refine mkE_of hv (.inl ?_)
        have : x = ⟨k, (j : Int) + 1, 3, 1, 2⟩ := by
          cases x
          simp only at *
          rw [hu, hj, hx.1, hx.2.1, hx.2.2]
        rw [this]; exact hmem
      · rw [if_neg hx]
        have hno : x ∉ fD k 200 := fun h => by
          obtain ⟨j', _, rfl⟩ := fD_mem.1 h
          exact hx ⟨rfl, rfl, rfl⟩
        unfold mkE
        rw [if_pos hv, if_neg hno, if_pos ⟨_, hmem, by unfold Dec.key; simp only; omega⟩]
    · rw [if_neg hu]
      have hk2 : ¬ ∃ y ∈ fD k 200, y.key = x.key := by
        rintro ⟨y, hy, e⟩
        obtain ⟨j, hj, rfl⟩ := fD_mem.1 hy
        unfold Dec.key at e
        simp only at e
        omega
      unfold mkE
      rw [if_pos hv, if_neg fun h => hk2 ⟨x, h, rfl⟩, if_neg hk2, if_neg (by rw [fD_len]; decide)]
  · rw [if_neg hv]
    unfold mkE
    rw [if_neg hv]
theorem f_more_l {k : Int} (x : Dec) : mkL (fD k 200) x = fD k 200 := by
  unfold mkL
  by_cases h : mkE (fD k 200) x = 0
  · rw [if_pos h]
    rcases (mkE_ok h).2 with h1 | ⟨_, h2⟩
    · exact put_in h1
    · rw [fD_len] at h2; omega
  · rw [if_neg h]
theorem f_wd1 {k : Int} : wdE (fM k 200) ⟨(k + 1) % 8, 1⟩ = 6 ∧ wdL (fM k 200) ⟨(k + 1) % 8, 1⟩ = fM k 200 := by
  have hv : vM ⟨(k + 1) % 8, 1⟩ = true := by rw [vM_true]; simp only; omega
  have hno : (⟨(k + 1) % 8, 1⟩ : Mk) ∉ fM k 200 := fun h => by
    obtain ⟨j, _, e⟩ := fM_mem.1 h
    injection e with e1 e2
    omega
  have he : wdE (fM k 200) ⟨(k + 1) % 8, 1⟩ = 6 := by unfold wdE; rw [if_pos hv, if_neg hno, if_neg (by rw [fM_len]; decide)]
  exact ⟨he, by unfold wdL; rw [he, if_neg (by decide)]⟩
theorem f_wd2 {k : Int} (hk : 0 ≤ k ∧ k ≤ 7) : wdE (fM k 200) ⟨k, 200⟩ = 0 ∧ wdL (fM k 200) ⟨k, 200⟩ = fM k 200 := by
  have hv : vM ⟨k, 200⟩ = true := by rw [vM_true]; simp only; omega
  have hin : (⟨k, 200⟩ : Mk) ∈ fM k 200 := fM_mem.2 ⟨199, by decide, rfl⟩
  have he : wdE (fM k 200) ⟨k, 200⟩ = 0 := wdE_of hv (.inl hin)
  exact ⟨he, by unfold wdL; rw [if_pos he, put_in hin]⟩
theorem f_stand (k : Int) : stL (fX k 200) = [] := by
  unfold stL
  rw [List.filter_eq_nil_iff]
  intro x hx
  obtain ⟨j, hj, rfl⟩ := fD_mem.1 hx
  simp only [decide_eq_true_eq, Decidable.not_not]
  exact fM_mem.2 ⟨j, hj, rfl⟩
set_option maxHeartbeats 16000000 in
set_option maxRecDepth 100000 in
theorem fil_all (a : Int) (x : Dec) (w : World) (ha : 0 ≤ a ∧ a ≤ 255) : Calls Try.prog 4 #[.int .u8 a, .agg #[.int .i64 x.u, .int .i64 x.n, .int .i64 x.k, .int .i64 x.a, .int .i64 x.b]] w fun e w' => e = .returned (.bool true) ∧ Below w.heap.size w w' := by
  obtain ⟨k, hk⟩ : ∃ k : Int, a % 8 = k := ⟨_, rfl⟩
  have hk7 : 0 ≤ k ∧ k ≤ 7 := by omega
  have r1 : IntKind.i64.wrap a = a := IntWalk.i64_in _ (by omega)
  have r2 : a.tmod 8 = k := by rw [IntWalk.rem_in a 8 ha.1]; exact hk
  go_enter Try.func4, Try.ntmps4
  go_wp2_with fail
  generalize hW : w.alloc _ = W0
  obtain ⟨bx0, B0⟩ : Box W0 w.heap.size #[.int .i64 x.u, .int .i64 x.n, .int .i64 x.k, .int .i64 x.a, .int .i64 x.b] 31 ∧ Below w.heap.size w W0 := by
    subst hW
    exact ⟨newE _ _ _ rfl, (Below.refl _ _).alloc (Nat.le_refl _) _⟩
  clear hW
  refine (awake_yes W0).mono ?_
  rintro e w1 ⟨rfl, b1⟩
  have X1 := hide (bx0.below' b1)
  have E1 := hide (show Ext w.heap.size w w1 from ⟨Nat.le_refl _, Below.next B0 b1⟩)
  have E1' := hide (Ext.refl (B := w1.heap.size) (w := w1) (Nat.le_refl _))
  have L0 := hide (show Lot w1 w1.heap.size [] from Lot.nil_ (Nat.le_refl _))
  have hx1 := X1.out.lt
  clear b1 bx0 B0
  go_wp2_with fail
  refine (lot_new w1 _ [] L0.out).mono ?_
  rintro e w2 ⟨p, rfl, l2, x2⟩
  have L2 := hide (show Lot w2 w1.heap.size [.prog p (fX k 0)] from l2)
  have E2 := hide x2
  clear l2 x2 L0
  go_wp2_with fail
  go_loopw [7] (fun iv wr => ∃ i : Nat, iv = .int .i64 ((i : Int) + 1) ∧ i ≤ 200 ∧ Hid (Lot wr w1.heap.size [.prog p (fX k i)]) ∧ Hid (Ext w1.heap.size w1 wr)) (fun iv _ => (201 - RowKit.intOf iv).toNat)
  case atStart => exact ⟨0, rfl, by omega, L2, E2⟩
  case round =>
    obtain ⟨i, rfl, hi, HL, HE⟩ := hrel
    by_cases hlt : i < 200
    · have d0 : decide ((i : Int) + 1 ≤ 200) = true := decide_eq_true (by omega)
      have LA := hide (HL.out.keep ((Below.refl _ _).alloc (Nat.le_refl _) (.cells #[.int .i64 k, .int .i64 ((i : Int) + 1), .int .i64 3, .int .i64 1, .int .i64 2] 31)))
      have EA := hide (HE.out.alloc (.cells #[.int .i64 k, .int .i64 ((i : Int) + 1), .int .i64 3, .int .i64 1, .int .i64 2] 31))
      have i1 : IntKind.i64.wrap ((i : Int) + 1 + 1) = (i : Int) + 1 + 1 := IntWalk.i64_in _ (by omega)
      go_wp2_with fail
      refine (lot_make _ _ _ 0 p (fX k i) ⟨k, (i : Int) + 1, 3, 1, 2⟩ LA.out rfl).mono ?_
      rintro e w3 ⟨rfl, l3, x3⟩
      have L3 := hide (show Lot w3 w1.heap.size [.prog p ⟨fD k (i + 1), fM k i⟩] from by
        have := l3
        rw [show mkL (fX k i).d ⟨k, (i : Int) + 1, 3, 1, 2⟩ = fD k (i + 1) from (f_make hk7 hlt).2] at this
        exact this)
      have E3 := hide (EA.out.ext x3)
      rw [show mkE (fX k i).d ⟨k, (i : Int) + 1, 3, 1, 2⟩ = 0 from (f_make hk7 hlt).1]
      clear l3 x3 LA EA
      go_wp2_with fail
      refine (lot_wd w3 _ _ 0 p ⟨fD k (i + 1), fM k i⟩ ⟨k, (i : Int) + 1⟩ L3.out rfl).mono ?_
      rintro e w4 ⟨rfl, l4, x4⟩
      have L4 := hide (show Lot w4 w1.heap.size [.prog p (fX k (i + 1))] from by
        have := l4
        rw [show wdL (⟨fD k (i + 1), fM k i⟩ : Led).w ⟨k, (i : Int) + 1⟩ = fM k (i + 1) from (f_wd hk7 hlt).2] at this
        exact this)
      have E4 := hide (E3.out.ext x4)
      rw [show wdE (⟨fD k (i + 1), fM k i⟩ : Led).w ⟨k, (i : Int) + 1⟩ = 0 from (f_wd hk7 hlt).1]
      clear l4 x4 L3 E3
      go_wp2_with fail
      go_roundw
      case rel => exact ⟨i + 1, by go_num, by omega, L4, E4⟩
      case measure => simp [RowKit.intOf]; omega
    · obtain rfl : i = 200 := by omega
      have d0 : decide (((200 : Nat) : Int) + 1 ≤ 200) = false := by decide
      have CX := hide (fun (W : World) (h : Ext w1.heap.size w1 W) => show CellsD W w.heap.size 0 x from ⟨(h.2.cell (p := ⟨w.heap.size, 0, none⟩) hx1).trans (X1.out.at_ 0), (h.2.cell (p := ⟨w.heap.size, 1, none⟩) hx1).trans (X1.out.at_ 1), (h.2.cell (p := ⟨w.heap.size, 2, none⟩) hx1).trans (X1.out.at_ 2), (h.2.cell (p := ⟨w.heap.size, 3, none⟩) hx1).trans (X1.out.at_ 3), (h.2.cell (p := ⟨w.heap.size, 4, none⟩) hx1).trans (X1.out.at_ 4)⟩)
      obtain ⟨t0, t1, t2, t3, t4⟩ := CX.out wr HE.out
      have r3 : IntKind.i64.wrap (k + 1) = k + 1 := IntWalk.i64_in _ (by omega)
      have r4 : (k + 1).tmod 8 = (k + 1) % 8 := IntWalk.rem_in _ _ (by omega)
      by_cases hv : vD x = true
      · go_wp2_with fail
        refine (rvalid_any x wr true hv).mono ?_
        rintro e w5 ⟨rfl, g5⟩
        have E5 := hide (HE.out.gr g5)
        have L5 := hide (HL.out.gr g5)
        clear g5 t0 t1 t2 t3 t4
        obtain ⟨t0, t1, t2, t3, t4⟩ := CX.out w5 E5.out
        by_cases hu : x.u = k
        · have e3 : (x.u == k) = true := beq_iff_eq.2 hu
          have HU := hide hu
          clear hu
          by_cases hk3 : x.k = 3
          · have e4 : (x.k == 3) = true := beq_iff_eq.2 hk3
            have HK3 := hide hk3
            clear hk3
            by_cases ha1 : x.a = 1
            · have e5 : (x.a == 1) = true := beq_iff_eq.2 ha1
              have HA1 := hide ha1
              clear ha1
              by_cases hb2 : x.b = 2
              · have e6 : (x.b == 2) = true := beq_iff_eq.2 hb2
                have HB2 := hide hb2
                clear hb2
                go_wp2_with fail
                have R3 := hide (f_more (k := k) x)
                have HFE := hide (show fE k x = 0 from by unfold fE; rw [if_pos hv, if_pos HU.out, if_pos ⟨HK3.out, HA1.out, HB2.out⟩])
                refine (lot_make w5 _ _ 0 p (fX k 200) x L5.out rfl).mono ?_
                rintro e w6 ⟨rfl, l6, x6⟩
                have L6 := hide (show Lot w6 w1.heap.size [.prog p (fX k 200)] from by
                  have := l6
                  rw [show mkL (fX k 200).d x = fD k 200 from f_more_l x] at this
                  exact this)
                have E6 := hide (E5.out.ext x6)
                rw [show mkE (fX k 200).d x = 0 from by rw [← HFE.out]; exact R3.out]
                clear l6 x6 L5 t0 t1 t2 t3 t4
                go_wp2_with fail
                refine (lot_wd w6 _ _ 0 p (fX k 200) ⟨(k + 1) % 8, 1⟩ L6.out rfl).mono ?_
                rintro e w7 ⟨rfl, l7, x7⟩
                have L7 := hide (show Lot w7 w1.heap.size [.prog p (fX k 200)] from by
                  have := l7
                  rw [show wdL (fX k 200).w ⟨(k + 1) % 8, 1⟩ = fM k 200 from f_wd1.2] at this
                  exact this)
                have E7 := hide (E6.out.ext x7)
                rw [show wdE (fX k 200).w ⟨(k + 1) % 8, 1⟩ = 6 from f_wd1.1]
                clear l7 x7 L6 E6
                go_wp2_with fail
                refine (lot_wd w7 _ _ 0 p (fX k 200) ⟨k, 200⟩ L7.out rfl).mono ?_
                rintro e w8 ⟨rfl, l8, x8⟩
                have L8 := hide (show Lot w8 w1.heap.size [.prog p (fX k 200)] from by
                  have := l8
                  rw [show wdL (fX k 200).w ⟨k, 200⟩ = fM k 200 from (f_wd2 hk7).2] at this
                  exact this)
                have E8 := hide (E7.out.ext x8)
                rw [show wdE (fX k 200).w ⟨k, 200⟩ = 0 from (f_wd2 hk7).1]
                clear l8 x8 L7 E7
                go_wp2_with fail
                refine (lot_made w8 _ _ 0 p (fX k 200) L8.out rfl).mono ?_
                rintro e w9 ⟨A9, c9, rfl, -, l9, x9, -⟩
                rw [show (fX k 200).d.length = 200 from fD_len k 200]
                have E9 := hide (E8.out.ext x9)
                have L9 := hide l9
                clear l9 x9 L8 E8
                go_wp2_with fail
                refine (lot_withdrawn w9 _ _ 0 p (fX k 200) L9.out rfl).mono ?_
                rintro e w10 ⟨A10, c10, rfl, -, l10, x10, -⟩
                rw [show (fX k 200).w.length = 200 from fM_len k 200]
                have E10 := hide (E9.out.ext x10)
                have L10 := hide l10
                clear l10 x10 L9 E9
                go_wp2_with fail
                refine (lot_stand w10 _ _ 0 p (fX k 200) L10.out rfl).mono ?_
                rintro e w11 ⟨A11, c11, rfl, -, x11, -, -⟩
                rw [show (stL (fX k 200)).length = 0 from by rw [f_stand]; rfl]
                have E11 := hide (E10.out.ext x11)
                clear x11 L10 E10
                go_wp2_with fail
                go_ret
                exact ⟨rfl, (E1.out.2.trans (E11.out.2.mono E1.out.2.size))⟩
              · have e6 : (x.b == 2) = false := beq_eq_false_iff_ne.2 hb2
                have HB2 := hide hb2
                clear hb2
                go_wp2_with fail
                have R3 := hide (f_more (k := k) x)
                have HFE := hide (show fE k x = 10 from by unfold fE; rw [if_pos hv, if_pos HU.out, if_neg fun h => HB2.out h.2.2])
                refine (lot_make w5 _ _ 0 p (fX k 200) x L5.out rfl).mono ?_
                rintro e w6 ⟨rfl, l6, x6⟩
                have L6 := hide (show Lot w6 w1.heap.size [.prog p (fX k 200)] from by
                  have := l6
                  rw [show mkL (fX k 200).d x = fD k 200 from f_more_l x] at this
                  exact this)
                have E6 := hide (E5.out.ext x6)
                rw [show mkE (fX k 200).d x = 10 from by rw [← HFE.out]; exact R3.out]
                clear l6 x6 L5 t0 t1 t2 t3 t4
                go_wp2_with fail
                refine (lot_wd w6 _ _ 0 p (fX k 200) ⟨(k + 1) % 8, 1⟩ L6.out rfl).mono ?_
                rintro e w7 ⟨rfl, l7, x7⟩
                have L7 := hide (show Lot w7 w1.heap.size [.prog p (fX k 200)] from by
                  have := l7
                  rw [show wdL (fX k 200).w ⟨(k + 1) % 8, 1⟩ = fM k 200 from f_wd1.2] at this
                  exact this)
                have E7 := hide (E6.out.ext x7)
                rw [show wdE (fX k 200).w ⟨(k + 1) % 8, 1⟩ = 6 from f_wd1.1]
                clear l7 x7 L6 E6
                go_wp2_with fail
                refine (lot_wd w7 _ _ 0 p (fX k 200) ⟨k, 200⟩ L7.out rfl).mono ?_
                rintro e w8 ⟨rfl, l8, x8⟩
                have L8 := hide (show Lot w8 w1.heap.size [.prog p (fX k 200)] from by
                  have := l8
                  rw [show wdL (fX k 200).w ⟨k, 200⟩ = fM k 200 from (f_wd2 hk7).2] at this
                  exact this)
                have E8 := hide (E7.out.ext x8)
                rw [show wdE (fX k 200).w ⟨k, 200⟩ = 0 from (f_wd2 hk7).1]
                clear l8 x8 L7 E7
                go_wp2_with fail
                refine (lot_made w8 _ _ 0 p (fX k 200) L8.out rfl).mono ?_
                rintro e w9 ⟨A9, c9, rfl, -, l9, x9, -⟩
                rw [show (fX k 200).d.length = 200 from fD_len k 200]
                have E9 := hide (E8.out.ext x9)
                have L9 := hide l9
                clear l9 x9 L8 E8
                go_wp2_with fail
                refine (lot_withdrawn w9 _ _ 0 p (fX k 200) L9.out rfl).mono ?_
                rintro e w10 ⟨A10, c10, rfl, -, l10, x10, -⟩
                rw [show (fX k 200).w.length = 200 from fM_len k 200]
                have E10 := hide (E9.out.ext x10)
                have L10 := hide l10
                clear l10 x10 L9 E9
                go_wp2_with fail
                refine (lot_stand w10 _ _ 0 p (fX k 200) L10.out rfl).mono ?_
                rintro e w11 ⟨A11, c11, rfl, -, x11, -, -⟩
                rw [show (stL (fX k 200)).length = 0 from by rw [f_stand]; rfl]
                have E11 := hide (E10.out.ext x11)
                clear x11 L10 E10
                go_wp2_with fail
                go_ret
                exact ⟨rfl, (E1.out.2.trans (E11.out.2.mono E1.out.2.size))⟩
            · have e5 : (x.a == 1) = false := beq_eq_false_iff_ne.2 ha1
              have HA1 := hide ha1
              clear ha1
              go_wp2_with fail
              have R3 := hide (f_more (k := k) x)
              have HFE := hide (show fE k x = 10 from by unfold fE; rw [if_pos hv, if_pos HU.out, if_neg fun h => HA1.out h.2.1])
              refine (lot_make w5 _ _ 0 p (fX k 200) x L5.out rfl).mono ?_
              rintro e w6 ⟨rfl, l6, x6⟩
              have L6 := hide (show Lot w6 w1.heap.size [.prog p (fX k 200)] from by
                have := l6
                rw [show mkL (fX k 200).d x = fD k 200 from f_more_l x] at this
                exact this)
              have E6 := hide (E5.out.ext x6)
              rw [show mkE (fX k 200).d x = 10 from by rw [← HFE.out]; exact R3.out]
              clear l6 x6 L5 t0 t1 t2 t3 t4
              go_wp2_with fail
              refine (lot_wd w6 _ _ 0 p (fX k 200) ⟨(k + 1) % 8, 1⟩ L6.out rfl).mono ?_
              rintro e w7 ⟨rfl, l7, x7⟩
              have L7 := hide (show Lot w7 w1.heap.size [.prog p (fX k 200)] from by
                have := l7
                rw [show wdL (fX k 200).w ⟨(k + 1) % 8, 1⟩ = fM k 200 from f_wd1.2] at this
                exact this)
              have E7 := hide (E6.out.ext x7)
              rw [show wdE (fX k 200).w ⟨(k + 1) % 8, 1⟩ = 6 from f_wd1.1]
              clear l7 x7 L6 E6
              go_wp2_with fail
              refine (lot_wd w7 _ _ 0 p (fX k 200) ⟨k, 200⟩ L7.out rfl).mono ?_
              rintro e w8 ⟨rfl, l8, x8⟩
              have L8 := hide (show Lot w8 w1.heap.size [.prog p (fX k 200)] from by
                have := l8
                rw [show wdL (fX k 200).w ⟨k, 200⟩ = fM k 200 from (f_wd2 hk7).2] at this
                exact this)
              have E8 := hide (E7.out.ext x8)
              rw [show wdE (fX k 200).w ⟨k, 200⟩ = 0 from (f_wd2 hk7).1]
              clear l8 x8 L7 E7
              go_wp2_with fail
              refine (lot_made w8 _ _ 0 p (fX k 200) L8.out rfl).mono ?_
              rintro e w9 ⟨A9, c9, rfl, -, l9, x9, -⟩
              rw [show (fX k 200).d.length = 200 from fD_len k 200]
              have E9 := hide (E8.out.ext x9)
              have L9 := hide l9
              clear l9 x9 L8 E8
              go_wp2_with fail
              refine (lot_withdrawn w9 _ _ 0 p (fX k 200) L9.out rfl).mono ?_
              rintro e w10 ⟨A10, c10, rfl, -, l10, x10, -⟩
              rw [show (fX k 200).w.length = 200 from fM_len k 200]
              have E10 := hide (E9.out.ext x10)
              have L10 := hide l10
              clear l10 x10 L9 E9
              go_wp2_with fail
              refine (lot_stand w10 _ _ 0 p (fX k 200) L10.out rfl).mono ?_
              rintro e w11 ⟨A11, c11, rfl, -, x11, -, -⟩
              rw [show (stL (fX k 200)).length = 0 from by rw [f_stand]; rfl]
              have E11 := hide (E10.out.ext x11)
              clear x11 L10 E10
              go_wp2_with fail
              go_ret
              exact ⟨rfl, (E1.out.2.trans (E11.out.2.mono E1.out.2.size))⟩
          · have e4 : (x.k == 3) = false := beq_eq_false_iff_ne.2 hk3
            have HK3 := hide hk3
            clear hk3
            go_wp2_with fail
            have R3 := hide (f_more (k := k) x)
            have HFE := hide (show fE k x = 10 from by unfold fE; rw [if_pos hv, if_pos HU.out, if_neg fun h => HK3.out h.1])
            refine (lot_make w5 _ _ 0 p (fX k 200) x L5.out rfl).mono ?_
            rintro e w6 ⟨rfl, l6, x6⟩
            have L6 := hide (show Lot w6 w1.heap.size [.prog p (fX k 200)] from by
              have := l6
              rw [show mkL (fX k 200).d x = fD k 200 from f_more_l x] at this
              exact this)
            have E6 := hide (E5.out.ext x6)
            rw [show mkE (fX k 200).d x = 10 from by rw [← HFE.out]; exact R3.out]
            clear l6 x6 L5 t0 t1 t2 t3 t4
            go_wp2_with fail
            refine (lot_wd w6 _ _ 0 p (fX k 200) ⟨(k + 1) % 8, 1⟩ L6.out rfl).mono ?_
            rintro e w7 ⟨rfl, l7, x7⟩
            have L7 := hide (show Lot w7 w1.heap.size [.prog p (fX k 200)] from by
              have := l7
              rw [show wdL (fX k 200).w ⟨(k + 1) % 8, 1⟩ = fM k 200 from f_wd1.2] at this
              exact this)
            have E7 := hide (E6.out.ext x7)
            rw [show wdE (fX k 200).w ⟨(k + 1) % 8, 1⟩ = 6 from f_wd1.1]
            clear l7 x7 L6 E6
            go_wp2_with fail
            refine (lot_wd w7 _ _ 0 p (fX k 200) ⟨k, 200⟩ L7.out rfl).mono ?_
            rintro e w8 ⟨rfl, l8, x8⟩
            have L8 := hide (show Lot w8 w1.heap.size [.prog p (fX k 200)] from by
              have := l8
              rw [show wdL (fX k 200).w ⟨k, 200⟩ = fM k 200 from (f_wd2 hk7).2] at this
              exact this)
            have E8 := hide (E7.out.ext x8)
            rw [show wdE (fX k 200).w ⟨k, 200⟩ = 0 from (f_wd2 hk7).1]
            clear l8 x8 L7 E7
            go_wp2_with fail
            refine (lot_made w8 _ _ 0 p (fX k 200) L8.out rfl).mono ?_
            rintro e w9 ⟨A9, c9, rfl, -, l9, x9, -⟩
            rw [show (fX k 200).d.length = 200 from fD_len k 200]
            have E9 := hide (E8.out.ext x9)
            have L9 := hide l9
            clear l9 x9 L8 E8
            go_wp2_with fail
            refine (lot_withdrawn w9 _ _ 0 p (fX k 200) L9.out rfl).mono ?_
            rintro e w10 ⟨A10, c10, rfl, -, l10, x10, -⟩
            rw [show (fX k 200).w.length = 200 from fM_len k 200]
            have E10 := hide (E9.out.ext x10)
            have L10 := hide l10
            clear l10 x10 L9 E9
            go_wp2_with fail
            refine (lot_stand w10 _ _ 0 p (fX k 200) L10.out rfl).mono ?_
            rintro e w11 ⟨A11, c11, rfl, -, x11, -, -⟩
            rw [show (stL (fX k 200)).length = 0 from by rw [f_stand]; rfl]
            have E11 := hide (E10.out.ext x11)
            clear x11 L10 E10
            go_wp2_with fail
            go_ret
            exact ⟨rfl, (E1.out.2.trans (E11.out.2.mono E1.out.2.size))⟩
        · have e3 : (x.u == k) = false := beq_eq_false_iff_ne.2 hu
          have HU := hide hu
          clear hu
          go_wp2_with fail
          have R3 := hide (f_more (k := k) x)
          have HFE := hide (show fE k x = 6 from by unfold fE; rw [if_pos hv, if_neg HU.out])
          refine (lot_make w5 _ _ 0 p (fX k 200) x L5.out rfl).mono ?_
          rintro e w6 ⟨rfl, l6, x6⟩
          have L6 := hide (show Lot w6 w1.heap.size [.prog p (fX k 200)] from by
            have := l6
            rw [show mkL (fX k 200).d x = fD k 200 from f_more_l x] at this
            exact this)
          have E6 := hide (E5.out.ext x6)
          rw [show mkE (fX k 200).d x = 6 from by rw [← HFE.out]; exact R3.out]
          clear l6 x6 L5 t0 t1 t2 t3 t4
          go_wp2_with fail
          refine (lot_wd w6 _ _ 0 p (fX k 200) ⟨(k + 1) % 8, 1⟩ L6.out rfl).mono ?_
          rintro e w7 ⟨rfl, l7, x7⟩
          have L7 := hide (show Lot w7 w1.heap.size [.prog p (fX k 200)] from by
            have := l7
            rw [show wdL (fX k 200).w ⟨(k + 1) % 8, 1⟩ = fM k 200 from f_wd1.2] at this
            exact this)
          have E7 := hide (E6.out.ext x7)
          rw [show wdE (fX k 200).w ⟨(k + 1) % 8, 1⟩ = 6 from f_wd1.1]
          clear l7 x7 L6 E6
          go_wp2_with fail
          refine (lot_wd w7 _ _ 0 p (fX k 200) ⟨k, 200⟩ L7.out rfl).mono ?_
          rintro e w8 ⟨rfl, l8, x8⟩
          have L8 := hide (show Lot w8 w1.heap.size [.prog p (fX k 200)] from by
            have := l8
            rw [show wdL (fX k 200).w ⟨k, 200⟩ = fM k 200 from (f_wd2 hk7).2] at this
            exact this)
          have E8 := hide (E7.out.ext x8)
          rw [show wdE (fX k 200).w ⟨k, 200⟩ = 0 from (f_wd2 hk7).1]
          clear l8 x8 L7 E7
          go_wp2_with fail
          refine (lot_made w8 _ _ 0 p (fX k 200) L8.out rfl).mono ?_
          rintro e w9 ⟨A9, c9, rfl, -, l9, x9, -⟩
          rw [show (fX k 200).d.length = 200 from fD_len k 200]
          have E9 := hide (E8.out.ext x9)
          have L9 := hide l9
          clear l9 x9 L8 E8
          go_wp2_with fail
          refine (lot_withdrawn w9 _ _ 0 p (fX k 200) L9.out rfl).mono ?_
          rintro e w10 ⟨A10, c10, rfl, -, l10, x10, -⟩
          rw [show (fX k 200).w.length = 200 from fM_len k 200]
          have E10 := hide (E9.out.ext x10)
          have L10 := hide l10
          clear l10 x10 L9 E9
          go_wp2_with fail
          refine (lot_stand w10 _ _ 0 p (fX k 200) L10.out rfl).mono ?_
          rintro e w11 ⟨A11, c11, rfl, -, x11, -, -⟩
          rw [show (stL (fX k 200)).length = 0 from by rw [f_stand]; rfl]
          have E11 := hide (E10.out.ext x11)
          clear x11 L10 E10
          go_wp2_with fail
          go_ret
          exact ⟨rfl, (E1.out.2.trans (E11.out.2.mono E1.out.2.size))⟩
      · go_wp2_with fail
        refine (rvalid_any x wr false (Bool.eq_false_iff.2 hv)).mono ?_
        rintro e w5 ⟨rfl, g5⟩
        have E5 := hide (HE.out.gr g5)
        have L5 := hide (HL.out.gr g5)
        clear g5 t0 t1 t2 t3 t4
        obtain ⟨t0, t1, t2, t3, t4⟩ := CX.out w5 E5.out
        go_wp2_with fail
        have R3 := hide (f_more (k := k) x)
        have HFE := hide (show fE k x = 1 from by unfold fE; rw [if_neg hv])
        refine (lot_make w5 _ _ 0 p (fX k 200) x L5.out rfl).mono ?_
        rintro e w6 ⟨rfl, l6, x6⟩
        have L6 := hide (show Lot w6 w1.heap.size [.prog p (fX k 200)] from by
          have := l6
          rw [show mkL (fX k 200).d x = fD k 200 from f_more_l x] at this
          exact this)
        have E6 := hide (E5.out.ext x6)
        rw [show mkE (fX k 200).d x = 1 from by rw [← HFE.out]; exact R3.out]
        clear l6 x6 L5 t0 t1 t2 t3 t4
        go_wp2_with fail
        refine (lot_wd w6 _ _ 0 p (fX k 200) ⟨(k + 1) % 8, 1⟩ L6.out rfl).mono ?_
        rintro e w7 ⟨rfl, l7, x7⟩
        have L7 := hide (show Lot w7 w1.heap.size [.prog p (fX k 200)] from by
          have := l7
          rw [show wdL (fX k 200).w ⟨(k + 1) % 8, 1⟩ = fM k 200 from f_wd1.2] at this
          exact this)
        have E7 := hide (E6.out.ext x7)
        rw [show wdE (fX k 200).w ⟨(k + 1) % 8, 1⟩ = 6 from f_wd1.1]
        clear l7 x7 L6 E6
        go_wp2_with fail
        refine (lot_wd w7 _ _ 0 p (fX k 200) ⟨k, 200⟩ L7.out rfl).mono ?_
        rintro e w8 ⟨rfl, l8, x8⟩
        have L8 := hide (show Lot w8 w1.heap.size [.prog p (fX k 200)] from by
          have := l8
          rw [show wdL (fX k 200).w ⟨k, 200⟩ = fM k 200 from (f_wd2 hk7).2] at this
          exact this)
        have E8 := hide (E7.out.ext x8)
        rw [show wdE (fX k 200).w ⟨k, 200⟩ = 0 from (f_wd2 hk7).1]
        clear l8 x8 L7 E7
        go_wp2_with fail
        refine (lot_made w8 _ _ 0 p (fX k 200) L8.out rfl).mono ?_
        rintro e w9 ⟨A9, c9, rfl, -, l9, x9, -⟩
        rw [show (fX k 200).d.length = 200 from fD_len k 200]
        have E9 := hide (E8.out.ext x9)
        have L9 := hide l9
        clear l9 x9 L8 E8
        go_wp2_with fail
        refine (lot_withdrawn w9 _ _ 0 p (fX k 200) L9.out rfl).mono ?_
        rintro e w10 ⟨A10, c10, rfl, -, l10, x10, -⟩
        rw [show (fX k 200).w.length = 200 from fM_len k 200]
        have E10 := hide (E9.out.ext x10)
        have L10 := hide l10
        clear l10 x10 L9 E9
        go_wp2_with fail
        refine (lot_stand w10 _ _ 0 p (fX k 200) L10.out rfl).mono ?_
        rintro e w11 ⟨A11, c11, rfl, -, x11, -, -⟩
        rw [show (stL (fX k 200)).length = 0 from by rw [f_stand]; rfl]
        have E11 := hide (E10.out.ext x11)
        clear x11 L10 E10
        go_wp2_with fail
        go_ret
        exact ⟨rfl, (E1.out.2.trans (E11.out.2.mono E1.out.2.size))⟩
end Go.Proofs.Ytalbdclcappjpaa
