/- DecisionWithdraws. -/
import Derived.Test.YtalbdclcappjpaaOA
namespace Go.Proofs.Ytalbdclcappjpaa
open Go Go.RowKit Go.Lib
theorem AR.up {w : World} {B B' n : Nat} {A : Option Addr} {ops : List Opr} (h : AR w B A n ops) (hb : B ≤ B') : AR w B' A n ops := ⟨h.1, fun hn g hg => Nat.lt_of_lt_of_le (h.2 hn g hg) hb⟩
theorem filter_at {α : Type} (p : α → Bool) : ∀ (l : List α) (i : Nat) (y : α), l[i]? = some y → p y = true → (l.filter p)[((l.take i).filter p).length]? = some y
  | [], i, y, h, _ => by simp at h
  | x :: l, 0, y, h, hp => by
    simp at h
    subst h
    rw [List.take_zero, List.filter_cons_of_pos hp]
    rfl
  | x :: l, i + 1, y, h, hp => by
    have ih := filter_at p l i y (by simpa using h) hp
    rw [List.take_succ_cons]
    by_cases hx : p x = true
    · rw [List.filter_cons_of_pos hx, List.filter_cons_of_pos hx]
      simpa using ih
    · rw [List.filter_cons_of_neg hx, List.filter_cons_of_neg hx]
      exact ih
theorem filter_next {α : Type} (p : α → Bool) {l : List α} {i : Nat} {y : α} (h : l[i]? = some y) : ((l.take (i + 1)).filter p).length = ((l.take i).filter p).length + (if p y = true then 1 else 0) := by
  rw [take_next h, List.filter_append, List.length_append]
  by_cases hp : p y = true
  · rw [if_pos hp, List.filter_cons_of_pos hp]; rfl
  · rw [if_neg hp, List.filter_cons_of_neg hp]; rfl
/-- which stay -/
def stays (e : Int) (m : Mk) (x : Dec) : Bool := !(decide (e = 0) && (decide (x.u = m.u) && decide (x.n = m.n)))
theorem stays_st {s : Led} {m : Mk} : stL ⟨s.d, wdL s.w m⟩ = (stL s).filter (stays (wdE s.w m) m) := by
  by_cases h : wdE s.w m = 0
  · rw [stL_wd h]
    congr 1
    funext x
    have hm : x.mk_ = m ↔ (x.u = m.u ∧ x.n = m.n) := by
      cases m with
      | mk mu mn =>
        constructor
        · intro e; injection e with a b; exact ⟨a, b⟩
        · rintro ⟨a, b⟩; unfold Dec.mk_; rw [show x.u = mu from a, show x.n = mn from b]
    unfold stays
    rw [decide_eq_true h, Bool.true_and, ← Bool.decide_and, ← decide_not]
    exact decide_eq_decide.2 (not_congr hm)
  · have e1 : wdL s.w m = s.w := by unfold wdL; rw [if_neg h]
    rw [e1]
    symm
    rw [List.filter_eq_self]
    intro x _
    unfold stays
    rw [decide_eq_false h]
    rfl
set_option maxHeartbeats 4000000 in
set_option maxRecDepth 100000 in
theorem wit_few (A0 : Option Addr) (n0 c0 : Nat) (m : Mk) (w : World) (h0 : ¬ n0 ≤ 60) : Calls Try.prog 7 #[.slice A0 n0 c0, .agg #[.int .i64 m.u, .int .i64 m.n]] w fun e w' => e = .returned (.bool true) ∧ Below w.heap.size w w' := by
  go_enter Try.func7, Try.ntmps7
  go_wp2_with fail
  generalize hW : w.alloc _ = W0
  obtain ⟨bx0, B0⟩ : Box W0 w.heap.size #[.int .i64 m.u, .int .i64 m.n] 33 ∧ Below w.heap.size w W0 := by
    subst hW
    exact ⟨newE _ _ _ rfl, (Below.refl _ _).alloc (Nat.le_refl _) _⟩
  clear hW
  refine (awake_yes W0).mono ?_
  rintro e w1 ⟨rfl, b1⟩
  have X1 := hide (bx0.below' b1)
  have E1 := hide (show Ext w.heap.size w w1 from ⟨Nat.le_refl _, Below.next B0 b1⟩)
  have hx1 := X1.out.lt
  clear b1 bx0 B0
  go_wp2_with fail
  refine (few_any A0 n0 c0 w1 false (decide_eq_false h0)).mono ?_
  rintro e w2 ⟨rfl, rfl⟩
  go_wp2_with fail
  refine (awake_yes w1).mono ?_
  rintro e w2 ⟨rfl, b2⟩
  have B2 := hide (Below.next E1.out.2 b2)
  clear b2
  go_wp2_with fail
  go_ret
  exact ⟨rfl, B2.out⟩
set_option maxHeartbeats 16000000 in
set_option maxRecDepth 100000 in
theorem wit_main (A0 : Option Addr) (n0 c0 : Nat) (ops0 : List Opr) (m : Mk) (w : World) (ha0 : AR w w.heap.size A0 n0 ops0) (h0 : n0 ≤ 60) : Calls Try.prog 7 #[.slice A0 n0 c0, .agg #[.int .i64 m.u, .int .i64 m.n]] w fun e w' => e = .returned (.bool true) ∧ Below w.heap.size w w' := by
  have HA0 := hide ha0
  clear ha0
  go_enter Try.func7, Try.ntmps7
  go_wp2_with fail
  generalize hW : w.alloc _ = W0
  obtain ⟨bx0, B0⟩ : Box W0 w.heap.size #[.int .i64 m.u, .int .i64 m.n] 33 ∧ Below w.heap.size w W0 := by
    subst hW
    exact ⟨newE _ _ _ rfl, (Below.refl _ _).alloc (Nat.le_refl _) _⟩
  clear hW
  refine (awake_yes W0).mono ?_
  rintro e w1 ⟨rfl, b1⟩
  have X1 := hide (bx0.below' b1)
  have E1 := hide (show Ext w.heap.size w w1 from ⟨Nat.le_refl _, Below.next B0 b1⟩)
  have hx1 := X1.out.lt
  clear b1 bx0 B0
  go_wp2_with fail
  refine (few_any A0 n0 c0 w1 true (decide_eq_true h0)).mono ?_
  rintro e w2 ⟨rfl, rfl⟩
  go_wp2_with fail
  have L0 := hide (show Lot w1 w1.heap.size [] from Lot.nil_ (Nat.le_refl _))
  refine (mades_any A0 n0 c0 ops0 w1 _ [] L0.out ((HA0.out.ext E1.out).up E1.out.size) h0).mono ?_
  rintro e w2 ⟨p, rfl, l2, x2⟩
  obtain ⟨s, hs⟩ : ∃ s, runL ops0 = s := ⟨_, rfl⟩
  have KO := hide (show s.Ok from hs ▸ runL_ok ops0)
  have L2 := hide (show Lot w2 w1.heap.size [.prog p s] from hs ▸ l2)
  have E2 := hide x2
  clear l2 x2 L0 hs
  go_wp2_with fail
  refine (lot_stand w2 _ _ 0 p s L2.out rfl).mono ?_
  rintro e w3 ⟨A5, c5, rfl, l3, x3, hc5, -⟩
  have L3 := hide (show Lot w3 w1.heap.size [.prog p s, .row A5 (stL s)] from l3)
  have E3 := hide (E2.out.ext x3)
  clear l3 x3 L2 E2
  obtain ⟨t0, t1⟩ := (show CellsM w3 w.heap.size 0 m from ⟨(E3.out.2.cell (p := ⟨w.heap.size, 0, none⟩) hx1).trans (X1.out.at_ 0), (E3.out.2.cell (p := ⟨w.heap.size, 1, none⟩) hx1).trans (X1.out.at_ 1)⟩)
  go_wp2_with fail
  refine (lot_wd w3 _ _ 0 p s m L3.out rfl).mono ?_
  rintro e w4 ⟨rfl, l4, x4⟩
  have HST := hide (stays_st (s := s) (m := m))
  have hok4 : (⟨s.d, wdL s.w m⟩ : Led).Ok := ⟨KO.out.1, KO.out.2.1, KO.out.2.2.1, wdL_ok KO.out.2.2.2.1 KO.out.2.2.2.2.1 KO.out.2.2.2.2.2⟩
  have L4 := hide (show Lot w4 w1.heap.size [.prog p ⟨s.d, wdL s.w m⟩, .row A5 (stL s)] from l4)
  have E4 := hide (E3.out.ext x4)
  obtain ⟨v, hv⟩ : ∃ v, wdE s.w m = v := ⟨_, rfl⟩
  obtain ⟨ms, hms⟩ : ∃ ms, wdL s.w m = ms := ⟨_, rfl⟩
  rw [hv] at HST ⊢
  rw [hms] at HST L4 hok4
  have KO4 := hide hok4
  clear l4 x4 L3 E3 hv hms t0 t1 hok4
  go_wp2_with fail
  refine (lot_stand w4 _ _ 0 p ⟨s.d, ms⟩ L4.out rfl).mono ?_
  rintro e w5 ⟨A6, c6, rfl, l5, x5, hc6, -⟩
  have L5 := hide (show Lot w5 w1.heap.size [.prog p ⟨s.d, ms⟩, .row A5 (stL s), .row A6 (stL ⟨s.d, ms⟩)] from l5)
  have E5 := hide (E4.out.ext x5)
  clear l5 x5 L4 E4
  obtain ⟨F1, r1⟩ := L5.out.get (i := 1) rfl
  obtain ⟨F2, r2⟩ := L5.out.get (i := 2) rfl
  have RB := hide r1.1
  have RA := hide r2.1
  have NOT := hide (show ∀ x ∈ stL ⟨s.d, ms⟩, x.mk_ ∉ ms from fun x hx => of_decide_eq_true (List.mem_filter.1 hx).2)
  have LEN := hide (show (stL ⟨s.d, ms⟩).length ≤ s.d.length from stL_len _)
  obtain ⟨bef, hbef⟩ : ∃ l, stL s = l := ⟨_, rfl⟩
  obtain ⟨aft, haft⟩ : ∃ l, stL ⟨s.d, ms⟩ = l := ⟨_, rfl⟩
  have hbl : bef.length ≤ 200 := by rw [← hbef]; exact Nat.le_trans (stL_len s) KO.out.2.2.1
  rw [hbef] at RB HST L5 ⊢
  rw [haft] at RA HST L5 NOT LEN ⊢
  obtain ⟨nb, hnb⟩ : ∃ n, bef.length = n := ⟨_, rfl⟩
  obtain ⟨na, hna⟩ : ∃ n, aft.length = n := ⟨_, rfl⟩
  have HNB := hide hnb
  have HNA := hide hna
  rw [hnb] at RB hbl ⊢
  rw [hna] at RA LEN ⊢
  have hln := LEN.out
  have hds := KO.out.2.2.1
  clear r1 r2 hbef haft hnb hna
  have CM := hide (fun (W : World) (h : Gr w5 W) => show CellsM W w.heap.size 0 m from ⟨((E5.out.gr h).2.cell (p := ⟨w.heap.size, 0, none⟩) hx1).trans (X1.out.at_ 0), ((E5.out.gr h).2.cell (p := ⟨w.heap.size, 1, none⟩) hx1).trans (X1.out.at_ 1)⟩)
  go_wp2_with fail
  go_loopw [10, 11] (fun kv iv wr => ∃ i : Nat, iv = .int .i64 (i : Int) ∧ i ≤ nb ∧ kv = .int .i64 ((((bef.take i).filter (stays v m)).length : Nat) : Int) ∧ Hid (Gr w5 wr)) (fun _ iv _ => nb - (RowKit.intOf iv).toNat)
  case atStart => exact ⟨0, rfl, Nat.zero_le _, rfl, hide (Gr.refl _)⟩
  case round =>
    obtain ⟨i, rfl, hi, rfl, HG⟩ := hrel
    obtain ⟨k, hk⟩ : ∃ k, ((bef.take i).filter (stays v m)).length = k := ⟨_, rfl⟩
    have HK := hide hk
    rw [hk]
    by_cases hlt : i < nb
    · obtain ⟨bb, ob, y, rfl, hl, hy, -⟩ := RB.out.atD hlt
      have HY := hide hy
      have CB := hide (fun (W : World) (h : Gr w5 W) => show CellsD W bb (ob + i * 5) y from (RB.out.keep h.below).cellsD HY.out)
      have FN := hide (filter_next (stays v m) hy)
      have FA := hide (filter_at (stays v m) _ _ _ hy)
      rw [hk] at FN FA
      rw [← HST.out] at FA
      have hkn : k ≤ 200 := by
        rw [← hk]
        refine Nat.le_trans (List.length_filter_le _ _) ?_
        rw [List.length_take]
        omega
      have d0 : decide ((i : Int) < (nb : Int)) = true := decide_eq_true (by omega)
      have a1 : (0 : Int) ≤ (i : Int) := by omega
      have a2 : (i : Int) < (nb : Int) := by omega
      obtain ⟨t0, t1⟩ := CM.out wr HG.out
      obtain ⟨k0, k1, -, -, -⟩ := CB.out wr HG.out
      clear hy hk hl
      cases hst : stays v m y with
      | false =>
        have h1 : v = 0 ∧ y.u = m.u ∧ y.n = m.n := by
          unfold stays at hst
          simpa using hst
        have e1 : (v == 0) = true := beq_iff_eq.2 h1.1
        have e2 : (y.u == m.u) = true := beq_iff_eq.2 h1.2.1
        have e3 : (y.n == m.n) = true := beq_iff_eq.2 h1.2.2
        have HK1 := hide (show ((bef.take (i + 1)).filter (stays v m)).length = k by rw [FN.out, if_neg (by rw [hst]; decide)]; rfl)
        clear h1 hst
        go_wp2_with fail
        go_region
        all_goals
          go_wp2_with fail
          go_roundw
          case rel => exact ⟨i + 1, by go_num, by omega, by rw [HK1.out], hide (HG.out.trans (by ((repeat (first | (with_reducible assumption) | (with_reducible exact Gr.refl _) | (with_reducible refine Gr.drew ?_) | (with_reducible refine Gr.alloc ?_ _) | (with_reducible refine Gr.trans ?_ (by assumption)))); (first | done | fail))))⟩
          case measure => simp [RowKit.intOf]; omega
      | true =>
        have hat := FA.out hst
        have hka : k < na := by rw [← HNA.out]; exact (List.getElem?_eq_some_iff.1 hat).1
        have HAT := hide hat
        obtain ⟨ba, oa, y', rfl, hl', hy', -⟩ := RA.out.atD hka
        obtain rfl : y' = y := by rw [hat] at hy'; injection hy' with hy'; exact hy'.symm
        have CA := hide (fun (W : World) (h : Gr w5 W) => show CellsD W ba (oa + k * 5) y' from (RA.out.keep h.below).cellsD HAT.out)
        have HK1 := hide (show ((bef.take (i + 1)).filter (stays v m)).length = k + 1 by rw [FN.out, if_pos hst])
        have h1 : ¬ (v = 0 ∧ y'.u = m.u ∧ y'.n = m.n) := by
          intro h
          unfold stays at hst
          simp [h.1, h.2.1, h.2.2] at hst
        clear hat hy' hl' hst
        by_cases hv0 : v = 0
        · have e1 : (v == 0) = true := beq_iff_eq.2 hv0
          by_cases hu : y'.u = m.u
          · have e2 : (y'.u == m.u) = true := beq_iff_eq.2 hu
            have e3 : (y'.n == m.n) = false := beq_eq_false_iff_ne.2 fun hn => h1 ⟨hv0, hu, hn⟩
            clear h1 hv0 hu
            go_wp2_with fail
            go_region
            all_goals
              have d5 : ¬ (na ≤ k) := by omega
              have d8 : ¬ ((na : Int) ≤ (k : Int)) := by omega
              have d6 : (k : Int) < (na : Int) := by omega
              have d7 : (0 : Int) ≤ (k : Int) := by omega
              have e0 := fun (w : World) => eqD_run y' y' w true (decide_eq_true rfl)
              obtain ⟨n0_, n1_, n2_, n3_, n4_⟩ := CA.out _ (HG.out.trans (by ((repeat (first | (with_reducible assumption) | (with_reducible exact Gr.refl _) | (with_reducible refine Gr.drew ?_) | (with_reducible refine Gr.alloc ?_ _) | (with_reducible refine Gr.trans ?_ (by assumption)))); (first | done | fail))))
              obtain ⟨m0_, m1_, m2_, m3_, m4_⟩ := CB.out _ (HG.out.trans (by ((repeat (first | (with_reducible assumption) | (with_reducible exact Gr.refl _) | (with_reducible refine Gr.drew ?_) | (with_reducible refine Gr.alloc ?_ _) | (with_reducible refine Gr.trans ?_ (by assumption)))); (first | done | fail))))
              clear t0 t1 k0 k1
              go_wp2_with fail
              go_region
              all_goals
                go_wp2_with fail
                go_roundw
                case rel => exact ⟨i + 1, by go_num, by omega, by rw [HK1.out]; go_num, hide (HG.out.trans (by ((repeat (first | (with_reducible assumption) | (with_reducible exact Gr.refl _) | (with_reducible refine Gr.drew ?_) | (with_reducible refine Gr.alloc ?_ _) | (with_reducible refine Gr.trans ?_ (by assumption)))); (first | done | fail))))⟩
                case measure => simp [RowKit.intOf]; omega
          · have e2 : (y'.u == m.u) = false := beq_eq_false_iff_ne.2 hu
            clear h1 hv0 hu
            go_wp2_with fail
            go_region
            all_goals
              have d5 : ¬ (na ≤ k) := by omega
              have d8 : ¬ ((na : Int) ≤ (k : Int)) := by omega
              have d6 : (k : Int) < (na : Int) := by omega
              have d7 : (0 : Int) ≤ (k : Int) := by omega
              have e0 := fun (w : World) => eqD_run y' y' w true (decide_eq_true rfl)
              obtain ⟨n0_, n1_, n2_, n3_, n4_⟩ := CA.out _ (HG.out.trans (by ((repeat (first | (with_reducible assumption) | (with_reducible exact Gr.refl _) | (with_reducible refine Gr.drew ?_) | (with_reducible refine Gr.alloc ?_ _) | (with_reducible refine Gr.trans ?_ (by assumption)))); (first | done | fail))))
              obtain ⟨m0_, m1_, m2_, m3_, m4_⟩ := CB.out _ (HG.out.trans (by ((repeat (first | (with_reducible assumption) | (with_reducible exact Gr.refl _) | (with_reducible refine Gr.drew ?_) | (with_reducible refine Gr.alloc ?_ _) | (with_reducible refine Gr.trans ?_ (by assumption)))); (first | done | fail))))
              clear t0 t1 k0 k1
              go_wp2_with fail
              go_region
              all_goals
                go_wp2_with fail
                go_roundw
                case rel => exact ⟨i + 1, by go_num, by omega, by rw [HK1.out]; go_num, hide (HG.out.trans (by ((repeat (first | (with_reducible assumption) | (with_reducible exact Gr.refl _) | (with_reducible refine Gr.drew ?_) | (with_reducible refine Gr.alloc ?_ _) | (with_reducible refine Gr.trans ?_ (by assumption)))); (first | done | fail))))⟩
                case measure => simp [RowKit.intOf]; omega
        · have e1 : (v == 0) = false := beq_eq_false_iff_ne.2 hv0
          clear h1 hv0
          go_wp2_with fail
          go_region
          all_goals
            have d5 : ¬ (na ≤ k) := by omega
            have d8 : ¬ ((na : Int) ≤ (k : Int)) := by omega
            have d6 : (k : Int) < (na : Int) := by omega
            have d7 : (0 : Int) ≤ (k : Int) := by omega
            have e0 := fun (w : World) => eqD_run y' y' w true (decide_eq_true rfl)
            obtain ⟨n0_, n1_, n2_, n3_, n4_⟩ := CA.out _ (HG.out.trans (by ((repeat (first | (with_reducible assumption) | (with_reducible exact Gr.refl _) | (with_reducible refine Gr.drew ?_) | (with_reducible refine Gr.alloc ?_ _) | (with_reducible refine Gr.trans ?_ (by assumption)))); (first | done | fail))))
            obtain ⟨m0_, m1_, m2_, m3_, m4_⟩ := CB.out _ (HG.out.trans (by ((repeat (first | (with_reducible assumption) | (with_reducible exact Gr.refl _) | (with_reducible refine Gr.drew ?_) | (with_reducible refine Gr.alloc ?_ _) | (with_reducible refine Gr.trans ?_ (by assumption)))); (first | done | fail))))
            clear t0 t1 k0 k1
            go_wp2_with fail
            go_region
            all_goals
              go_wp2_with fail
              go_roundw
              case rel => exact ⟨i + 1, by go_num, by omega, by rw [HK1.out]; go_num, hide (HG.out.trans (by ((repeat (first | (with_reducible assumption) | (with_reducible exact Gr.refl _) | (with_reducible refine Gr.drew ?_) | (with_reducible refine Gr.alloc ?_ _) | (with_reducible refine Gr.trans ?_ (by assumption)))); (first | done | fail))))⟩
              case measure => simp [RowKit.intOf]; omega
    · obtain rfl : i = nb := by omega
      have d0 : decide ((i : Int) < (i : Int)) = false := decide_eq_false (by omega)
      have hkna : k = na := by
        rw [← hk, List.take_of_length_le (by rw [HNB.out]; exact Nat.le_refl _), ← HST.out]
        exact HNA.out
      subst hkna
      clear hk
      have nx1 : ¬ (s.d.length < k) := by omega
      have nx2 : ¬ ((s.d.length : Int) < (k : Int)) := by omega
      go_wp2_with fail
      refine (lot_made wr _ _ 0 p ⟨s.d, ms⟩ (L5.out.gr HG.out) rfl).mono ?_
      rintro e w6 ⟨A9, c9, rfl, -, l6, x6, b6⟩
      rw [show (⟨s.d, ms⟩ : Led).d.length = s.d.length from rfl]
      have L6 := hide l6
      have E6 := hide ((E5.out.gr HG.out).ext x6)
      have B6 := hide (Below.next HG.out.below b6)
      clear l6 x6 b6
      go_wp2_with fail
      refine (lot_withdrawn w6 _ _ 0 p ⟨s.d, ms⟩ L6.out rfl).mono ?_
      rintro e w7 ⟨A10, c10, rfl, sw, l7, x7, b7⟩
      rw [show (⟨s.d, ms⟩ : Led).w.length = ms.length from rfl]
      have SW := hide (show SL eM w7 A10 ms.length ms from sw)
      have RA7 := hide (RA.out.keep (Below.next B6.out b7))
      have E7 := hide (E6.out.ext x7)
      have hms : ms.length ≤ 200 := KO4.out.2.2.2.2.2
      clear sw l7 x7 b7 L6 E6 B6 nx1 nx2
      obtain ⟨nm, hnm⟩ : ∃ n, ms.length = n := ⟨_, rfl⟩
      rw [hnm] at SW hms ⊢
      clear hnm
      go_wp2_with fail
      go_loopw [13] (fun iv wr => ∃ i : Nat, iv = .int .i64 (i : Int) ∧ i ≤ k ∧ Hid (Gr w7 wr)) (fun iv _ => k - (RowKit.intOf iv).toNat)
      case atStart => exact ⟨0, rfl, Nat.zero_le _, hide (Gr.refl _)⟩
      case round =>
        obtain ⟨i2, rfl, hi2, HG2⟩ := hrel
        by_cases hlt2 : i2 < k
        · obtain ⟨ba, oa, y, rfl, hl, hy, -⟩ := RA7.out.atD hlt2
          have HY := hide hy
          have CA := hide (fun (W : World) (h : Gr w7 W) => show CellsD W ba (oa + i2 * 5) y from (RA7.out.keep h.below).cellsD HY.out)
          have HN := hide (NOT.out y (List.mem_of_getElem? hy))
          have d1 : decide ((i2 : Int) < (k : Int)) = true := decide_eq_true (by omega)
          have b1 : (0 : Int) ≤ (i2 : Int) := by omega
          have b2 : (i2 : Int) < (k : Int) := by omega
          clear hy hl
          go_wp2_with fail
          go_loopw [14] (fun jv wq => ∃ j : Nat, jv = .int .i64 (j : Int) ∧ j ≤ nm ∧ Hid (Gr w7 wq)) (fun jv _ => nm - (RowKit.intOf jv).toNat)
          case atStart => exact ⟨0, rfl, Nat.zero_le _, HG2⟩
          case round =>
            obtain ⟨j, rfl, hj, HG3⟩ := hrel
            by_cases hlt3 : j < nm
            · obtain ⟨bz, oz, z, rfl, hl, hz, -⟩ := SW.out.atM hlt3
              have HZ := hide hz
              have CZ := hide (fun (W : World) (h : Gr w7 W) => show CellsM W bz (oz + j * 2) z from (SW.out.keep h.below).cellsM HZ.out)
              obtain ⟨k0, k1⟩ := CZ.out wr HG3.out
              obtain ⟨m0, m1, m2, m3, m4⟩ := CA.out wr HG3.out
              have d2 : decide ((j : Int) < (nm : Int)) = true := decide_eq_true (by omega)
              have b3 : (0 : Int) ≤ (j : Int) := by omega
              have b4 : (j : Int) < (nm : Int) := by omega
              have e0 := fun (w : World) => eqM_run z y.mk_ w false (decide_eq_false fun e => HN.out (by rw [← e]; exact List.mem_of_getElem? HZ.out))
              have e9 := fun (w : World) => show (Op.equalIn 10000 33 (.agg #[.int .i64 z.u, .int .i64 z.n]) (.agg #[.int .i64 y.u, .int .i64 y.n])).run Try.prog w = .ok false w from e0 w
              clear hz hl
              go_wp2_with fail
              go_region
              all_goals
                go_wp2_with fail
                go_roundw
                case rel => exact ⟨j + 1, by go_num, by omega, hide (HG3.out.trans (by ((repeat (first | (with_reducible assumption) | (with_reducible exact Gr.refl _) | (with_reducible refine Gr.drew ?_) | (with_reducible refine Gr.alloc ?_ _) | (with_reducible refine Gr.trans ?_ (by assumption)))); (first | done | fail))))⟩
                case measure => simp [RowKit.intOf]; omega
            · obtain rfl : j = nm := by omega
              have d2 : decide ((j : Int) < (j : Int)) = false := decide_eq_false (by omega)
              go_wp2_with fail
              go_roundw
              case rel => exact ⟨i2 + 1, by go_num, by omega, HG3⟩
              case measure => simp [RowKit.intOf]; omega
        · obtain rfl : i2 = k := by omega
          have d1 : decide ((i2 : Int) < (i2 : Int)) = false := decide_eq_false (by omega)
          go_wp2_with fail
          go_ret
          exact ⟨rfl, E1.out.2.trans ((E7.out.gr HG2.out).2.mono E1.out.2.size)⟩
theorem wit_all (A0 : Option Addr) (n0 c0 : Nat) (ops0 : List Opr) (m : Mk) (w : World) (ha0 : AR w w.heap.size A0 n0 ops0) : Calls Try.prog 7 #[.slice A0 n0 c0, .agg #[.int .i64 m.u, .int .i64 m.n]] w fun e w' => e = .returned (.bool true) ∧ Below w.heap.size w w' := by
  by_cases h0 : n0 ≤ 60
  · exact wit_main A0 n0 c0 ops0 m w ha0 h0
  · exact wit_few A0 n0 c0 m w h0
end Go.Proofs.Ytalbdclcappjpaa
