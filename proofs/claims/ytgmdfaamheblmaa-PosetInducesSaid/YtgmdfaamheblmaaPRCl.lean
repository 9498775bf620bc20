/- The reference's Closure, Reduction. -/
import Derived.Test.YtgmdfaamheblmaaPClo
import Derived.Test.YtgmdfaamheblmaaPRef
namespace Go.Proofs.Ytgmdfaamheblmaa
open Go Go.RowKit PM

set_option maxHeartbeats 2000000 in
theorem rclo_v (n : Int) (A : Option Addr) (m c : Nat) (l : List (Int × Int)) (w : World) (hx : YL w A m l) (hv : vB n l = false) :
    Calls Try.prog 22 #[.int .i64 n, .slice A m c] w (GivesA [] 1 w) := by
  have HX := hide hx
  have HV := hide hv
  clear hx hv
  go_enter Try.func22, Try.ntmps22
  go_wp2_with fail
  refine (rvalid_any n A m c l _ HX.out false HV.out).mono ?_
  rintro e w1 ⟨rfl, B⟩
  go_wp2_with fail
  refine bodyPost_ret (v := .tuple #[.slice none 0 0, .int .i64 1]) (by simp [results, Try.results22, go_sem]) rfl ?_
  exact GivesA.nil B
set_option maxHeartbeats 8000000 in
theorem rclo_y (N : Nat) (A : Option Addr) (m c : Nat) (bs : List (Nat × Nat)) (w : World) (hx : YL w A m (bs.map zA)) (hd : Dig N bs) (ls : List (Nat × Nat)) (hl : listR N (off (war (adj bs) N)) = ls) :
    Calls Try.prog 22 #[.int .i64 (N : Int), .slice A m c] w (GivesA ls 0 w) := by
  have HX := hide hx
  have HV := hide (vB_of hd)
  have HD := hide hd
  have HL := hide hl
  have hn := hd.le
  clear hx hd hl
  go_enter Try.func22, Try.ntmps22
  go_wp2_with fail
  refine (rvalid_any N A m c _ _ HX.out true HV.out).mono ?_
  rintro e w1 ⟨rfl, B⟩
  go_wp2_with fail
  refine (table_any A m c N bs _ HD.out (HX.out.keep B)).mono ?_
  rintro e w2 ⟨rfl, hb⟩
  have B := B.trans (hb.mono B.size)
  clear hb
  obtain ⟨U, hU⟩ : ∃ U, war (adj bs) N = U := ⟨_, rfl⟩
  have HU := hide hU
  rw [hU] at HL; rw [hU]
  clear hU
  obtain ⟨hb5, o5⟩ := boxT1 (rfl : w2.alloc (.cells _ 49) = _) noR rfl
  have o5s := o5.setRow U
  have hg5 := o5s.lt
  have B5 := below_row (B.trans (hb5.mono B.size)) B.size (cT U)
  have hz := zeroT
  go_wp2_with (first | (refine wpList_store_row rfl 49 _ _ rfl (w2.heap.size) _ rfl rfl 49 _ o5.row (cT_info _) (by rw [cT_size, cT_size]) (cT_one _) ?_))
  clear hz
  generalize World.setRow _ _ _ = W5 at *
  have hge : w.heap.size ≤ w2.heap.size := B.size
  generalize w2.heap.size = g5 at *
  obtain ⟨G, hG⟩ : ∃ G, W5.heap.size = G := ⟨_, rfl⟩
  have HG := hide (show w.heap.size ≤ G ∧ g5 < G from by omega)
  have HG1 := hide (Nat.le_of_eq hG.symm)
  clear hG hg5 o5 B hb5
  go_loopw [7, 8] (fun v7 v8 wr => ∃ (i q : Nat) (As : Option Addr) (cs : Nat), i ≤ N ∧ v8 = .int .i64 ((i : Nat) : Int) ∧ v7 = .slice As q cs ∧ AR wr G As q cs ((arcsTo N (off U) i).map zA) ∧ Below w.heap.size w wr ∧ OT wr g5 U ∧ G ≤ wr.heap.size) (fun _ v8 _ => N - (RowKit.intOf v8).toNat)
  case atStart => exact ⟨0, 0, none, 0, by omega, rfl, rfl, AR.nil_, B5, o5s, HG1.out⟩
  case round =>
    clear B5 o5s HG1
    obtain ⟨i, q, As, cs, hi, rfl, rfl, hr, B, o5, hGw⟩ := hrel
    by_cases hlt : i < N
    · have hi24 : i < 24 := by omega
      have hin : (i : Int) < (N : Int) := by omega
      have i1 : (0 : Int) ≤ (i : Int) := by omega
      have i2 : (i : Int) < 24 := by omega
      go_wp2_with fail
      go_loopw [7, 9] (fun v7 v9 wr => ∃ (j q : Nat) (As : Option Addr) (cs : Nat), j ≤ N ∧ v9 = .int .i64 ((j : Nat) : Int) ∧ v7 = .slice As q cs ∧ AR wr G As q cs ((arcsTo N (off U) i ++ rowTo (off U) i j).map zA) ∧ Below w.heap.size w wr ∧ OT wr g5 U ∧ G ≤ wr.heap.size) (fun _ v9 _ => N - (RowKit.intOf v9).toNat)
      case atStart => exact ⟨0, q, As, cs, by omega, rfl, rfl, by unfold rowTo; rw [List.append_nil]; exact hr, B, o5, hGw⟩
      case round =>
        clear B o5 hGw hr
        obtain ⟨j, q, As, cs, hj, rfl, rfl, hr, B, o5, hGw⟩ := hrel
        by_cases hlt2 : j < N
        · have hj24 : j < 24 := by omega
          have hjn : (j : Int) < (N : Int) := by omega
          have j1 : (0 : Int) ≤ (j : Int) := by omega
          have j2 : (j : Int) < 24 := by omega
          by_cases hij : i = j
          · subst hij
            have HN := hide (show arcsTo N (off U) i ++ rowTo (off U) i (i + 1) = arcsTo N (off U) i ++ rowTo (off U) i i from by
              congr 1
              conv => lhs; unfold rowTo
              rw [if_neg (by simp [off]), List.append_nil])
            go_wp2_with fail
            go_roundw
            case measure => simp [RowKit.intOf]; omega
            case rel => exact ⟨i + 1, q, As, cs, by omega, by go_num, rfl, by rw [HN.out]; exact hr, B, o5, hGw⟩
          · have e3 : ¬ (i : Int) = (j : Int) := by omega
            have z2 := o5.cell hi24 hj24
            obtain ⟨r, hr0⟩ : ∃ r, U i j = r := ⟨_, rfl⟩
            have HO := hide (show off U i j = r from by unfold off; rw [hr0, beq_eq_false_iff_ne.2 hij]; rfl)
            rw [hr0] at z2
            clear hr0 hij
            cases r with
            | true =>
              have HN := hide (show (arcsTo N (off U) i ++ rowTo (off U) i (j + 1)).map zA = (arcsTo N (off U) i ++ rowTo (off U) i j).map zA ++ [((i : Int), (j : Int))] from by
                conv => lhs; unfold rowTo
                rw [if_pos HO.out, ← List.append_assoc, List.map_append]; rfl)
              have hq : q ≤ 576 := by
                have h1 := arcs_le hn hlt hj (off U)
                have h2 := hr.len
                rw [List.length_map] at h2; omega
              have HBF := hide hGw
              have F : Below wr.heap.size wr (wr.alloc (.cells #[.int .i64 (i : Int), .int .i64 (j : Int)] 42)) := (Below.refl _ _).alloc (Nat.le_refl _) _
              go_wp2_with (at_builtin; refine wpList_append_ar rfl _ _ 22 rfl Try.underlying22 arc_info G _ q cs _ rfl (hr.below F) (some ⟨wr.heap.size, 0, none⟩) 1 1 [((i : Int), (j : Int))] rfl (yl_one wr 42 (i : Int) (j : Int)) (q + 1) rfl (by omega) (by have := HBF.out; simp; omega) ?_; intro A9 c9 w9 hr9 hG9)
              have o9 : OT w9 g5 U := hG9.2.2 _ _ _ (o5.below' F) (fun b o e => by have := (hr.lt b o e).1; have := HG.out.2; omega)
              have B9 := (B.trans (F.mono B.size)).trans (hG9.1.mono HG.out.1)
              have hs9 : G ≤ w9.heap.size := Nat.le_trans HBF.out (Nat.le_trans F.size hG9.2.1)
              clear o5 hr F hG9 B hGw
              go_roundw
              case measure => simp [RowKit.intOf]; omega
              case rel => exact ⟨j + 1, q + 1, A9, c9, by omega, by go_num, rfl, by rw [HN.out]; exact hr9, B9, o9, hs9⟩
            | false =>
              have HN := hide (show arcsTo N (off U) i ++ rowTo (off U) i (j + 1) = arcsTo N (off U) i ++ rowTo (off U) i j from by
                congr 1
                conv => lhs; unfold rowTo
                rw [if_neg (by rw [HO.out]; decide), List.append_nil])
              go_wp2_with fail
              go_roundw
              case measure => simp [RowKit.intOf]; omega
              case rel => exact ⟨j + 1, q, As, cs, by omega, by go_num, rfl, by rw [HN.out]; exact hr, B, o5, hGw⟩
        · obtain rfl : j = N := by omega
          have d7 : decide ((j : Int) < (j : Int)) = false := decide_eq_false (by omega)
          go_wp2_with fail
          go_roundw
          case measure => simp [RowKit.intOf]; omega
          case rel => exact ⟨i + 1, q, As, cs, by omega, by go_num, rfl, hr, B, o5, hGw⟩
    · obtain rfl : i = N := by omega
      have d7 : decide ((i : Int) < (i : Int)) = false := decide_eq_false (by omega)
      have hq : ls.length = q := by have := hr.len; rw [List.length_map] at this; rw [← HL.out]; exact this
      have HR := hide (show AR wr G As q cs (ls.map zA) from by rw [← HL.out]; exact hr)
      subst hq
      go_wp2_with fail
      refine bodyPost_ret (v := .tuple #[.slice As ls.length cs, .int .i64 0]) (by simp [results, Try.results22, go_sem]) rfl ?_
      exact ⟨⟨As, cs, rfl, HR.out.yl, HR.out.le.1, HR.out.le.2⟩, B⟩
theorem rclosure_any (n : Int) (A : Option Addr) (m c : Nat) (l : List (Int × Int)) (w : World) (hx : YL w A m l) (ls : List (Nat × Nat)) (er : Int) (hr : resC n l = (ls, er)) :
    Calls Try.prog 22 #[.int .i64 n, .slice A m c] w (GivesA ls er w) := by
  rcases resC_cases n l with ⟨hv, h⟩ | ⟨N, bs, rfl, rfl, hd, h⟩
  · rw [h] at hr
    cases hr
    exact rclo_v n A m c l w hx hv
  · rw [h] at hr
    cases hr
    exact rclo_y N A m c bs w hx hd _ rfl
set_option maxHeartbeats 2000000 in
theorem rred_v (n : Int) (A : Option Addr) (m c : Nat) (l : List (Int × Int)) (w : World) (hx : YL w A m l) (hv : vB n l = false) :
    Calls Try.prog 23 #[.int .i64 n, .slice A m c] w (GivesA [] 1 w) := by
  have HX := hide hx
  have HV := hide hv
  clear hx hv
  go_enter Try.func23, Try.ntmps23
  go_wp2_with fail
  refine (rvalid_any n A m c l _ HX.out false HV.out).mono ?_
  rintro e w1 ⟨rfl, B⟩
  go_wp2_with fail
  refine bodyPost_ret (v := .tuple #[.slice none 0 0, .int .i64 1]) (by simp [results, Try.results23, go_sem]) rfl ?_
  exact GivesA.nil B
set_option maxHeartbeats 2000000 in
theorem rred_c (n : Int) (A : Option Addr) (m c : Nat) (l : List (Int × Int)) (w : World) (hx : YL w A m l) (hv : vB n l = true) (ha : acB n l = false) :
    Calls Try.prog 23 #[.int .i64 n, .slice A m c] w (GivesA [] 11 w) := by
  have HX := hide hx
  have HV := hide hv
  have HA := hide ha
  clear ha
  clear hx hv
  go_enter Try.func23, Try.ntmps23
  go_wp2_with fail
  refine (rvalid_any n A m c l _ HX.out true HV.out).mono ?_
  rintro e w1 ⟨rfl, B⟩
  go_wp2_with fail
  refine (racyclic_any n A m c l _ (HX.out.keep B) false HA.out).mono ?_
  rintro e w2 ⟨rfl, hb⟩
  have B := B.trans (hb.mono B.size)
  go_wp2_with fail
  refine bodyPost_ret (v := .tuple #[.slice none 0 0, .int .i64 11]) (by simp [results, Try.results23, go_sem]) rfl ?_
  exact GivesA.nil B
/-- the reference's test, k vertices looked at -/
def ndB (W : Nat → Nat → Bool) (i j k : Nat) : Bool := W i j && !(List.range k).any fun m => W i m && W m j
theorem ndB_zero (W i j) : ndB W i j 0 = W i j := by unfold ndB; simp
theorem ndB_next (W i j k) : ndB W i j (k + 1) = (ndB W i j k && !(W i k && W k j)) := by
  unfold ndB
  rw [List.range_succ, List.any_append, Bool.not_or, ← Bool.and_assoc]
  simp
theorem ndB_end (n W i j) : ndB W i j n = red n W i j := rfl
set_option maxHeartbeats 16000000 in
theorem rred_y (N : Nat) (A : Option Addr) (m c : Nat) (bs : List (Nat × Nat)) (w : World) (hx : YL w A m (bs.map zA)) (hd : Dig N bs) (ha : acB N (bs.map zA) = true) (ls : List (Nat × Nat)) (hl : listR N (off (red N (war (adj bs) N))) = ls) :
    Calls Try.prog 23 #[.int .i64 (N : Int), .slice A m c] w (GivesA ls 0 w) := by
  have HX := hide hx
  have HV := hide (vB_of hd)
  have HD := hide hd
  have HA := hide ha
  have hacy : Acy N (adj bs) := by
    unfold acB at ha
    rw [vB_of hd, nA_zA, Int.toNat_natCast, Bool.true_and] at ha
    exact (ord_acy hd.adj).1 (of_decide_eq_true ha)
  have HL := hide (show listR N (red N (war (adj bs) N)) = ls from by
    rw [← hl]
    refine listR_ext fun a b ha _ => ?_
    unfold off
    by_cases e : a = b
    · subst e
      have : red N (war (adj bs) N) a a = false := by unfold red; rw [hacy a ha]; rfl
      rw [this, Bool.and_false]
    · rw [beq_eq_false_iff_ne.2 e]; rfl)
  have hn := hd.le
  clear hx hd hl ha hacy
  go_enter Try.func23, Try.ntmps23
  go_wp2_with fail
  refine (rvalid_any N A m c _ _ HX.out true HV.out).mono ?_
  rintro e w1 ⟨rfl, B⟩
  go_wp2_with fail
  refine (racyclic_any N A m c _ _ (HX.out.keep B) true HA.out).mono ?_
  rintro e w2 ⟨rfl, hb⟩
  have B := B.trans (hb.mono B.size)
  clear hb
  go_wp2_with fail
  refine (table_any A m c N bs _ HD.out (HX.out.keep B)).mono ?_
  rintro e w3 ⟨rfl, hb⟩
  have B := B.trans (hb.mono B.size)
  clear hb
  obtain ⟨U, hU⟩ : ∃ U, war (adj bs) N = U := ⟨_, rfl⟩
  have HU := hide hU
  rw [hU] at HL; rw [hU]
  clear hU
  obtain ⟨hb5, o5⟩ := boxT1 (rfl : w3.alloc (.cells _ 49) = _) noR rfl
  have o5s := o5.setRow U
  have hg5 := o5s.lt
  have B5 := below_row (B.trans (hb5.mono B.size)) B.size (cT U)
  have hz := zeroT
  go_wp2_with (first | (refine wpList_store_row rfl 49 _ _ rfl (w3.heap.size) _ rfl rfl 49 _ o5.row (cT_info _) (by rw [cT_size, cT_size]) (cT_one _) ?_))
  clear hz
  generalize World.setRow _ _ _ = W5 at *
  have hge : w.heap.size ≤ w3.heap.size := B.size
  generalize w3.heap.size = g5 at *
  obtain ⟨G, hG⟩ : ∃ G, W5.heap.size = G := ⟨_, rfl⟩
  have HG := hide (show w.heap.size ≤ G ∧ g5 < G from by omega)
  have HG1 := hide (Nat.le_of_eq hG.symm)
  clear hG hg5 o5 B hb5
  have HL2 := hide (show arcsTo N (red N U) N = ls from HL.out)
  go_loopw [7, 8] (fun v7 v8 wr => ∃ (i q : Nat) (As : Option Addr) (cs : Nat), i ≤ N ∧ v8 = .int .i64 ((i : Nat) : Int) ∧ v7 = .slice As q cs ∧ AR wr G As q cs ((arcsTo N (red N U) i).map zA) ∧ Below w.heap.size w wr ∧ OT wr g5 U ∧ G ≤ wr.heap.size) (fun _ v8 _ => N - (RowKit.intOf v8).toNat)
  case atStart => exact ⟨0, 0, none, 0, by omega, rfl, rfl, AR.nil_, B5, o5s, HG1.out⟩
  case round =>
    clear B5 o5s HG1
    obtain ⟨i, q, As, cs, hi, rfl, rfl, hr, B, o5, hGw⟩ := hrel
    by_cases hlt : i < N
    · have hi24 : i < 24 := by omega
      have hin : (i : Int) < (N : Int) := by omega
      have i1 : (0 : Int) ≤ (i : Int) := by omega
      have i2 : (i : Int) < 24 := by omega
      go_wp2_with fail
      go_loopw [7, 9] (fun v7 v9 wr => ∃ (j q : Nat) (As : Option Addr) (cs : Nat), j ≤ N ∧ v9 = .int .i64 ((j : Nat) : Int) ∧ v7 = .slice As q cs ∧ AR wr G As q cs ((arcsTo N (red N U) i ++ rowTo (red N U) i j).map zA) ∧ Below w.heap.size w wr ∧ OT wr g5 U ∧ G ≤ wr.heap.size) (fun _ v9 _ => N - (RowKit.intOf v9).toNat)
      case atStart => exact ⟨0, q, As, cs, by omega, rfl, rfl, by unfold rowTo; rw [List.append_nil]; exact hr, B, o5, hGw⟩
      case round =>
        clear B o5 hGw hr
        obtain ⟨j, q, As, cs, hj, rfl, rfl, hr, B, o5, hGw⟩ := hrel
        by_cases hlt2 : j < N
        · have hj24 : j < 24 := by omega
          have hjn : (j : Int) < (N : Int) := by omega
          have j1 : (0 : Int) ≤ (j : Int) := by omega
          have j2 : (j : Int) < 24 := by omega
          have z2 := o5.cell hi24 hj24
          have HZ0 := hide (ndB_zero U i j)
          go_wp2_with fail
          go_loopw [10, 11] (fun v10 v11 wr' => ∃ (k : Nat), k ≤ N ∧ v11 = .int .i64 ((k : Nat) : Int) ∧ v10 = .bool (ndB U i j k) ∧ wr' = wr) (fun _ v11 _ => N - (RowKit.intOf v11).toNat)
          case atStart => exact ⟨0, by omega, rfl, by rw [HZ0.out], rfl⟩
          case round =>
            obtain ⟨k, hk, rfl, rfl, rfl⟩ := hrel
            by_cases hlt3 : k < N
            · have hk24 : k < 24 := by omega
              have hkn : (k : Int) < (N : Int) := by omega
              have k1 : (0 : Int) ≤ (k : Int) := by omega
              have k2 : (k : Int) < 24 := by omega
              have z3 := o5.cell hi24 hk24
              have z4 := o5.cell hk24 hj24
              have HNX := hide (ndB_next U i j k)
              obtain ⟨f, hf⟩ : ∃ f, ndB U i j k = f := ⟨_, rfl⟩
              obtain ⟨r1, h1⟩ : ∃ r, U i k = r := ⟨_, rfl⟩
              obtain ⟨r2, h2⟩ : ∃ r, U k j = r := ⟨_, rfl⟩
              rw [h1] at z3
              rw [h2] at z4
              rw [hf, h1, h2] at HNX
              rw [hf]
              clear h1 h2 hf z2
              cases f with
              | false =>
                have HN2 := hide (show ndB U i j (k + 1) = false from HNX.out)
                clear HNX
                go_wp2_with fail
                go_roundw
                case measure => simp [RowKit.intOf]; omega
                case rel => exact ⟨k + 1, by omega, by go_num, by rw [HN2.out], (by first | rfl | trivial)⟩
              | true =>
                cases r1 with
                | false =>
                  have HN2 := hide (show ndB U i j (k + 1) = true from HNX.out)
                  clear HNX
                  go_wp2_with fail
                  go_roundw
                  case measure => simp [RowKit.intOf]; omega
                  case rel => exact ⟨k + 1, by omega, by go_num, by rw [HN2.out], (by first | rfl | trivial)⟩
                | true =>
                  have HN2 := hide (show ndB U i j (k + 1) = !r2 from HNX.out)
                  clear HNX
                  go_wp2_with fail
                  go_roundw
                  case measure => simp [RowKit.intOf]; omega
                  case rel => exact ⟨k + 1, by omega, by go_num, by rw [HN2.out], (by first | rfl | trivial)⟩
            · obtain rfl : k = N := by omega
              have d8 : decide ((k : Int) < (k : Int)) = false := decide_eq_false (by omega)
              have HE2 := hide (ndB_end k U i j)
              obtain ⟨f, hf⟩ : ∃ f, red k U i j = f := ⟨_, rfl⟩
              have HO := hide hf
              rw [HE2.out, hf]
              clear hf z2 hlt3
              cases f with
              | true =>
                have HN := hide (show (arcsTo k (red k U) i ++ rowTo (red k U) i (j + 1)).map zA = (arcsTo k (red k U) i ++ rowTo (red k U) i j).map zA ++ [((i : Int), (j : Int))] from by
                  conv => lhs; unfold rowTo
                  rw [if_pos HO.out, ← List.append_assoc, List.map_append]; rfl)
                have hq : q ≤ 576 := by
                  have h1 := arcs_le hn hlt hj (red k U)
                  have h2 := hr.len
                  rw [List.length_map] at h2; omega
                have HBF := hide hGw
                have F : Below wr.heap.size wr (wr.alloc (.cells #[.int .i64 (i : Int), .int .i64 (j : Int)] 42)) := (Below.refl _ _).alloc (Nat.le_refl _) _
                go_wp2_with (at_builtin; refine wpList_append_ar rfl _ _ 22 rfl Try.underlying22 arc_info G _ q cs _ rfl (hr.below F) (some ⟨wr.heap.size, 0, none⟩) 1 1 [((i : Int), (j : Int))] rfl (yl_one wr 42 (i : Int) (j : Int)) (q + 1) rfl (by omega) (by have := HBF.out; simp; omega) ?_; intro A9 c9 w9 hr9 hG9)
                have o9 : OT w9 g5 U := hG9.2.2 _ _ _ (o5.below' F) (fun b o e => by have := (hr.lt b o e).1; have := HG.out.2; omega)
                have B9 := (B.trans (F.mono B.size)).trans (hG9.1.mono HG.out.1)
                have hs9 : G ≤ w9.heap.size := Nat.le_trans HBF.out (Nat.le_trans F.size hG9.2.1)
                clear o5 hr F hG9 B hGw
                go_roundw
                case measure => simp [RowKit.intOf]; omega
                case rel => exact ⟨j + 1, q + 1, A9, c9, by omega, by go_num, rfl, by rw [HN.out]; exact hr9, B9, o9, hs9⟩
              | false =>
                have HN := hide (show arcsTo k (red k U) i ++ rowTo (red k U) i (j + 1) = arcsTo k (red k U) i ++ rowTo (red k U) i j from by
                  congr 1
                  conv => lhs; unfold rowTo
                  rw [if_neg (by rw [HO.out]; decide), List.append_nil])
                go_wp2_with fail
                go_roundw
                case measure => simp [RowKit.intOf]; omega
                case rel => exact ⟨j + 1, q, As, cs, by omega, by go_num, rfl, by rw [HN.out]; exact hr, B, o5, hGw⟩
        · obtain rfl : j = N := by omega
          have d7 : decide ((j : Int) < (j : Int)) = false := decide_eq_false (by omega)
          go_wp2_with fail
          go_roundw
          case measure => simp [RowKit.intOf]; omega
          case rel => exact ⟨i + 1, q, As, cs, by omega, by go_num, rfl, hr, B, o5, hGw⟩
    · obtain rfl : i = N := by omega
      have d7 : decide ((i : Int) < (i : Int)) = false := decide_eq_false (by omega)
      have hq : ls.length = q := by have := hr.len; rw [List.length_map] at this; rw [← HL2.out]; exact this
      have HR := hide (show AR wr G As q cs (ls.map zA) from by rw [← HL2.out]; exact hr)
      subst hq
      go_wp2_with fail
      refine bodyPost_ret (v := .tuple #[.slice As ls.length cs, .int .i64 0]) (by simp [results, Try.results23, go_sem]) rfl ?_
      exact ⟨⟨As, cs, rfl, HR.out.yl, HR.out.le.1, HR.out.le.2⟩, B⟩
theorem rreduction_any (n : Int) (A : Option Addr) (m c : Nat) (l : List (Int × Int)) (w : World) (hx : YL w A m l) (ls : List (Nat × Nat)) (er : Int) (hr : resR n l = (ls, er)) :
    Calls Try.prog 23 #[.int .i64 n, .slice A m c] w (GivesA ls er w) := by
  rcases resR_cases n l with ⟨hv, h⟩ | ⟨hv, ha, h⟩ | ⟨N, bs, rfl, rfl, hd, ha, h⟩
  · rw [h] at hr
    cases hr
    exact rred_v n A m c l w hx hv
  · rw [h] at hr
    cases hr
    exact rred_c n A m c l w hx hv ha
  · rw [h] at hr
    cases hr
    exact rred_y N A m c bs w hx hd ha _ rfl
end Go.Proofs.Ytgmdfaamheblmaa
