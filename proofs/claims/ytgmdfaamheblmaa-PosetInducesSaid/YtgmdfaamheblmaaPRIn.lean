/- The reference's Induced. -/
import Derived.Test.YtgmdfaamheblmaaPInd
import Derived.Test.YtgmdfaamheblmaaPRCl
namespace Go.Proofs.Ytgmdfaamheblmaa
open Go Go.RowKit PM

set_option maxHeartbeats 2000000 in
theorem rind_v (n : Int) (A : Option Addr) (m c : Nat) (l : List (Int × Int)) (v : Value) (w : World) (hx : YL w A m l) (hm : m ≤ maxLen) (hv : vB n l = false) :
    Calls Try.prog 32 #[.int .i64 n, .slice A m c, v] w (GivesA [] 1 w) := by
  have HX := hide hx
  have HM := hide hm
  have HV := hide hv
  clear hx hm hv
  go_enter Try.func32, Try.ntmps32
  go_wp2_with fail
  refine (rvalid_any n A m c l _ HX.out false HV.out).mono ?_
  rintro e w1 ⟨rfl, B⟩
  go_wp2_with fail
  refine bodyPost_ret (v := .tuple #[.slice none 0 0, .int .i64 1]) (by simp [results, Try.results32, go_sem]) rfl ?_
  exact GivesA.nil B
set_option maxHeartbeats 2000000 in
theorem rind_s (N : Nat) (A : Option Addr) (m c : Nat) (bs : List (Nat × Nat)) (S : Option Addr) (k d : Nat) (xs : List Int) (w : World) (hx : YL w A m (bs.map zA)) (hd : Dig N bs) (hs : IL w S k xs) (hk : k ≤ maxLen) (hv : setB N 0 xs = false) :
    Calls Try.prog 32 #[.int .i64 (N : Int), .slice A m c, .slice S k d] w (GivesA [] 1 w) := by
  have HX := hide hx
  have HM := hide (dig_max hd hx)
  have HV := hide (vB_of hd)
  have HS := hide hs
  have HK := hide hk
  have HB := hide hv
  have hn := hd.le
  clear hx hs hk hv hd
  go_enter Try.func32, Try.ntmps32
  go_wp2_with fail
  refine (rvalid_any N A m c _ _ HX.out true HV.out).mono ?_
  rintro e w1 ⟨rfl, B⟩
  go_wp2_with fail
  refine (asc_any N ((N : Int) - 1) S k d xs _ (HS.out.below B) (by omega) (by omega) HK.out false HB.out).mono ?_
  rintro e w2 ⟨rfl, hb⟩
  have B := B.trans (hb.mono B.size)
  go_wp2_with fail
  refine bodyPost_ret (v := .tuple #[.slice none 0 0, .int .i64 1]) (by simp [results, Try.results32, go_sem]) rfl ?_
  exact GivesA.nil B
set_option maxRecDepth 100000 in
set_option maxHeartbeats 16000000 in
theorem rind_y (N : Nat) (A : Option Addr) (m c : Nat) (bs : List (Nat × Nat)) (S : Option Addr) (K d : Nat) (xs : List Int) (w : World) (hx : YL w A m (bs.map zA)) (hd : Dig N bs) (hs : IL w S K xs) (hk : K ≤ 60) (hv : setB N 0 xs = true) (ls : List (Nat × Nat)) (hl : listR K (indR xs bs m) = ls) :
    Calls Try.prog 32 #[.int .i64 (N : Int), .slice A m c, .slice S K d] w (GivesA ls 0 w) := by
  have HX := hide hx
  have HV := hide (vB_of hd)
  have HS := hide hs
  have HB := hide hv
  have HA := hide hd.asc
  have hn := hd.le
  have HL := hide hl
  have HK := hide (show K ≤ maxLen from by unfold maxLen; omega)
  have hml : m ≤ 576 := by have := hd.len576; have := hx.1; simp at this; omega
  have HLB := hide (show bs.length ≤ m from by have := hx.1; simp at this; omega)
  clear hx hs hv hd hl
  go_enter Try.func32, Try.ntmps32
  go_wp2_with fail
  refine (rvalid_any N A m c _ _ HX.out true HV.out).mono ?_
  rintro e w1 ⟨rfl, B⟩
  go_wp2_with fail
  refine (asc_any N ((N : Int) - 1) S K d xs _ (HS.out.below B) (by omega) (by omega) HK.out true HB.out).mono ?_
  rintro e w2 ⟨rfl, hb⟩
  have B := B.trans (hb.mono B.size)
  clear hb
  go_wp2_with fail
  obtain ⟨G, hG⟩ : ∃ G, w2.heap.size = G := ⟨_, rfl⟩
  have HG := hide (show w.heap.size ≤ G from by rw [← hG]; exact B.size)
  have HG1 := hide (Nat.le_of_eq hG.symm)
  clear hG
  go_loopw [8, 9] (fun v8 v9 wr => ∃ (i n : Nat) (As : Option Addr) (cs : Nat), i ≤ K ∧ v9 = .int .i64 ((i : Nat) : Int) ∧ v8 = .slice As n cs ∧ AR wr G As n cs ((arcsTo K (indR xs bs m) i).map zA) ∧ Below w.heap.size w wr ∧ G ≤ wr.heap.size) (fun _ v9 _ => K - (RowKit.intOf v9).toNat)
  case atStart => exact ⟨0, 0, none, 0, by omega, rfl, rfl, AR.nil_, B, HG1.out⟩
  case round =>
    clear B HG1
    obtain ⟨i, n, As, cs, hi, rfl, rfl, hr, B, hGw⟩ := hrel
    by_cases hlt : i < K
    · have i1 : (0 : Int) ≤ (i : Int) := by omega
      have i2 : (i : Int) < (K : Int) := by omega
      go_wp2_with fail
      go_loopw [8, 10] (fun v8 v10 wr => ∃ (k n : Nat) (As : Option Addr) (cs : Nat), k ≤ K ∧ v10 = .int .i64 ((k : Nat) : Int) ∧ v8 = .slice As n cs ∧ AR wr G As n cs ((arcsTo K (indR xs bs m) i ++ rowTo (indR xs bs m) i k).map zA) ∧ Below w.heap.size w wr ∧ G ≤ wr.heap.size) (fun _ v10 _ => K - (RowKit.intOf v10).toNat)
      case atStart => exact ⟨0, n, As, cs, by omega, rfl, rfl, by unfold rowTo; rw [List.append_nil]; exact hr, B, hGw⟩
      case round =>
        clear B hGw hr
        obtain ⟨k, n, As, cs, hk2, rfl, rfl, hr, B, hGw⟩ := hrel
        by_cases hlt2 : k < K
        · have k1 : (0 : Int) ≤ (k : Int) := by omega
          have k2 : (k : Int) < (K : Int) := by omega
          obtain ⟨L0, hL0⟩ : ∃ L0, arcsTo K (indR xs bs m) i ++ rowTo (indR xs bs m) i k = L0 := ⟨_, rfl⟩
          have HL0 := hide hL0
          have HLn := hide (show L0.length ≤ K * K from by
            rw [← hL0, List.length_append]
            have h1 := arcsTo_len K (indR xs bs m) i
            have h2 := rowTo_len (indR xs bs m) i k
            have h3 : (i + 1) * K ≤ K * K := Nat.mul_le_mul_right K hlt
            rw [Nat.succ_mul] at h3
            omega)
          rw [hL0] at hr
          clear hL0
          go_wp2_with fail
          go_loopw [8, 11] (fun v8 v11 wr => ∃ (j n : Nat) (As : Option Addr) (cs : Nat), j ≤ m ∧ v11 = .int .i64 ((j : Nat) : Int) ∧ v8 = .slice As n cs ∧ AR wr G As n cs ((L0 ++ oneTo xs bs i k j).map zA) ∧ Below w.heap.size w wr ∧ G ≤ wr.heap.size) (fun _ v11 _ => m - (RowKit.intOf v11).toNat)
          case atStart => exact ⟨0, n, As, cs, by omega, rfl, rfl, by rw [oneTo_zero, List.append_nil]; exact hr, B, hGw⟩
          case round =>
            clear B hGw hr
            obtain ⟨j, n, As, cs, hj, rfl, rfl, hr, B, hGw⟩ := hrel
            by_cases hlt3 : j < m
            · obtain ⟨b, o, y, rfl, hbl, hy, k0, k1'⟩ := (HX.out.keep B).at_ hlt3
              obtain ⟨⟨p, q⟩, hp, rfl⟩ := zA_at hy
              simp only [zA] at k0 k1'
              obtain ⟨b2, o2, x, rfl, hx1, c1⟩ := (HS.out.below B).at_ hlt
              obtain ⟨b3, o3, z, e3, hz1, c2⟩ := (HS.out.below B).at_ hlt2
              injection e3 with e3
              injection e3 with e4 e5
              subst e4
              subst e5
              have HPQ := hide hp
              have HX1 := hide hx1
              have HZ1 := hide hz1
              have j1 : (0 : Int) ≤ (j : Int) := by omega
              have j2 : (j : Int) < (m : Int) := by omega
              have BD := B.drew
              have hrD : AR wr.drew G As n cs ((L0 ++ oneTo xs bs i k j).map zA) := hr
              clear hy hp hx1 hz1
              by_cases h1 : (p : Int) = x
              · have e1 : ((p : Int) == x) = true := beq_iff_eq.2 h1
                by_cases h2 : (q : Int) = z
                · have e2 : ((q : Int) == z) = true := beq_iff_eq.2 h2
                  have HN := hide (show (L0 ++ oneTo xs bs i k (j + 1)).map zA = (L0 ++ oneTo xs bs i k j).map zA ++ [((i : Int), (k : Int))] from by
                    rw [oneTo_hit HA.out HPQ.out (by rw [HX1.out, h1]) (by rw [HZ1.out, h2]), ← List.append_assoc, List.map_append]; rfl)
                  have hq : n ≤ 3700 := by
                    have h3 := HLn.out
                    have h4 : K * K ≤ 60 * 60 := Nat.mul_le_mul hk hk
                    have h5 := hr.len
                    have h6 : (oneTo xs bs i k j).length ≤ 1 := by unfold oneTo; split <;> simp
                    rw [List.length_map, List.length_append] at h5; omega
                  clear h1 h2
                  go_wp2_with fail
                  go_quiet (fail)
                  generalize hWQ : World.drewN _ _ = WQ
                  have hbq : Below wr.heap.size wr WQ := by rw [← hWQ]; exact below_drewN (Below.refl _ _) _
                  clear hWQ
                  have B := B.trans (hbq.mono B.size)
                  have hr := hr.below hbq
                  have HBF := hide (Nat.le_trans hGw hbq.size)
                  have F : Below WQ.heap.size WQ (WQ.alloc (.cells #[.int .i64 (i : Int), .int .i64 (k : Int)] 42)) := (Below.refl _ _).alloc (Nat.le_refl _) _
                  go_wp2_with (at_builtin; refine wpList_append_ar rfl _ _ 22 rfl Try.underlying22 arc_info G _ n cs _ rfl (hr.below F) (some ⟨WQ.heap.size, 0, none⟩) 1 1 [((i : Int), (k : Int))] rfl (yl_one WQ 42 (i : Int) (k : Int)) (n + 1) rfl (by omega) (by have := HBF.out; simp; omega) ?_; intro A9 c9 w9 hr9 hG9)
                  have B9 := (B.trans (F.mono B.size)).trans (hG9.1.mono HG.out)
                  have hs9 : G ≤ w9.heap.size := Nat.le_trans HBF.out (Nat.le_trans F.size hG9.2.1)
                  clear hr F hG9 B hGw
                  go_roundw
                  case measure => simp [RowKit.intOf]; omega
                  case rel => exact ⟨j + 1, n + 1, A9, c9, by omega, by go_num, rfl, by rw [HN.out]; exact hr9, B9, hs9⟩
                · have e2 : ((q : Int) == z) = false := beq_eq_false_iff_ne.2 h2
                  have HN := hide (oneTo_miss (i := i) (k := k) HPQ.out (fun h => h2 (by rw [HZ1.out] at h; exact (Option.some.inj h.2).symm)))
                  clear h1 h2
                  go_wp2_with fail
                  go_quiet (fail)
                  go_wp2_with fail
                  go_roundw
                  case measure => simp [RowKit.intOf]; omega
                  case rel => exact ⟨j + 1, n, As, cs, by omega, by go_num, rfl, by rw [HN.out]; exact hr.drewN _, below_drewN B _, hGw⟩
              · have e1 : ((p : Int) == x) = false := beq_eq_false_iff_ne.2 h1
                have HN := hide (oneTo_miss (i := i) (k := k) HPQ.out (fun h => h1 (by rw [HX1.out] at h; exact (Option.some.inj h.1).symm)))
                clear h1
                go_wp2_with fail
                go_quiet (fail)
                go_wp2_with fail
                go_roundw
                case measure => simp [RowKit.intOf]; omega
                case rel => exact ⟨j + 1, n, As, cs, by omega, by go_num, rfl, by rw [HN.out]; exact hr.drewN _, below_drewN B _, hGw⟩
            · obtain rfl : j = m := by omega
              have d7 : decide ((j : Int) < (j : Int)) = false := decide_eq_false (by omega)
              have HN := hide (show arcsTo K (indR xs bs j) i ++ rowTo (indR xs bs j) i (k + 1) = L0 ++ oneTo xs bs i k j from by
                rw [← HL0.out, List.append_assoc]; rfl)
              go_wp2_with fail
              go_roundw
              case measure => simp [RowKit.intOf]; omega
              case rel => exact ⟨k + 1, n, As, cs, by omega, by go_num, rfl, by rw [HN.out]; exact hr, B, hGw⟩
        · obtain rfl : k = K := by omega
          have d7 : decide ((k : Int) < (k : Int)) = false := decide_eq_false (by omega)
          go_wp2_with fail
          go_roundw
          case measure => simp [RowKit.intOf]; omega
          case rel => exact ⟨i + 1, n, As, cs, by omega, by go_num, rfl, hr, B, hGw⟩
    · obtain rfl : i = K := by omega
      have d7 : decide ((i : Int) < (i : Int)) = false := decide_eq_false (by omega)
      have hq : ls.length = n := by have := hr.len; rw [List.length_map] at this; rw [← HL.out]; exact this
      have HR := hide (show AR wr G As n cs (ls.map zA) from by rw [← HL.out]; exact hr)
      subst hq
      clear hr hlt
      go_wp2_with fail
      refine bodyPost_ret (v := .tuple #[.slice As ls.length cs, .int .i64 0]) (by simp [results, Try.results32, go_sem]) rfl ?_
      exact ⟨⟨As, cs, rfl, HR.out.yl, HR.out.le.1, HR.out.le.2⟩, B⟩
theorem rinduced_any (n : Int) (A : Option Addr) (m c : Nat) (l : List (Int × Int)) (S : Option Addr) (k d : Nat) (xs : List Int) (w : World) (hx : YL w A m l) (hm : m ≤ maxLen) (hs : IL w S k xs) (hk : k ≤ 60) (ls : List (Nat × Nat)) (er : Int) (hr : resI n l xs = (ls, er)) :
    Calls Try.prog 32 #[.int .i64 n, .slice A m c, .slice S k d] w (GivesA ls er w) := by
  rcases resI_cases n l xs with ⟨hv, h⟩ | ⟨N, bs, rfl, rfl, hd, ⟨hb, h⟩ | ⟨hb, h⟩⟩
  · rw [h] at hr; cases hr
    exact rind_v n A m c l _ w hx hm hv
  · rw [h] at hr; cases hr
    exact rind_s N A m c bs S k d xs w hx hd hs (by unfold maxLen; omega) hb
  · rw [h] at hr; cases hr
    have hl := hx.1
    rw [List.length_map] at hl
    have e := ind_eq (setB_pw N xs 0 hb).1 hd.asc (m := m) (Nat.le_of_eq hl)
    rw [hl, e, hs.len]
    exact rind_y N A m c bs S k d xs w hx hd hs hk hb _ rfl
end Go.Proofs.Ytgmdfaamheblmaa
