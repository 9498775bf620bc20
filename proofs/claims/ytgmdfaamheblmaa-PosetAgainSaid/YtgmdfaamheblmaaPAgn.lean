/- The body of PosetAgain. -/
import Derived.Test.YtgmdfaamheblmaaPAgM
import Derived.Deep.RegionLaw
namespace Go.Proofs.Ytgmdfaamheblmaa
open Go Go.RowKit PM

set_option maxHeartbeats 8000000 in
set_option maxRecDepth 100000 in
theorem agn_no (n z : Int) (A : Option Addr) (m c : Nat) (l : List (Int × Int)) (w : World) (hx : YL w A m l) (hm : m ≤ maxLen) (hf : ¬ m ≤ 150) :
    Calls Try.prog 8 #[.int .i64 n, .slice A m c, .int .u8 z] w fun e w' => e = .returned (.bool true) ∧ Below w.heap.size w w' := by
  have HX := hide hx
  have HM := hide hm
  have HF := hide (show decide (m ≤ 150) = false from decide_eq_false hf)
  clear hf
  clear hx hm
  go_enter Try.func8, Try.ntmps8
  go_wp2_with fail
  refine (awake_yes _).mono ?_
  rintro e w1 ⟨rfl, B⟩
  go_wp2_with fail
  refine (few_any A m c _ HM.out false HF.out).mono ?_
  rintro e w2 ⟨rfl, rfl⟩
  go_wp2_with fail
  refine (awake_yes _).mono ?_
  rintro e w2 ⟨rfl, hb⟩
  have B := B.trans (hb.mono B.size)
  go_wp2_with fail
  go_ret
  exact ⟨rfl, B⟩
set_option maxHeartbeats 8000000 in
set_option maxRecDepth 100000 in
theorem agn_v (n z : Int) (A : Option Addr) (m c : Nat) (l : List (Int × Int)) (w : World) (hx : YL w A m l) (hm : m ≤ maxLen) (hf : m ≤ 150) (hv : vB n l = false) :
    Calls Try.prog 8 #[.int .i64 n, .slice A m c, .int .u8 z] w fun e w' => e = .returned (.bool true) ∧ Below w.heap.size w w' := by
  have HX := hide hx
  have HM := hide hm
  have HF := hide (show decide (m ≤ 150) = true from decide_eq_true hf)
  have HV := hide hv
  have HC := hide (show resC n l = ([], 1) from by
    rcases resC_cases n l with ⟨_, h⟩ | ⟨N, bs, rfl, rfl, hd, _⟩
    · exact h
    · rw [vB_of hd] at hv; cases hv)
  clear hf hv
  clear hx hm
  go_enter Try.func8, Try.ntmps8
  go_wp2_with fail
  refine (awake_yes _).mono ?_
  rintro e w1 ⟨rfl, B⟩
  go_wp2_with fail
  refine (few_any A m c _ HM.out true HF.out).mono ?_
  rintro e w2 ⟨rfl, rfl⟩
  go_wp2_with fail
  refine (closure_any n A m c l _ (HX.out.keep B) HM.out [] 1 HC.out).mono ?_
  rintro e w3 ⟨⟨A3, c3, rfl, r3, s3, t3⟩, hb⟩
  have B := B.trans (hb.mono B.size)
  clear hb
  go_wp2_with fail
  refine (valid_any n A m c l _ (HX.out.keep B) HM.out false HV.out).mono ?_
  rintro e w4 ⟨rfl, hb⟩
  have B := B.trans (hb.mono B.size)
  clear hb
  go_wp2_with fail
  go_ret
  exact ⟨rfl, B⟩
set_option maxHeartbeats 8000000 in
set_option maxRecDepth 100000 in
theorem agn_c (N : Nat) (z : Int) (A : Option Addr) (m c : Nat) (bs : List (Nat × Nat)) (w : World) (hx : YL w A m (bs.map zA)) (hm : m ≤ maxLen) (hd : Dig N bs) (hf : m ≤ 150) (ha : acB N (bs.map zA) = false) :
    Calls Try.prog 8 #[.int .i64 (N : Int), .slice A m c, .int .u8 z] w fun e w' => e = .returned (.bool true) ∧ Below w.heap.size w w' := by
  have HX := hide hx
  have HM := hide hm
  have HF := hide (show decide (m ≤ 150) = true from decide_eq_true hf)
  have HD := hide hd
  have HN := hide hd.le
  obtain ⟨ls, hls⟩ : ∃ ls, listR N (off (war (adj bs) N)) = ls := ⟨_, rfl⟩
  have HDL := hide (show Dig N ls from by rw [← hls]; exact dig_list hd.le _)
  have HC := hide (show resC N (bs.map zA) = (ls, 0) from by rw [resC_dig hd, hls])
  have HC2 := hide (show resC N (ls.map zA) = (ls, 0) from by rw [resC_dig HDL.out]; rw [← hls, again_clos hd])
  have hlen : ls.length ≤ 576 := by rw [← hls]; exact listR_len hd.le _
  have HA := hide ha
  have HR := hide (show resR N (bs.map zA) = ([], 11) from by
    rcases resR_cases N (bs.map zA) with ⟨h, _⟩ | ⟨_, _, h⟩ | ⟨_, _, _, _, _, h, _⟩
    · rw [vB_of hd] at h; cases h
    · exact h
    · rw [ha] at h; cases h)
  clear ha
  clear hf hd hls
  clear hx hm
  go_enter Try.func8, Try.ntmps8
  go_wp2_with fail
  refine (awake_yes _).mono ?_
  rintro e w1 ⟨rfl, B⟩
  go_wp2_with fail
  refine (few_any A m c _ HM.out true HF.out).mono ?_
  rintro e w2 ⟨rfl, rfl⟩
  go_wp2_with fail
  refine (closure_any N A m c _ _ (HX.out.keep B) HM.out ls 0 HC.out).mono ?_
  rintro e w3 ⟨⟨A3, c3, rfl, r3, s3, t3⟩, hb⟩
  have B := B.trans (hb.mono B.size)
  clear hb
  have HMX := hide (show ls.length ≤ maxLen from by unfold maxLen; omega)
  go_wp2_with fail
  refine (closure_any N A3 _ c3 _ _ r3 HMX.out ls 0 HC2.out).mono ?_
  rintro e w4 ⟨⟨A4, c4, rfl, r4, s4, t4⟩, hb⟩
  have B := B.trans (hb.mono B.size)
  have r3 := r3.keep hb
  clear hb
  go_wp2_with fail
  refine (arcs_any A3 _ c3 _ A4 _ c4 _ _ r3 r4 (by omega) true (decide_eq_true rfl)).mono ?_
  rintro e w5 ⟨rfl, hb⟩
  have B := B.trans (hb.mono B.size)
  have r3 := r3.keep hb
  clear hb r4
  go_wp2_with fail
  refine (reduction_any N A m c _ _ (HX.out.keep B) HM.out [] 11 HR.out).mono ?_
  rintro e w6 ⟨⟨A6, c6, rfl, r6, s6, t6⟩, hb⟩
  have B := B.trans (hb.mono B.size)
  have r3 := r3.keep hb
  clear hb
  go_wp2_with fail
  refine (acyclic_any N A m c _ _ (HX.out.keep B) HM.out false HA.out).mono ?_
  rintro e w7 ⟨rfl, hb⟩
  have B := B.trans (hb.mono B.size)
  clear hb
  go_wp2_with fail
  go_ret
  exact ⟨rfl, B⟩
set_option maxHeartbeats 8000000 in
set_option maxRecDepth 100000 in
theorem agn_e (N : Nat) (z : Int) (A : Option Addr) (m c : Nat) (bs : List (Nat × Nat)) (w : World) (hx : YL w A m (bs.map zA)) (hm : m ≤ maxLen) (hd : Dig N bs) (hf : m ≤ 150) (ha : acB N (bs.map zA) = true) (he : listR N (off (red N (war (adj bs) N))) = []) :
    Calls Try.prog 8 #[.int .i64 (N : Int), .slice A m c, .int .u8 z] w fun e w' => e = .returned (.bool true) ∧ Below w.heap.size w w' := by
  have HX := hide hx
  have HM := hide hm
  have HF := hide (show decide (m ≤ 150) = true from decide_eq_true hf)
  have HD := hide hd
  have HN := hide hd.le
  obtain ⟨ls, hls⟩ : ∃ ls, listR N (off (war (adj bs) N)) = ls := ⟨_, rfl⟩
  have HDL := hide (show Dig N ls from by rw [← hls]; exact dig_list hd.le _)
  have HC := hide (show resC N (bs.map zA) = (ls, 0) from by rw [resC_dig hd, hls])
  have HC2 := hide (show resC N (ls.map zA) = (ls, 0) from by rw [resC_dig HDL.out]; rw [← hls, again_clos hd])
  have hlen : ls.length ≤ 576 := by rw [← hls]; exact listR_len hd.le _
  have hacy := acB_acy hd ha
  obtain ⟨rs, hrs⟩ : ∃ rs, listR N (off (red N (war (adj bs) N))) = rs := ⟨_, rfl⟩
  have HDR := hide (show Dig N rs from by rw [← hrs]; exact dig_list hd.le _)
  have HR := hide (show resR N (bs.map zA) = (rs, 0) from by
    rcases resR_cases N (bs.map zA) with ⟨h, _⟩ | ⟨_, h, _⟩ | ⟨N', bs', e1, e2, hd', _, h⟩
    · rw [vB_of hd] at h; cases h
    · rw [ha] at h; cases h
    · obtain rfl : N = N' := by omega
      have e3 : bs = bs' := by have := congrArg (List.map nA) e2; rwa [nA_zA, nA_zA] at this
      subst e3
      rw [h, hrs])
  have HC3 := hide (show resC N (rs.map zA) = (ls, 0) from by rw [resC_dig HDR.out, ← hrs, again_red hd hacy, hls])
  have hrl : rs.length ≤ 576 := by rw [← hrs]; exact listR_len hd.le _
  have HLE := hide (show ls.length = 0 from by rw [← hls, clos_none hd hacy he]; rfl)
  have HRE := hide (show rs.length = 0 from by rw [← hrs, he]; rfl)
  clear ha hacy hrs he
  clear hf hd hls
  clear hx hm
  go_enter Try.func8, Try.ntmps8
  go_wp2_with fail
  refine (awake_yes _).mono ?_
  rintro e w1 ⟨rfl, B⟩
  go_wp2_with fail
  refine (few_any A m c _ HM.out true HF.out).mono ?_
  rintro e w2 ⟨rfl, rfl⟩
  go_wp2_with fail
  refine (closure_any N A m c _ _ (HX.out.keep B) HM.out ls 0 HC.out).mono ?_
  rintro e w3 ⟨⟨A3, c3, rfl, r3, s3, t3⟩, hb⟩
  have B := B.trans (hb.mono B.size)
  clear hb
  have HMX := hide (show ls.length ≤ maxLen from by unfold maxLen; omega)
  go_wp2_with fail
  refine (closure_any N A3 _ c3 _ _ r3 HMX.out ls 0 HC2.out).mono ?_
  rintro e w4 ⟨⟨A4, c4, rfl, r4, s4, t4⟩, hb⟩
  have B := B.trans (hb.mono B.size)
  have r3 := r3.keep hb
  clear hb
  go_wp2_with fail
  refine (arcs_any A3 _ c3 _ A4 _ c4 _ _ r3 r4 (by omega) true (decide_eq_true rfl)).mono ?_
  rintro e w5 ⟨rfl, hb⟩
  have B := B.trans (hb.mono B.size)
  have r3 := r3.keep hb
  clear hb r4
  go_wp2_with fail
  refine (reduction_any N A m c _ _ (HX.out.keep B) HM.out rs 0 HR.out).mono ?_
  rintro e w6 ⟨⟨A6, c6, rfl, r6, s6, t6⟩, hb⟩
  have B := B.trans (hb.mono B.size)
  have r3 := r3.keep hb
  clear hb
  have HMR := hide (show rs.length ≤ maxLen from by unfold maxLen; omega)
  go_wp2_with fail
  refine (closure_any N A6 _ c6 _ _ r6 HMR.out ls 0 HC3.out).mono ?_
  rintro e w7 ⟨⟨A7, c7, rfl, r7, s7, t7⟩, hb⟩
  have B := B.trans (hb.mono B.size)
  have r3 := r3.keep hb
  have r6 := r6.keep hb
  clear hb
  go_wp2_with fail
  refine (arcs_any A3 _ c3 _ A7 _ c7 _ _ r3 r7 (by omega) true (decide_eq_true rfl)).mono ?_
  rintro e w8 ⟨rfl, hb⟩
  have B := B.trans (hb.mono B.size)
  have r3 := r3.keep hb
  have r6 := r6.keep hb
  clear hb r7
  have q1 := HRE.out
  have q2 := HLE.out
  rw [q1, q2]
  go_wp2_with fail
  go_ret
  exact ⟨rfl, B⟩
set_option maxHeartbeats 8000000 in
set_option maxRecDepth 100000 in
theorem agn_y (N : Nat) (z : Int) (A : Option Addr) (m c : Nat) (bs : List (Nat × Nat)) (w : World) (hx : YL w A m (bs.map zA)) (hm : m ≤ maxLen) (hd : Dig N bs) (hf : m ≤ 150) (ha : acB N (bs.map zA) = true) (hz : 0 ≤ z ∧ z ≤ 255) (he : listR N (off (red N (war (adj bs) N))) ≠ []) :
    Calls Try.prog 8 #[.int .i64 (N : Int), .slice A m c, .int .u8 z] w fun e w' => e = .returned (.bool true) ∧ Below w.heap.size w w' := by
  have HX := hide hx
  have HM := hide hm
  have HF := hide (show decide (m ≤ 150) = true from decide_eq_true hf)
  have HD := hide hd
  have HN := hide hd.le
  obtain ⟨ls, hls⟩ : ∃ ls, listR N (off (war (adj bs) N)) = ls := ⟨_, rfl⟩
  have HDL := hide (show Dig N ls from by rw [← hls]; exact dig_list hd.le _)
  have HC := hide (show resC N (bs.map zA) = (ls, 0) from by rw [resC_dig hd, hls])
  have HC2 := hide (show resC N (ls.map zA) = (ls, 0) from by rw [resC_dig HDL.out]; rw [← hls, again_clos hd])
  have hlen : ls.length ≤ 576 := by rw [← hls]; exact listR_len hd.le _
  have hacy := acB_acy hd ha
  obtain ⟨rs, hrs⟩ : ∃ rs, listR N (off (red N (war (adj bs) N))) = rs := ⟨_, rfl⟩
  have HDR := hide (show Dig N rs from by rw [← hrs]; exact dig_list hd.le _)
  have HR := hide (show resR N (bs.map zA) = (rs, 0) from by
    rcases resR_cases N (bs.map zA) with ⟨h, _⟩ | ⟨_, h, _⟩ | ⟨N', bs', e1, e2, hd', _, h⟩
    · rw [vB_of hd] at h; cases h
    · rw [ha] at h; cases h
    · obtain rfl : N = N' := by omega
      have e3 : bs = bs' := by have := congrArg (List.map nA) e2; rwa [nA_zA, nA_zA] at this
      subst e3
      rw [h, hrs])
  have HC3 := hide (show resC N (rs.map zA) = (ls, 0) from by rw [resC_dig HDR.out, ← hrs, again_red hd hacy, hls])
  have hrl : rs.length ≤ 576 := by rw [← hrs]; exact listR_len hd.le _
  have HNE := hide (show ∀ k, k < rs.length → resC N ((lessA rs k).map zA) = (listR N (off (war (adj (lessA rs k)) N)), 0) ∧ listR N (off (war (adj (lessA rs k)) N)) ≠ ls from fun k hk => by
    refine ⟨resC_dig (lessA_dig HDR.out k), ?_⟩
    rw [← hls, ← hrs]
    rw [← hrs] at hk
    exact again_less hd hacy hk)
  have hrp : 0 < rs.length := by
    rcases Nat.eq_zero_or_pos rs.length with h | h
    · rw [← hrs] at h; exact (he (List.eq_nil_of_length_eq_zero h)).elim
    · exact h
  clear ha hacy hrs he
  clear hf hd hls
  clear hx hm
  go_enter Try.func8, Try.ntmps8
  go_wp2_with fail
  refine (awake_yes _).mono ?_
  rintro e w1 ⟨rfl, B⟩
  go_wp2_with fail
  refine (few_any A m c _ HM.out true HF.out).mono ?_
  rintro e w2 ⟨rfl, rfl⟩
  go_wp2_with fail
  refine (closure_any N A m c _ _ (HX.out.keep B) HM.out ls 0 HC.out).mono ?_
  rintro e w3 ⟨⟨A3, c3, rfl, r3, s3, t3⟩, hb⟩
  have B := B.trans (hb.mono B.size)
  clear hb
  have HMX := hide (show ls.length ≤ maxLen from by unfold maxLen; omega)
  go_wp2_with fail
  refine (closure_any N A3 _ c3 _ _ r3 HMX.out ls 0 HC2.out).mono ?_
  rintro e w4 ⟨⟨A4, c4, rfl, r4, s4, t4⟩, hb⟩
  have B := B.trans (hb.mono B.size)
  have r3 := r3.keep hb
  clear hb
  go_wp2_with fail
  refine (arcs_any A3 _ c3 _ A4 _ c4 _ _ r3 r4 (by omega) true (decide_eq_true rfl)).mono ?_
  rintro e w5 ⟨rfl, hb⟩
  have B := B.trans (hb.mono B.size)
  have r3 := r3.keep hb
  clear hb r4
  go_wp2_with fail
  refine (reduction_any N A m c _ _ (HX.out.keep B) HM.out rs 0 HR.out).mono ?_
  rintro e w6 ⟨⟨A6, c6, rfl, r6, s6, t6⟩, hb⟩
  have B := B.trans (hb.mono B.size)
  have r3 := r3.keep hb
  clear hb
  have HMR := hide (show rs.length ≤ maxLen from by unfold maxLen; omega)
  go_wp2_with fail
  refine (closure_any N A6 _ c6 _ _ r6 HMR.out ls 0 HC3.out).mono ?_
  rintro e w7 ⟨⟨A7, c7, rfl, r7, s7, t7⟩, hb⟩
  have B := B.trans (hb.mono B.size)
  have r3 := r3.keep hb
  have r6 := r6.keep hb
  clear hb
  go_wp2_with fail
  refine (arcs_any A3 _ c3 _ A7 _ c7 _ _ r3 r7 (by omega) true (decide_eq_true rfl)).mono ?_
  rintro e w8 ⟨rfl, hb⟩
  have B := B.trans (hb.mono B.size)
  have r3 := r3.keep hb
  have r6 := r6.keep hb
  clear hb r7
  obtain ⟨Z, rfl⟩ : ∃ Z : Nat, z = (Z : Int) := ⟨z.toNat, by omega⟩
  have hZ : Z ≤ 255 := by omega
  obtain ⟨M, hM⟩ : ∃ M, rs.length = M := ⟨_, rfl⟩
  rw [hM]
  rw [hM] at r6 s6 hrp hrl
  have HMM := hide hM
  obtain ⟨k, hk⟩ : ∃ k, Z % M = k := ⟨_, rfl⟩
  have hkM : k < M := by rw [← hk]; exact Nat.mod_lt _ hrp
  have HK := hide (show (Z : Int) % (M : Int) = (k : Int) from by rw [← hk]; exact (Int.natCast_emod Z M).symm)
  obtain ⟨b, o, rfl, -, -⟩ := r6.2 hrp
  have d0 : ((M : Int) == 0) = false := beq_eq_false_iff_ne.2 (by omega)
  have d1 : (M == 0) = false := beq_eq_false_iff_ne.2 (by omega)
  have d2 : ¬ (M : Int) = 0 := by omega
  clear hk hM hz
  go_wp2_with fail
  rw [HK.out]
  have y1 := r6.take_ (show k ≤ M by omega)
  have y2 := r6.drop_ (show k + 1 ≤ M by omega)
  have F : Below w8.heap.size w8 (w8.alloc (.cells #[] 42)) := (Below.refl _ _).alloc (Nat.le_refl _) _
  have o0 : AR (w8.alloc (.cells #[] 42)) w8.heap.size (some ⟨w8.heap.size, 0, none⟩) 0 0 [] := World.ownsRow_lit w8 #[] 0 (Nat.le_refl _) (by simp [maxLen]) rfl
  have z1 := y1.keep F
  have i1 : (0 : Int) ≤ (k : Int) := by omega
  have i2 : (k : Int) ≤ (M : Int) := by omega
  have i3 : (k : Int) ≤ (c6 : Int) := by omega
  have i4 : (k : Int) + 1 ≤ (M : Int) := by omega
  have i5 : (0 : Int) ≤ (k : Int) + 1 := by omega
  have W1 : IntKind.i64.wrap ((k : Int) + 1) = (k : Int) + 1 := IntWalk.i64_in _ (by omega)
  have e9 : ((k : Int) + 1).toNat = k + 1 := by omega
  have z2 : YL w8 (if c6 = k + 1 then some ⟨b, o, none⟩ else some ⟨b, o + (k + 1) * 2, none⟩) (M - (k + 1)) ((rs.map zA).drop (k + 1)) := by
    split
    · have : M - (k + 1) = 0 := by omega
      exact ⟨y2.1, fun h => by omega⟩
    · exact y2
  have HG0 := hide B.size
  clear y1 y2 r6
  go_region_law (first
    | (refine step_append_ar rfl _ _ 22 rfl Try.underlying22 arc_info w8.heap.size _ 0 0 [] rfl o0 (some ⟨b, o, none⟩) k c6 _ rfl z1 k (by omega) (by omega) (by simp) ?_; intro A9 c9 w9 hr9 hG9; have E9 : Below w8.heap.size w8 w9 := Below.trans (by first | exact F | exact F.drew) hG9.1; have z3 := z2.keep E9; have hs9 := E9.size)
    | (go_loud (refine step_append_ar rfl _ _ 22 rfl Try.underlying22 arc_info w8.heap.size _ k c9 _ rfl hr9 _ (M - (k + 1)) (c6 - (k + 1)) _ rfl z3 (M - 1) (by omega) (by omega) hs9 ?_); intro A10 c10 w10 hr10 hG10))
  all_goals
    have E10 : Below w8.heap.size w8 w10 := E9.trans hG10.1
    have B10 := B.trans (E10.mono B.size)
    have r3 := r3.keep E10
    have y10 := hr10.yl
    obtain ⟨xs, hxs⟩ : ∃ xs, lessA rs k = xs := ⟨_, rfl⟩
    have HXS := hide (show [] ++ (rs.map zA).take k ++ (rs.map zA).drop (k + 1) = xs.map zA from by
      rw [← hxs]; unfold lessA
      rw [List.map_append, List.map_take, List.map_drop]; rfl)
    rw [HXS.out] at y10
    obtain ⟨h1, h2⟩ := HNE.out k (by rw [HMM.out]; exact hkM)
    rw [hxs] at h1 h2
    obtain ⟨ts, hts⟩ : ∃ ts, listR N (off (war (adj xs) N)) = ts := ⟨_, rfl⟩
    rw [hts] at h1 h2
    have HC4 := hide h1
    have HD4 := hide (show decide (ls.map zA = ts.map zA) = false from decide_eq_false fun e => h2 (by
      have := congrArg (List.map nA) e
      rw [nA_zA, nA_zA] at this
      exact this.symm))
    have htl : ts.length ≤ 576 := by rw [← hts]; exact listR_len HN.out _
    have HMY := hide (show M - 1 ≤ maxLen from by unfold maxLen; omega)
    clear h1 h2 hts hxs hG10 hr10 hr9 hG9 z3 z2 z1 E9 E10 o0 F
    go_wp2_with fail
    all_goals
      refine (closure_any N A10 _ c10 _ _ y10 HMY.out ts 0 HC4.out).mono ?_
      rintro e w11 ⟨⟨A11, c11, rfl, r11, -, -⟩, hb⟩
      have B10 := B10.trans (hb.mono B10.size)
      have r3 := r3.keep hb
      clear hb
      go_wp2_with fail
      refine (arcs_any A3 _ c3 _ A11 _ c11 _ _ r3 r11 (by omega) false HD4.out).mono ?_
      rintro e w12 ⟨rfl, hb⟩
      have B10 := B10.trans (hb.mono B10.size)
      go_wp2_with fail
      go_ret
      exact ⟨rfl, B10⟩
theorem agn_all (n z : Int) (A : Option Addr) (m c : Nat) (l : List (Int × Int)) (w : World) (hx : YL w A m l) (hm : m ≤ maxLen) (hz : 0 ≤ z ∧ z ≤ 255) :
    Calls Try.prog 8 #[.int .i64 n, .slice A m c, .int .u8 z] w fun e w' => e = .returned (.bool true) ∧ Below w.heap.size w w' := by
  by_cases hf : m ≤ 150
  · rcases hv : vB n l with _ | _
    · exact agn_v n z A m c l w hx hm hf hv
    · obtain ⟨N, bs, rfl, rfl, hd⟩ := vB_true hv
      rcases ha : acB N (bs.map zA) with _ | _
      · exact agn_c N z A m c bs w hx hm hd hf ha
      · by_cases he : listR N (off (red N (war (adj bs) N))) = []
        · exact agn_e N z A m c bs w hx hm hd hf ha he
        · exact agn_y N z A m c bs w hx hm hd hf ha hz he
  · exact agn_no n z A m c l w hx hm hf
end Go.Proofs.Ytgmdfaamheblmaa
