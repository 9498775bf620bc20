/- The body of LabelShort. -/
import Derived.Test.YtdoknlodnpeeoaaDoorLShM
import Derived.Test.YtdoknlodnpeeoaaDoorLIRo2
import Derived.Test.YtdoknlodnpeeoaaDoorLAwk
import Derived.IntWalk
namespace Go.Proofs.YtdoknlodnpeeoaaDoor
open Go Go.RowKit Go.Lib

theorem il_one (W : World) (x : Int) (t : TypeId) : IL (W.alloc (.cells #[.int .i64 x] t)) (some ⟨W.heap.size, 0, none⟩) 1 [x] :=
  ⟨rfl, fun _ => ⟨_, _, rfl, fun j y h => by
    rcases j with _ | j
    · simp at h; subst h; exact (Box.new W #[.int .i64 x] t).cell
    · simp at h⟩⟩
theorem sho_s (a q j : Nat) (h1 : 1 ≤ a) (h9 : a ≤ 900) (hq : q ≤ 19) (hj : j ≤ q) : ∃ S T U, (runT (ints5 (uptoL a (q + 3))) = S ∧ runE (ints5 (uptoL a (q + 3))) = 0) ∧ (runT (ints5 (partU a (j + 1) (q + 3))) = T ∧ runE (ints5 (partU a (j + 1) (q + 3))) = 0) ∧ (runT [(a : Int)] = U ∧ runE [(a : Int)] = 0) ∧
    cnt44 T.data.toList = 1 ∧ U.size < S.size ∧ S.extract 0 U.size = U ∧ S ≠ T ∧ T.size ≤ 1000 := by
  have hp : partU a (j + 1) (q + 3) = uptoL a (j + 1) ++ uptoL (a + j + 2) ((q - j) + 1) := by
    unfold partU
    rw [if_neg (by omega), show a + (j + 1) + 1 = a + j + 2 by omega, show q + 3 - (j + 1) - 1 = (q - j) + 1 by omega]
  have b1 := allB a (q + 2) h1 (by omega)
  have b2 := partB a j (q - j) h1 (by omega)
  have b3 : setB 1000 1 [(a : Int)] = true := allB a 0 h1 (by omega)
  have g0 : groupL a (a + 0) = Lib.decDigits a := if_pos rfl
  have g1 : groupL a (a + (q + 2)) = Lib.decDigits a ++ 45 :: Lib.decDigits (a + (q + 2)) := if_neg (by omega)
  refine ⟨strB (groupL a (a + (q + 2))), strB (groupL a (a + j) ++ 44 :: 32 :: groupL (a + j + 2) (a + j + 2 + (q - j))), strB (groupL a (a + 0)),
    ⟨by unfold runT; rw [if_pos b1]; exact allT a (q + 2), by unfold runE; rw [if_pos b1]⟩,
    ⟨by rw [hp]; unfold runT; rw [if_pos b2]; exact partT a j (q - j), by rw [hp]; unfold runE; rw [if_pos b2]⟩,
    ⟨by unfold runT; rw [if_pos b3]; exact allT a 0, by unfold runE; rw [if_pos b3]⟩, ?_, ?_, ?_, ?_, ?_⟩
  · rw [data_strB]; exact cnt_part _ _ _ _
  · rw [strB_size, strB_size, g0, g1, List.length_append, List.length_cons]; omega
  · rw [strB_size, g0, g1, ← strB_data ((strB _).extract _ _)]
    congr 1
    simp [strB]
  · intro e
    have := congrArg (fun x : ByteArray => cnt44 x.data.toList) e
    simp only [data_strB] at this
    rw [cnt_part, cnt_no _ (groupL_no44 _ _)] at this
    exact absurd this (by decide)
  · rw [← partT a j (q - j)]
    have := runsT_size b2
    rw [ints5_len, List.length_append, uptoL_len, uptoL_len] at this
    omega
set_option maxRecDepth 100000 in
set_option maxHeartbeats 16000000 in
theorem short_all0 (f g h : Nat) (w : World) (hT : Lw w) (hf : f < 65536) (hg : g < 256) (hh : h < 256) :
    Calls Tryd.prog 9 #[.int .u16 (f : Int), .int .u8 (g : Int), .int .u8 (h : Int)] w fun e w' => e = .returned (.bool true) ∧ Below w.heap.size w w' := by
  have HT := hide hT
  have HF := hide hf
  obtain ⟨q, hq⟩ : ∃ q, g % 20 = q := ⟨_, rfl⟩
  obtain ⟨a0, ha0⟩ : ∃ q, f % 900 = q := ⟨_, rfl⟩
  obtain ⟨j, hj⟩ : ∃ j, h % (q + 1) = j := ⟨_, rfl⟩
  have hq20 : q < 20 := by omega
  have ha900 : a0 < 900 := by omega
  have hjq : j < q + 1 := by rw [← hj]; exact Nat.mod_lt _ (by omega)
  have v1 : IntKind.i64.wrap (f : Int) = (f : Int) := IntWalk.i64_in _ (by omega)
  have v2 : IntKind.i64.wrap (g : Int) = (g : Int) := IntWalk.i64_in _ (by omega)
  have v3 : IntKind.i64.wrap (h : Int) = (h : Int) := IntWalk.i64_in _ (by omega)
  have t1 : (g : Int).tmod 20 = (q : Int) := by rw [← hq]; exact (Int.ofNat_tmod g 20).symm
  have t2 : (f : Int).tmod 900 = (a0 : Int) := by rw [← ha0]; exact (Int.ofNat_tmod f 900).symm
  obtain ⟨n, hn⟩ : ∃ n : Nat, 3 + q = n := ⟨_, rfl⟩
  obtain ⟨a, ha⟩ : ∃ n : Nat, 1 + a0 = n := ⟨_, rfl⟩
  obtain ⟨k, hk⟩ : ∃ n : Nat, 1 + j = n := ⟨_, rfl⟩
  have s1 : (3 : Int) + (q : Int) = (n : Int) := by omega
  have s2 : (1 : Int) + (a0 : Int) = (a : Int) := by omega
  have s3 : (n : Int) - 2 = ((q + 1 : Nat) : Int) := by omega
  have t3 : (h : Int).tmod ((n : Int) - 2) = (j : Int) := by rw [s3, ← hj]; exact (Int.ofNat_tmod h (q + 1)).symm
  have nz : ((n : Int) - 2 == 0) = false := beq_eq_false_iff_ne.2 (by omega)
  have s4 : (1 : Int) + (j : Int) = (k : Int) := by omega
  clear s3
  clear hT
  go_enter Tryd.func9, Tryd.ntmps9
  have B := Below.refl w.heap.size w
  go_wp2_with fail
  refine (awake_yes _ HT.out).mono ?_
  rintro e w1 ⟨rfl, hb⟩
  replace B := B.trans (hb.mono B.size)
  clear hb
  go_wp2_with fail
  have HA1 := hide (show 1 ≤ a from by omega)
  have HA9 := hide (show a ≤ 900 from by omega)
  have HN3 := hide (show n = q + 3 from by omega)
  have HK := hide (show k = j + 1 ∧ j ≤ q from by omega)
  have hn9 : n ≤ 22 := by omega
  obtain ⟨S, T, U, ⟨hS, hSE⟩, ⟨hT2, hTE⟩, ⟨hU, hUE⟩, hC, hz1, hz2, hz3, hz4⟩ := sho_s a q j (by omega) (by omega) (by omega) (by omega)
  have en : q + 3 = n := by omega
  have ek : j + 1 = k := by omega
  rw [en] at hS hSE hT2 hTE
  rw [ek] at hT2 hTE
  have HS := hide hS
  have HSE := hide hSE
  have HT2 := hide hT2
  have HTE := hide hTE
  have HU := hide hU
  have HUE := hide hUE
  have HC := hide hC
  have HZ1 := hide hz1
  have HZ2 := hide hz2
  have HZ3 := hide hz3
  have HZ4 := hide hz4
  clear hS hSE hT2 hTE hU hUE hC hz1 hz2 hz3 hz4 en ek
  have ha9 : a ≤ 900 := by omega
  clear t1 t2 t3 nz s1 s2 s4 v1 v2 v3 hq ha0 hj hq20 ha900 hjq hn ha hk
  go_loopw [10, 11, 12] (fun v10 v11 v12 wr => ∃ (i n2 c1 c2 : Nat) (A1 A2 : Option Addr), i ≤ n ∧ n2 ≤ i ∧ v12 = .int .i64 ((i : Nat) : Int) ∧ v10 = .slice A1 i c1 ∧ v11 = .slice A2 n2 c2 ∧ Hid (IR wr w.heap.size A1 i c1 (uptoL a i)) ∧ Hid (IR wr w.heap.size A2 n2 c2 (partU a k i)) ∧ Hid (Apart A1 A2) ∧ Hid (Below w.heap.size w wr)) (fun _ _ v12 _ => n - (RowKit.intOf v12).toNat)
  case atStart => exact ⟨0, 0, 0, 0, none, none, Nat.zero_le _, Nat.zero_le _, rfl, rfl, rfl, hide IR.nil_, hide (by unfold partU; rw [if_pos (Nat.zero_le _)]; exact IR.nil_), hide (Apart.none_ _), hide B⟩
  case round =>
    clear B
    obtain ⟨i, n2, c1, c2, A1, A2, hi, hn2, rfl, rfl, rfl, H1, H2, HP, HB⟩ := hrel
    generalize hwr : wr = W at *
    clear hwr
    by_cases hlt : i < n
    · have d0 : decide ((i : Int) < (n : Int)) = true := decide_eq_true (by omega)
      obtain ⟨v, hv⟩ : ∃ v, a + i = v := ⟨_, rfl⟩
      have he : (a : Int) + (i : Int) = (v : Int) := by omega
      have hw : IntKind.i64.wrap (v : Int) = (v : Int) := IntWalk.i64_in _ (by omega)
      have hwi : IntKind.i64.wrap ((i : Int) + 1) = (i : Int) + 1 := IntWalk.i64_in _ (by omega)
      have HV := hide hv
      clear hv
      have F : Below W.heap.size W (W.alloc (.cells #[.int .i64 (v : Int)] 3)) := (Below.refl _ _).alloc (Nat.le_refl _) _
      have hB := HB.out
      have HG := hide (show w.heap.size ≤ (W.alloc (.cells #[.int .i64 (v : Int)] 3)).heap.size from Nat.le_trans hB.size F.size)
      clear hB
      by_cases hk : i = k
      · have e7 : ((i : Int) == (k : Int)) = true := beq_iff_eq.2 (by omega)
        have e8 : (i == k) = true := beq_iff_eq.2 hk
        subst hk
        go_wp2_with (at_builtin; refine wpList_append_ir2 rfl _ _ 34 rfl 8 Tryd.underlying34 int_info w.heap.size A1 i c1 (uptoL a i) rfl (H1.out.below F) W.heap.size 0 1 v rfl (Box.new W #[.int .i64 (v : Int)] 3).cell (by omega) (i + 1) rfl (by omega) HG.out ?_; intro A8 c8 w8 hr8 hG8 ho8)
        go_roundw
        case measure => simp [RowKit.intOf]; omega
        case rel => exact ⟨i + 1, n2, c8, c2, A8, A2, by omega, by omega, by go_num, rfl, rfl, hide (by rw [← HV.out] at hr8; exact hr8), hide (by rw [partU_eq]; exact (H2.out.below F).keep hG8 HP.out), hide (HP.out.left (H2.out.below F) ho8), hide ((HB.out.trans (F.mono HB.out.size)).trans hG8.1)⟩
      · have e7 : ((i : Int) == (k : Int)) = false := beq_eq_false_iff_ne.2 (by omega)
        have e8 : (i == k) = false := beq_eq_false_iff_ne.2 hk
        have HNE := hide hk
        clear hk
        go_wp2_with (first | (at_builtin; refine wpList_append_ir2 rfl _ _ 34 rfl 8 Tryd.underlying34 int_info w.heap.size A1 i c1 (uptoL a i) rfl (H1.out.below F) W.heap.size 0 1 v rfl (Box.new W #[.int .i64 (v : Int)] 3).cell (by omega) (i + 1) rfl (by omega) HG.out ?_; intro A8 c8 w8 hr8 hG8 ho8; have F2 : Below w8.heap.size w8 (w8.alloc (.cells #[.int .i64 (v : Int)] 3)) := (Below.refl _ _).alloc (Nat.le_refl _) _; have HI2 := hide (((H2.out.below F).keep hG8 HP.out).below F2); have HI1 := hide (hr8.below F2); have HP2 := hide (HP.out.left (H2.out.below F) ho8); have HB2 := hide (((HB.out.trans (F.mono HB.out.size)).trans hG8.1).trans (F2.mono (Nat.le_trans HG.out hG8.2.1))); have HG2 := hide (Nat.le_trans (Nat.le_trans HG.out hG8.2.1) F2.size); clear hr8 hG8 ho8) | (at_builtin; refine wpList_append_ir2 rfl _ _ 34 rfl 8 Tryd.underlying34 int_info w.heap.size A2 n2 c2 (partU a k i) rfl HI2.out w8.heap.size 0 1 v rfl (Box.new w8 #[.int .i64 (v : Int)] 3).cell (by omega) (n2 + 1) rfl (by omega) HG2.out ?_; intro A9 c9 w9 hr9 hG9 ho9))
        go_roundw
        case measure => simp [RowKit.intOf]; omega
        case rel => exact ⟨i + 1, n2 + 1, c8, c9, A8, A9, by omega, by omega, by go_num, rfl, rfl, hide (by have h := HI1.out.keep hG9 HP2.out.symm; rw [← HV.out] at h; exact h), hide (by rw [partU_ne HNE.out, HV.out]; exact hr9), hide (HP2.out.symm.left HI1.out ho9).symm, hide (HB2.out.trans hG9.1)⟩
    · obtain rfl : i = n := by omega
      have d0 : decide ((i : Int) < (i : Int)) = false := decide_eq_false (by omega)
      have hle1 := HB.out.size
      go_wp2_with fail
      refine (runs_all A1 i c1 (ints5 (uptoL a i)) _ (rl_il H1.out.rl) H1.out.le.1 H1.out.le.2 (HT.out.below HB.out) S 0 HS.out HSE.out).mono ?_
      rintro e x1 ⟨rfl, hb1⟩
      have H3 := hide (H2.out.below hb1)
      have HB3 := hide (HB.out.trans (hb1.mono HB.out.size))
      clear hb1 hle1
      go_wp2_with fail
      refine (runs_all A2 n2 c2 (ints5 (partU a k i)) _ (rl_il H3.out.rl) H3.out.le.1 H3.out.le.2 (HT.out.below HB3.out) T 0 HT2.out HTE.out).mono ?_
      rintro e x2 ⟨rfl, hb2⟩
      have HB4 := hide (HB3.out.trans (hb2.mono HB3.out.size))
      clear hb2
      have hT9 := HZ4.out
      go_wp2_with fail
      go_loop [17, 18] (fun v17 v18 => ∃ p m : Nat, m ≤ T.size ∧ v18 = .int .i64 ((m : Nat) : Int) ∧ v17 = .int .i64 ((p : Nat) : Int) ∧ p ≤ 1 ∧ Hid (p + cnt44 (T.data.toList.drop m) = 1)) (fun _ v18 => T.size - (RowKit.intOf v18).toNat)
      case atStart => exact ⟨0, 0, Nat.zero_le _, rfl, rfl, by omega, hide (by rw [List.drop_zero, HC.out])⟩
      case round =>
        obtain ⟨p, m, hm, rfl, rfl, hp1, HCM⟩ := hrel
        have i1 : (0 : Int) ≤ (m : Int) := by omega
        by_cases hlm : m < T.size
        · have d1 : decide ((m : Int) < (T.size : Int)) = true := decide_eq_true (by omega)
          have hwm : IntKind.i64.wrap ((m : Int) + 1) = (m : Int) + 1 := IntWalk.i64_in _ (by omega)
          have hwp : IntKind.i64.wrap ((p : Int) + 1) = (p : Int) + 1 := IntWalk.i64_in _ (by omega)
          have HD := hide (show p + cnt44 (T[m] :: T.data.toList.drop (m + 1)) = 1 from by rw [← drop_atB (at_some T m hlm)]; exact HCM.out)
          by_cases h44 : T[m].toNat = 44
          · have c1 : ((T[m].toNat : Int) == 44) = true := beq_iff_eq.2 (by omega)
            have HN := hide (show p + 1 + cnt44 (T.data.toList.drop (m + 1)) = 1 from by
              have h := HD.out
              rw [cnt_cons, if_pos h44] at h
              omega)
            clear h44 HD HCM
            go_wp2_with fail
            go_round
            case rel => exact ⟨p + 1, m + 1, by omega, by go_num, by go_num, by have := HN.out; omega, HN⟩
            case measure => simp [RowKit.intOf]; omega
          · have c1 : ((T[m].toNat : Int) == 44) = false := beq_eq_false_iff_ne.2 (by omega)
            have HN := hide (show p + cnt44 (T.data.toList.drop (m + 1)) = 1 from by
              have h := HD.out
              rw [cnt_cons, if_neg h44] at h
              omega)
            clear h44 HD HCM
            go_wp2_with fail
            go_round
            case rel => exact ⟨p, m + 1, by omega, by go_num, rfl, hp1, HN⟩
            case measure => simp [RowKit.intOf]; omega
        · obtain rfl : m = T.size := by omega
          obtain rfl : p = 1 := by
            have h := HCM.out
            rw [List.drop_of_length_le (by rw [← Lib.size_eq]; exact Nat.le_refl _)] at h
            have e : cnt44 [] = 0 := rfl
            omega
          have d1 : decide ((T.size : Int) < (T.size : Int)) = false := decide_eq_false (by omega)
          go_wp2_with fail
          refine (rruns_all (some ⟨x2.heap.size, 0, none⟩) 1 1 [(a : Int)] _ (il_one x2 (a : Int) 3) (by simp [maxLen]) U 0 HU.out HUE.out).mono ?_
          rintro e x3 ⟨rfl, hb3⟩
          have z1 : decide ((U.size : Int) < (S.size : Int)) = true := decide_eq_true (by have := HZ1.out; omega)
          have z2 : (U.size : Int) ≤ (S.size : Int) := by have := HZ1.out; omega
          have z3 := HZ2.out
          have z4 : (S.toList == T.toList) = false := beq_eq_false_iff_ne.2 fun h => HZ3.out (toList_inj h)
          have z5 : (0 : Int) ≤ (U.size : Int) := by omega
          have hb4 : Below w.heap.size w x3 := (HB4.out.alloc HB4.out.size _).trans (hb3.mono (Nat.le_trans HB4.out.size (by simp)))
          clear hb3
          go_wp2_with fail
          go_ret
          exact ⟨rfl, hb4⟩
theorem shorts_all (a b c : Int) (w : World) (hT : Lw w) (wa : (Lit.int .u16 a).wf = true) (wb : (Lit.int .u8 b).wf = true) (wc : (Lit.int .u8 c).wf = true) :
    Calls Tryd.prog 9 #[.int .u16 a, .int .u8 b, .int .u8 c] w fun e w' => e = .returned (.bool true) ∧ Below w.heap.size w w' := by
  have r1 : 0 ≤ a ∧ a < 65536 := by
    simp [Lit.wf, IntKind.min, IntKind.max, IntKind.signed, IntKind.bits] at wa
    omega
  have r2 : 0 ≤ b ∧ b < 256 := by
    simp [Lit.wf, IntKind.min, IntKind.max, IntKind.signed, IntKind.bits] at wb
    omega
  have r3 : 0 ≤ c ∧ c < 256 := by
    simp [Lit.wf, IntKind.min, IntKind.max, IntKind.signed, IntKind.bits] at wc
    omega
  obtain ⟨f, rfl⟩ : ∃ f : Nat, a = (f : Int) := ⟨a.toNat, by omega⟩
  obtain ⟨g, rfl⟩ : ∃ f : Nat, b = (f : Int) := ⟨b.toNat, by omega⟩
  obtain ⟨h, rfl⟩ : ∃ f : Nat, c = (f : Int) := ⟨c.toNat, by omega⟩
  exact short_all0 f g h w hT (by omega) (by omega) (by omega)
end Go.Proofs.YtdoknlodnpeeoaaDoor
