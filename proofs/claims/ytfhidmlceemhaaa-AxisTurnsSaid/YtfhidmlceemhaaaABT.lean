/- AxisTurns returns true for every slice of numbers and every two numbers. -/
import Derived.Test.YtfhidmlceemhaaaABF
import Derived.Test.YtfhidmlceemhaaaABC
import Derived.Deep.RegionLaw
namespace Go.Proofs.Ytfhidmlceemhaaa
open Go Go.RowKit Go.Lib
open AM
theorem ct_at (l : List Int) {o : Nat} (ho : o < 12) : (castL (ctL l))[o]? = some (ctX l o : Int) := by
  rw [castL_at, ctL_at l ho]; rfl
set_option maxHeartbeats 8000000 in
set_option maxRecDepth 100000 in
theorem tur_all (A : Option Addr) (n c : Nat) (l : List Int) (t k : Int) (w : World) (hr : IS w A n l) :
    Calls Try.prog 9 #[.slice A n c, .int .i64 t, .int .i64 k] w fun e w' => e = .returned (.bool true) ∧ Below w.heap.size w w' := by
  have HR := hide hr
  have HN := hide hr.1
  clear hr
  by_cases hf : n ≤ 80
  · have f1 := hide (decide_eq_true hf)
    go_enter Try.func9, Try.ntmps9
    go_wp2_with fail
    refine (awake_yes _).mono ?_
    rintro e w1 ⟨rfl, hb⟩
    have HB := hide hb
    clear hb
    go_wp2_with fail
    refine (few_any A n c _ true f1.out).mono ?_
    rintro e w2 ⟨rfl, rfl⟩
    go_wp2_with fail

    obtain ⟨r0, hr0⟩ : ∃ r, chkX l = r := ⟨_, rfl⟩
    have hc := chkX_cases l
    refine (turned_any A n c l t _ (HR.out.keep HB.out)).mono ?_
    rintro e w3 ⟨A1, n1, c1, rfl, r1, hb⟩
    have HB0 := hide (nxt HB.out hb)
    have H1 := hide r1
    rw [hr0] at hc ⊢
    clear HB hb r1
    by_cases h0 : r0 = 0
    · subst h0
      have H0 := hide hr0
      have HL := hide (chkX_sub hr0)
      have hn64 : n ≤ 64 := by rw [← HN.out]; exact HL.out.1
      rw [show turnX l t = rotX l t from if_pos hr0] at H1
      clear hr0 hc
      obtain ⟨rv, hrv⟩ : ∃ rv, chkSX l = rv := ⟨_, rfl⟩
      have r := hide hrv
      have rT := hide ((rotX_chkS H0.out t).trans hrv)
      obtain ⟨p, hp⟩ : ∃ p, k % 12 = p := ⟨_, rfl⟩
      have HP := hide hp
      have hp0 : 0 ≤ p := by omega
      have hp1 : p < 12 := by omega
      have dd := hide (show chkDX l (1 + p) = 0 from by unfold chkDX; rw [if_pos H0.out, if_pos (by omega)])
      have ddT := hide ((rotX_chkD H0.out t (1 + p)).trans dd.out)
      obtain ⟨ddv, hdv⟩ : ∃ x : Int, x = 0 := ⟨_, rfl⟩
      have d := hide (dd.out.trans hdv.symm)
      have dT := hide (ddT.out.trans hdv.symm)
      have dv := hdv
      clear hrv hp dd ddT
      have w1 : IntKind.i64.wrap (1 + p) = 1 + p := IntWalk.i64_in _ (by omega)
      have HK := hide (show (((1 + p).toNat : Nat) : Int) = 1 + p from by omega)
      obtain ⟨z, hz⟩ : ∃ z, (1 + p).tdiv 2 = z := ⟨_, rfl⟩
      have w2 : IntKind.i64.wrap z = z := IntWalk.i64_in _ (by rw [← hz, Int.tdiv_eq_ediv_of_nonneg (by omega)]; omega)
      clear dv
      go_wp2_with fail
      refine (mod_any k 12 (by decide) (by decide) p HP.out _).mono ?_
      rintro e w4 ⟨rfl, rfl⟩
      go_wp2_with fail

      refine (arc_any A n c l _ (HR.out.keep HB0.out)).mono ?_
      rintro e w5 ⟨h1, m1, rfl, p1, q1, hb⟩
      have HB1 := hide (nxt HB0.out hb)
      rw [r.out] at p1 q1 ⊢
      have P1 := hide p1
      have Q1 := hide q1
      replace H1 := hide (H1.out.keep hb)
      clear hb p1 q1 HB0
      go_wp2_with fail
      refine (arc_any A1 n1 c1 (rotX l t) _ H1.out).mono ?_
      rintro e w6 ⟨i1, j1, rfl, p1, q1, hb⟩
      have HB2 := hide (nxt HB1.out hb)
      rw [rT.out] at p1 q1 ⊢
      obtain rfl : m1 = j1 := by
        by_cases hz : rv = 0
        · exact rot_arc (P1.out hz) (p1 hz)
        · exact (Q1.out hz).2.trans (q1 hz).2.symm
      replace H1 := hide (H1.out.keep hb)
      clear hb p1 q1 P1 Q1 HB1
      go_wp2_with fail

      refine (median_any A n c l _ (HR.out.keep HB2.out)).mono ?_
      rintro e w7 ⟨h2, m2, rfl, p2, q2, hb⟩
      have HB3 := hide (nxt HB2.out hb)
      rw [r.out] at p2 q2 ⊢
      have P2 := hide p2
      have Q2 := hide q2
      replace H1 := hide (H1.out.keep hb)
      clear hb p2 q2 HB2
      go_wp2_with fail
      refine (median_any A1 n1 c1 (rotX l t) _ H1.out).mono ?_
      rintro e w8 ⟨i2, j2, rfl, p2, q2, hb⟩
      have HB4 := hide (nxt HB3.out hb)
      rw [rT.out] at p2 q2 ⊢
      obtain rfl : m2 = j2 := by
        by_cases hz : rv = 0
        · exact rot_med HL.out.2 (P2.out hz) (p2 hz)
        · exact (Q2.out hz).2.trans (q2 hz).2.symm
      replace H1 := hide (H1.out.keep hb)
      clear hb p2 q2 P2 Q2 HB3
      go_wp2_with fail

      refine (den_any A n c l (1 + p) _ (HR.out.keep HB4.out)).mono ?_
      rintro e w9 ⟨h3, m3, rfl, p3, q3, hb⟩
      have HB5 := hide (nxt HB4.out hb)
      rw [d.out] at p3 q3 ⊢
      have P3 := hide p3
      have Q3 := hide q3
      replace H1 := hide (H1.out.keep hb)
      clear hb p3 q3 HB4
      go_wp2_with fail
      refine (den_any A1 n1 c1 (rotX l t) (1 + p) _ H1.out).mono ?_
      rintro e w10 ⟨i3, j3, rfl, p3, q3, hb⟩
      have HB6 := hide (nxt HB5.out hb)
      rw [dT.out] at p3 q3 ⊢
      obtain rfl : m3 = j3 := by
        by_cases hz : ddv = 0
        · exact rot_den (P3.out hz) (p3 hz)
        · exact (Q3.out hz).2.trans (q3 hz).2.symm
      replace H1 := hide (H1.out.keep hb)
      clear hb p3 q3 P3 Q3 HB5
      go_wp2_with fail

      obtain ⟨v, hv⟩ : ∃ v, fixX l z = v := ⟨_, rfl⟩
      have HV := hide hv
      have HVT := hide ((rot_fix H0.out t z).trans hv)
      clear hv
      refine (fixed_any A n c l z _ (HR.out.keep HB6.out)).mono ?_
      rintro e w12 ⟨rfl, hb⟩
      have HB7 := hide (nxt HB6.out hb)
      replace H1 := hide (H1.out.keep hb)
      rw [HV.out]
      clear hb HB6
      go_wp2_with fail
      refine (fixed_any A1 n1 c1 (rotX l t) z _ H1.out).mono ?_
      rintro e w13 ⟨rfl, hb⟩
      have HB8 := hide (nxt HB7.out hb)
      replace H1 := hide (H1.out.keep hb)
      rw [HVT.out]
      clear hb HB7
      go_wp2_with fail
      refine (counts_any A n c l _ (HR.out.keep HB8.out)).mono ?_
      rintro e w14 ⟨A2, n2, c2, rfl, r2, hb⟩
      have HB9 := hide (nxt HB8.out hb)
      replace H1 := hide (H1.out.keep hb)
      rw [H0.out]
      rw [show cntX l = castL (ctL l) from if_pos H0.out] at r2
      obtain rfl : n2 = 12 := by rw [← r2.1]; unfold castL; rw [List.length_map, ctL_len]
      have H2 := hide r2
      clear hb HB8 r2
      go_wp2_with fail
      have H0T := hide (rotX_chk H0.out t)
      refine (counts_any A1 n1 c1 (rotX l t) _ H1.out).mono ?_
      rintro e w15 ⟨A3, n3, c3, rfl, r3, hb⟩
      have HB10 := hide (nxt HB9.out hb)
      replace H1 := hide (H1.out.keep hb)
      replace H2 := hide (H2.out.keep hb)
      rw [H0T.out]
      rw [show cntX (rotX l t) = castL (ctL (rotX l t)) from if_pos H0T.out] at r3
      obtain rfl : n3 = 12 := by rw [← r3.1]; unfold castL; rw [List.length_map, ctL_len]
      have H3 := hide r3
      clear hb HB9 r3
      obtain ⟨q, hq⟩ : ∃ q, t % 12 = q := ⟨_, rfl⟩
      have hq0 : 0 ≤ q := by omega
      have hq1 : q < 12 := by omega
      have HQ := hide hq
      clear hq
      go_wp2_with fail
      go_loopw [31] (fun b wr => ∃ j : Nat, j ≤ 12 ∧ b = .int .i64 (j : Int) ∧ Hid (Below w15.heap.size w15 wr)) (fun b _ => 12 - (RowKit.intOf b).toNat)
      case atStart => exact ⟨0, Nat.zero_le _, rfl, hide (Below.refl _ _)⟩
      case round =>
        obtain ⟨j, hj, rfl, HBR⟩ := hrel
        by_cases hlt : j < 12
        · have d3 : decide ((j : Int) < 12) = true := decide_eq_true (by omega)
          obtain ⟨m, hm12, hm⟩ := hour_nat ((j : Int) + q)
          have HM := hide hm
          have HCT := hide (rot_ct (l := l) (o := j) (m := m) hlt (n := t) (by have := HQ.out; omega) HL.out.2)
          obtain ⟨b2, o2, x2, rfl, hl2, hx2, k2⟩ := (H2.out.keep HBR.out).at_ hlt
          obtain ⟨b3, o3, x3, rfl, hl3, hx3, k3⟩ := (H3.out.keep HBR.out).at_ hm12
          rw [ct_at l hlt] at hx2
          rw [ct_at (rotX l t) hm12, HCT.out] at hx3
          injection hx2 with hx2
          injection hx3 with hx3
          subst hx2
          subst hx3
          obtain ⟨u, hu⟩ : ∃ u, ctX l j = u := ⟨_, rfl⟩
          rw [hu] at k2 k3
          clear hu hm HCT
          have i2 : (0 : Int) ≤ (j : Int) := by omega
          have i3 : (j : Int) < 12 := by omega
          have i4 : (0 : Int) ≤ (m : Int) := by omega
          have i5 : (m : Int) < 12 := by omega
          have w4 : IntKind.i64.wrap ((j : Int) + q) = (j : Int) + q := IntWalk.i64_in _ (by omega)
          go_wp2_with fail
          go_region_law (first
            | (go_simp; go_at_call 15; (with_reducible refine (mod_any t 12 (by decide) (by decide) q HQ.out _).mono ?_); rintro e w16 ⟨rfl, rfl⟩)
            | (go_simp; go_at_call 15; (with_reducible refine (mod_any ((j : Int) + q) 12 (by decide) (by decide) (m : Int) HM.out _).mono ?_); rintro e w17 ⟨rfl, rfl⟩))
          all_goals
            go_wp2_with fail
            go_roundw
            case measure => simp [RowKit.intOf]; omega
            case rel => exact ⟨j + 1, by omega, by go_num, hide (by first | exact HBR.out.drew | exact HBR.out)⟩
        · obtain rfl : j = 12 := by omega
          replace H1 := hide (H1.out.keep HBR.out)
          have HB11 := hide (nxt HB10.out HBR.out)
          have w5 : IntKind.i64.wrap (-q) = -q := IntWalk.i64_in _ (by omega)
          have HTB := hide (show turnX (rotX l t) (-q) = l from by
            unfold turnX
            rw [if_pos H0T.out, ← HQ.out]
            exact rot_back l HL.out.2)
          clear HBR HB10
          go_wp2_with fail
          refine (mod_any t 12 (by decide) (by decide) q HQ.out _).mono ?_
          rintro e w16 ⟨rfl, rfl⟩
          go_wp2_with fail
          refine (turned_any A1 n1 c1 (rotX l t) (-q) _ H1.out).mono ?_
          rintro e w17 ⟨A4, n4, c4, rfl, r4, hb⟩
          rw [HTB.out] at r4
          rw [H0T.out]
          have H4 := hide r4
          have HB12 := hide (nxt HB11.out hb)
          clear hb r4 HB11
          go_wp2_with fail
          refine (ints_any A4 n4 c4 l A n c l _ H4.out (HR.out.keep HB12.out) (by rw [← H4.out.1]; exact Nat.le_trans HL.out.1 (by decide)) true (decide_eq_true rfl)).mono ?_
          rintro e w18 ⟨rfl, hb⟩
          have HB13 := hide (nxt HB12.out hb)
          clear hb HB12
          go_wp2_with fail
          go_ret
          exact ⟨rfl, HB13.out⟩
    · have hn1 : n1 = 0 := by
        have := H1.out.1
        rw [show turnX l t = [] from if_neg (by rw [hr0]; exact h0)] at this
        exact this.symm
      subst hn1
      clear hr0
      rcases hc with rfl | rfl | rfl
      · exact absurd rfl h0
      all_goals
        clear h0
        go_wp2_with fail
        go_ret
        exact ⟨rfl, HB0.out⟩
  · have f1 := hide (decide_eq_false hf)
    clear hf
    go_enter Try.func9, Try.ntmps9
    go_wp2_with fail
    refine (awake_yes _).mono ?_
    rintro e w1 ⟨rfl, hb⟩
    have HB := hide hb
    clear hb
    go_wp2_with fail
    refine (few_any A n c _ false f1.out).mono ?_
    rintro e w2 ⟨rfl, rfl⟩
    go_wp2_with fail
    refine (awake_yes _).mono ?_
    rintro e w3 ⟨rfl, hb⟩
    go_wp2_with fail
    go_ret
    exact ⟨rfl, nxt HB.out hb⟩
end Go.Proofs.Ytfhidmlceemhaaa
