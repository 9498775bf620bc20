/- The body of JournalOpens. -/
import Derived.Test.YtjmpnpflmdpdkaaJSc
import Derived.Test.YtjmpnpflmdpdkaaJSb
namespace Go.Proofs.Ytjmpnpflmdpdkaa
open Go Go.RowKit FM

theorem oE_cut {l : List Ent} (hl : OkE l) (hs : (jb l).length ≤ 65536) {K : Nat} (hK : K ≤ (jb l).length) : oE ((jb l).take K) = if K < 5 then 4 else 0 := by
  have e : ((jb l).take K).length = K := by rw [List.length_take]; omega
  have _ := hl
  unfold oE
  rw [e, if_neg (by omega)]
  by_cases h : K < 5
  · rw [if_pos h, if_pos h]
  · rw [if_neg h, if_neg h, if_neg]
    rw [List.take_take, Nat.min_eq_left (by omega)]
    intro h2
    exact h2 (List.take_left' (show coin.length = 5 from rfl))
set_option maxRecDepth 100000 in
set_option maxHeartbeats 8000000 in
theorem opens_law (A : Option Addr) (n c : Nat) (l : List Ent) (s : Nat) (w : World) (hx : AE w A n l) (hc : n ≤ c) (hm : c ≤ maxLen) (hs : s < 65536) :
    Calls Try.prog 5 #[.slice A n c, .int .u16 (s : Int)] w fun e w' => e = .returned (.bool true) ∧ Below w.heap.size w w' := by
  have HX := hide hx
  have HN := hide (show n ≤ maxLen from by omega)
  have hl := hx.len
  clear hx
  go_enter Try.func5, Try.ntmps5
  go_wp2_with fail
  (with_reducible refine (awake_yes _).mono ?_)
  rintro e w1 ⟨rfl, hb1⟩
  have HB1 := hide hb1
  clear hb1
  unfold maxLen at hm
  go_wp2_with fail
  obtain ⟨fb, hfb⟩ : ∃ fb, fewB l = fb := ⟨_, rfl⟩
  have HF := hide hfb
  (with_reducible refine (few_any A n c l _ (HX.out.below HB1.out) HN.out fb HF.out).mono ?_)
  rintro e w' ⟨rfl, rfl⟩
  cases fb with
  | false =>
    clear HF hfb
    go_wp2_with fail
    (with_reducible refine (awake_yes _).mono ?_)
    rintro e w2 ⟨rfl, hb2⟩
    have HB2 := hide (Below.next HB1.out hb2)
    clear hb2
    go_wp2_with fail
    go_ret
    exact ⟨rfl, HB2.out⟩
  | true =>
    have HFew := hide (fewB_iff.1 hfb)
    have HMk := hide (mk_few HFew.out)
    have HOk := hide (few_ok HFew.out HX.out.kinds)
    have hN1 := few_len HFew.out
    obtain ⟨N, hN⟩ : ∃ N, (jb l).length = N := ⟨_, rfl⟩
    have HLN := hide hN
    rw [hN] at hN1
    obtain ⟨K, hK⟩ : ∃ K, s % (N + 1) = K := ⟨_, rfl⟩
    have hK1 : (s : Int) % ((N : Int) + 1) = (K : Int) := by rw [← hK, Int.natCast_emod]; rfl
    have hKN : K ≤ N := by rw [← hK]; have := Nat.mod_lt s (show 0 < N + 1 by omega); omega
    have hnz : ((N : Int) + 1 == 0) = false := beq_eq_false_iff_ne.2 (by omega)
    have hnz2 : ¬ ((N : Int) + 1 = 0) := by omega
    have HKN := hide (show K ≤ (jb l).length from by omega)
    have hOE := oE_cut HOk.out (by omega) HKN.out
    clear HF hfb hN hK
    go_wp2_with fail
    (with_reducible refine (made_any A n c l _ (HX.out.below HB1.out) HN.out).mono ?_)
    rintro e w2 ⟨p, q, F, G, rfl, hT⟩
    rw [HMk.out] at hT
    have HJ2 := hide hT.1
    have HB2 := hide (Below.next HB1.out hT.2.2.2)
    clear hT
    go_wp2_with fail
    (with_reducible refine (jbytes_any p _ _ _ _ HJ2.out N HLN.out).mono ?_)
    rintro e w3 ⟨A3, c3, rfl, hr3, hb3⟩
    have hc3 := Row.le hr3
    have HA3 := hide (RB.br hr3 (jb_by HOk.out))
    have HB3 := hide (Below.next HB2.out hb3)
    have HT3 := hide (HA3.out.take_ hKN)
    unfold maxLen at hc3
    have i1 : (0 : Int) ≤ (K : Int) := by omega
    have i2 : (K : Int) ≤ (c3 : Int) := by omega
    clear hr3 hb3 HJ2 HB2 HA3
    by_cases h5 : K < 5
    · rw [if_pos h5] at hOE
      go_wp2_with fail
      (with_reducible refine (jopen_any A3 K c3 _ _ HT3.out (by omega) (by unfold maxLen; omega)).mono ?_)
      rintro e w4 ⟨hb4, ⟨-, rfl⟩ | ⟨h0, -⟩⟩
      · rw [hOE]
        have HT4 := hide (HT3.out.below hb4)
        have HB4 := hide (Below.next HB3.out hb4)
        clear hb4 HT3 HB3
        go_wp2_with fail
        (with_reducible refine (ropenj_any A3 K c3 _ _ HT4.out (by omega) (by unfold maxLen; omega)).mono ?_)
        rintro e w5 ⟨hb5, ⟨-, rfl⟩ | ⟨h0, -⟩⟩
        · rw [hOE]
          have HB5 := hide (Below.next HB4.out hb5)
          clear hb5 HT4 HB4
          go_wp2_with fail
          (with_reducible refine (same_nil _).mono ?_)
          rintro e w6 ⟨rfl, hb6⟩
          have HB6 := hide (Below.next HB5.out hb6)
          clear hb6
          go_wp2_with fail
          go_ret
          exact ⟨rfl, HB6.out⟩
        · omega
      · omega
    · rw [if_neg h5] at hOE
      go_wp2_with fail
      (with_reducible refine (jopen_any A3 K c3 _ _ HT3.out (by omega) (by unfold maxLen; omega)).mono ?_)
      rintro e w4 ⟨hb4, ⟨h0, -⟩ | ⟨-, p2, es, r, rfl, hrd, hj4⟩⟩
      · omega
      · have HRd := hide hrd
        have HJ4 := hide hj4
        have HT4 := hide (HT3.out.below hb4)
        have HB4 := hide (Below.next HB3.out hb4)
        clear hb4 HT3 HB3 hrd hj4
        go_wp2_with fail
        (with_reducible refine (ropenj_any A3 K c3 _ _ HT4.out (by omega) (by unfold maxLen; omega)).mono ?_)
        rintro e w5 ⟨hb5, ⟨h0, -⟩ | ⟨-, q2, es', r', rfl, hrd', hr5⟩⟩
        · omega
        · obtain ⟨rfl, rfl⟩ := HRd.out.uniq hrd'
          have HJ5 := hide (HJ4.out.below hb5)
          have HR5 := hide hr5
          have HB5 := hide (Below.next HB4.out hb5)
          clear hb5 HT4 HB4 hrd' hr5 HJ4
          go_wp2_with fail
          (with_reducible refine (samej_any p2 q2 _ _ _ _ _ _ HJ5.out HR5.out).mono ?_)
          rintro e w9 ⟨rfl, hb9⟩
          have HO9 := hide (HJ5.out.below hb9)
          have HB9 := hide (Below.next HB5.out hb9)
          have HX9 := hide (HX.out.below HB9.out)
          clear hb9 HJ5 HR5 HB5 hOE
          go_wp2_with fail
          go_loop [15, 16] (fun v15 v16 => ∃ (k bt : Nat), v15 = .int .i64 (bt : Int) ∧ v16 = .int .i64 (k : Int) ∧ k ≤ n ∧ bt ≤ K ∧ Hid (jl l k = bt)) (fun _ v16 => n - (intOf v16).toNat)
          case atStart => exact ⟨0, 5, rfl, rfl, by omega, by omega, hide (jl_zero l)⟩
          case round =>
            obtain ⟨k, bt, rfl, rfl, hk, hbt, HBT⟩ := hrel
            have HKL := hide HBT.out
            have hk1 : k ≤ l.length := by omega
            have hk2 : bt ≤ K := hbt
            by_cases hlt : k < n
            · obtain ⟨b, o, kk, x, Ad, nd, cd, rfl, he, hkk, k0, k1, hbd, hnd⟩ := HX9.out.at_ hlt
              have hxl := hbd.len
              have HS := hide (show jl l (k + 1) = bt + nd + 9 from by have := jl_succ he; rw [this, HBT.out]; show bt + (x.length + 9) = _; omega)
              have hnd2 : nd ≤ 65536 := by
                have e1 := jl_le l (k + 1)
                have e2 := HS.out
                have e3 := HLN.out
                omega
              have j1 : (k : Int) < (n : Int) := by omega
              have j2 : (0 : Int) ≤ (k : Int) := by omega
              clear hkk hbd hnd he hxl
              by_cases hle : bt + nd + 9 ≤ K
              · have d1 : decide ((bt : Int) + (nd : Int) + 9 ≤ (K : Int)) = true := decide_eq_true (by omega)
                go_wp2_with fail
                go_round
                case measure => simp [intOf]; omega
                case rel => exact ⟨k + 1, bt + nd + 9, by go_num, by go_num, by omega, by omega, HS⟩
              · have d1 : decide ((bt : Int) + (nd : Int) + 9 ≤ (K : Int)) = false := decide_eq_false (by omega)
                have hrd := reads_cut HOk.out HKN.out hk1 (by rw [HKL.out]; exact hk2) (.inr (by rw [HS.out]; omega))
                obtain ⟨he, hr9⟩ := HRd.out.uniq hrd.1
                have HL := hide (show es.length = k from by rw [he, List.length_take, hl]; omega)
                have HRL := hide (show r.length = K - bt from by rw [hr9, hrd.2, HBT.out])
                have e1 : (K : Int) - (bt : Int) = ((K - bt : Nat) : Int) := by omega
                clear hrd he hr9
                go_wp2_with fail
                (with_reducible refine (len_any p2 _ _ _ _ HO9.out).mono ?_)
                rintro e w' ⟨rfl, rfl⟩
                rw [HL.out, HRL.out]
                go_wp2_with fail
                go_ret
                exact ⟨rfl, HB9.out⟩
            · have d1 : decide ((k : Int) < (n : Int)) = false := decide_eq_false (by omega)
              have hrd := reads_cut HOk.out HKN.out hk1 (by rw [HKL.out]; exact hk2) (.inl (by omega))
              obtain ⟨he, hr9⟩ := HRd.out.uniq hrd.1
              have HL := hide (show es.length = k from by rw [he, List.length_take, hl]; omega)
              have HRL := hide (show r.length = K - bt from by rw [hr9, hrd.2, HBT.out])
              have e1 : (K : Int) - (bt : Int) = ((K - bt : Nat) : Int) := by omega
              clear hrd he hr9
              go_wp2_with fail
              (with_reducible refine (len_any p2 _ _ _ _ HO9.out).mono ?_)
              rintro e w' ⟨rfl, rfl⟩
              rw [HL.out, HRL.out]
              go_wp2_with fail
              go_ret
              exact ⟨rfl, HB9.out⟩
end Go.Proofs.Ytjmpnpflmdpdkaa
