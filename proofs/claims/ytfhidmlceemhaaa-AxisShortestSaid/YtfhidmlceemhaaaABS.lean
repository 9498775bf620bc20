/- AxisShortest returns true for every slice of numbers. -/
import Derived.Test.YtfhidmlceemhaaaABF
namespace Go.Proofs.Ytfhidmlceemhaaa
open Go Go.RowKit Go.Lib
open AM
set_option maxHeartbeats 8000000 in
theorem sho_all (A : Option Addr) (n c : Nat) (l : List Int) (w : World) (hr : IS w A n l) :
    Calls Try.prog 7 #[.slice A n c] w fun e w' => e = .returned (.bool true) ∧ Below w.heap.size w w' := by
  have HR := hide hr
  have HN := hide hr.1
  clear hr
  by_cases hf : n ≤ 80
  · have f1 := hide (decide_eq_true hf)
    go_enter Try.func7, Try.ntmps7
    go_wp2_with fail
    refine (awake_yes _).mono ?_
    rintro e w1 ⟨rfl, hb⟩
    have HB := hide hb
    clear hb
    go_wp2_with fail
    refine (few_any A n c _ true f1.out).mono ?_
    rintro e w2 ⟨rfl, rfl⟩
    go_wp2_with fail

    obtain ⟨r, hr⟩ : ∃ r, chkSX l = r := ⟨_, rfl⟩
    have hrc := chkSX_pos hr
    refine (arc_any A n c l _ (HR.out.keep HB.out)).mono ?_
    rintro e w3 ⟨h, k, rfl, hp, hq, hb⟩
    have HB1 := hide (nxt HB.out hb)
    rw [hr] at hp hq ⊢
    have HRR := hide hr
    clear HB hb hr
    rcases hrc with rfl | hrc
    · have P := hide (hp rfl)
      have hc0 := (chkSX_ok.1 HRR.out).2
      have HL := hide (chkX_sub hc0)
      have hn64 : n ≤ 64 := by rw [← HN.out]; exact HL.out.1
      have hk1 : 1 ≤ k := P.out.1
      have hk2 : k ≤ 12 := P.out.2.1
      have hh : h < 12 := P.out.2.2.1
      have hd1 : ∀ q : Int, 1 ≤ q → q ≤ 12 → chkDX l q = 0 := fun q h1 h2 => by unfold chkDX; rw [if_pos hc0, if_pos ⟨h1, h2⟩]
      have E1 := hide (hd1 (k : Int) (by omega) (by omega))
      have e1 := hide (show decide ((0 : Int) ≤ (h : Int) ∧ (h : Int) ≤ 11) = true from decide_eq_true (by omega))
      have e2 := hide (show decide ((1 : Int) ≤ (k : Int) ∧ (k : Int) ≤ 12) = true from decide_eq_true (by omega))
      obtain ⟨q, hq⟩ : ∃ q : Nat, max ((k : Int) - 1) 1 = (q : Int) := ⟨(max ((k : Int) - 1) 1).toNat, by omega⟩
      have HQ := hide (show 1 < k → q = k - 1 from fun h => by omega)
      have E2 := hide (hd1 (q : Int) (by omega) (by omega))
      have w1 : IntKind.i64.wrap ((k : Int) - 1) = (k : Int) - 1 := IntWalk.i64_in _ (by omega)
      have HK := hide (show (k = 12 ∧ h = 0) ∨ k ≠ 12 from by
        by_cases h : k = 12
        · exact .inl ⟨h, P.out.2.2.2.2.1 h⟩
        · exact .inr h)
      clear hp hc0 hd1
      obtain ⟨b1, b2, g1, g2, g3⟩ : ∃ b1 b2 : Bool, ((k : Int) == 12) = b1 ∧ ((h : Int) != 0) = b2 ∧ ((b1 = true ∧ b2 = false) ∨ b1 = false) := ⟨_, _, rfl, rfl, by
        rcases HK.out with ⟨h1, h2⟩ | h1
        · exact .inl ⟨by rw [h1]; rfl, by rw [h2]; rfl⟩
        · exact .inr (beq_eq_false_iff_ne.2 (by omega))⟩
      obtain ⟨b3, g4⟩ : ∃ b3 : Bool, decide ((k : Int) > 1) = b3 := ⟨_, rfl⟩
      have g5 : decide ((1 : Int) < (k : Int)) = b3 := g4
      have g6 : decide (1 < k) = b3 := by rw [← g4]; exact decide_eq_decide.2 (by omega)
      have G := hide g6
      go_wp2_with fail
      refine (in_any (h : Int) 0 11 _ true e1.out).mono ?_
      rintro e w4 ⟨rfl, rfl⟩
      go_wp2_with fail
      refine (in_any (k : Int) 1 12 _ true e2.out).mono ?_
      rintro e w4 ⟨rfl, rfl⟩
      rcases g3 with ⟨rfl, rfl⟩ | rfl
      all_goals
        go_wp2_with fail
        refine (den_any A n c l (k : Int) _ (HR.out.keep HB1.out)).mono ?_
        rintro e w5 ⟨h2, m2, rfl, hp2, -, hb2⟩
        rw [E1.out] at hp2 ⊢
        obtain rfl : m2 = n := by rw [← HN.out]; exact arc_most P.out (by have := hp2 rfl; rwa [Int.toNat_natCast] at this)
        have HB2 := hide (nxt HB1.out hb2)
        clear hp2 hb2
        go_wp2_with fail
        refine (den_any A m2 c l (q : Int) _ (HR.out.keep HB2.out)).mono ?_
        rintro e w6 ⟨h3, m3, rfl, hp3, -, hb3⟩
        rw [E2.out] at hp3 ⊢
        have HD := hide (show DenP l q h3 m3 from by have := hp3 rfl; rwa [Int.toNat_natCast] at this)
        have hh3 : h3 < 12 := HD.out.1
        have HB3 := hide (nxt HB2.out hb3)
        clear hp3 hb3
        have e3 := hide (show decide ((0 : Int) ≤ (h3 : Int) ∧ (h3 : Int) ≤ 11) = true from decide_eq_true (by omega))
        have g7 : b3 = true → ((m3 : Int) == (m2 : Int)) = false := fun hb => beq_eq_false_iff_ne.2 fun e => by
          have hk : 1 < k := of_decide_eq_true (G.out.trans hb)
          refine arc_less P.out hk (by have h := HD.out; rwa [HQ.out hk] at h) (by rw [HN.out]; omega)
        have hqq := hide hq
        clear hq
        have HC := hide (insX_all.1 P.out.2.2.2.1)
        clear g6
        have G7 := hide g7
        clear g7
        obtain ⟨b4, g8, g9⟩ : ∃ b4 : Bool, ((m3 : Int) == (m2 : Int)) = b4 ∧ (b3 = true → b4 = false) := ⟨_, rfl, G7.out⟩
        have hb34 : (b3 = true ∧ b4 = false) ∨ b3 = false := by
          rcases b3 with _ | _
          · exact .inr rfl
          · exact .inl ⟨rfl, g9 rfl⟩
        clear g9
        rcases hb34 with ⟨rfl, rfl⟩ | rfl
        all_goals
          go_wp2_with fail
          go_loopw [12] (fun b wr => ∃ j : Nat, j ≤ m2 ∧ b = .int .i64 (j : Int) ∧ Hid (Below w.heap.size w wr)) (fun b _ => m2 - (RowKit.intOf b).toNat)
          case atStart => exact ⟨0, Nat.zero_le _, rfl, HB3⟩
          case round =>
            clear HB3
            obtain ⟨j, hj, rfl, HB⟩ := hrel
            by_cases hlt : j < m2
            · have d3 : decide ((j : Int) < (m2 : Int)) = true := decide_eq_true (by omega)
              obtain ⟨b, o, x, rfl, hl, hx, k0⟩ := (HR.out.keep HB.out).at_ hlt
              have hx2 := all_at HL.out.2 hx
              have i2 : (0 : Int) ≤ (j : Int) := by omega
              have i3 : (j : Int) < (m2 : Int) := by omega
              obtain ⟨m, hm⟩ : ∃ m, (x - (h : Int)) % 12 = m := ⟨_, rfl⟩
              have hmk := HC.out x (List.mem_of_getElem? hx)
              rw [hm] at hmk
              have HM := hide hm
              clear hx hm
              obtain ⟨x0, x1⟩ := hx2
              have w1 : IntKind.i64.wrap (x - (h : Int)) = x - (h : Int) := IntWalk.i64_in _ (by omega)
              have d4 : decide (m ≥ (k : Int)) = false := decide_eq_false (by omega)
              have d5 : decide ((k : Int) ≤ m) = false := decide_eq_false (by omega)
              go_wp2_with fail
              refine (mod_any (x - (h : Int)) 12 (by decide) (by decide) m HM.out _).mono ?_
              rintro e w7 ⟨rfl, rfl⟩
              go_wp2_with fail
              go_roundw
              case measure => simp [RowKit.intOf]; omega
              case rel => exact ⟨j + 1, by omega, by go_num, HB⟩
            · obtain rfl : j = m2 := by omega
              have d3 : decide ((j : Int) < (j : Int)) = false := decide_eq_false (by omega)
              go_wp2_with fail
              refine (in_any (h3 : Int) 0 11 _ true e3.out).mono ?_
              rintro e w7 ⟨rfl, rfl⟩
              go_wp2_with fail
              go_ret
              exact ⟨rfl, HB.out⟩
    · have z1 := (hq (by omega)).1
      have z2 := (hq (by omega)).2
      subst z1
      subst z2
      rcases hrc with rfl | rfl | rfl
      all_goals
        clear hp hq
        go_wp2_with fail
        go_ret
        exact ⟨rfl, HB1.out⟩
  · have f1 := hide (decide_eq_false hf)
    clear hf
    go_enter Try.func7, Try.ntmps7
    go_wp2_with fail
    refine (awake_yes _).mono ?_
    rintro e w1 ⟨rfl, hb⟩
    have HB := hide hb
    clear hb
    go_wp2_with fail
    refine (few_any A n c _ false f1.out).mono ?_
    rintro e w2 ⟨rfl, rfl⟩
    go_wp2_with fail
    refine (awake_yes _).mono ?_
    rintro e w3 ⟨rfl, hb⟩
    go_wp2_with fail
    go_ret
    exact ⟨rfl, nxt HB.out hb⟩
end Go.Proofs.Ytfhidmlceemhaaa
