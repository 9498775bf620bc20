/- AxisMedian returns true for every slice of numbers. -/
import Derived.Test.YtfhidmlceemhaaaABF
namespace Go.Proofs.Ytfhidmlceemhaaa
open Go Go.RowKit Go.Lib
open AM
set_option maxHeartbeats 8000000 in
theorem med_all (A : Option Addr) (n c : Nat) (l : List Int) (w : World) (hr : IS w A n l) :
    Calls Try.prog 8 #[.slice A n c] w fun e w' => e = .returned (.bool true) ∧ Below w.heap.size w w' := by
  have HR := hide hr
  have HN := hide hr.1
  clear hr
  by_cases hf : n ≤ 80
  · have f1 := hide (decide_eq_true hf)
    go_enter Try.func8, Try.ntmps8
    go_wp2_with fail
    refine (awake_yes _).mono ?_
    rintro e w1 ⟨rfl, hb⟩
    have HB := hide hb
    clear hb
    go_wp2_with fail
    refine (few_any A n c _ true f1.out).mono ?_
    rintro e w2 ⟨rfl, rfl⟩
    go_wp2_with fail

    obtain ⟨r, hr⟩ : ∃ r, chkSX l = r := ⟨_, rfl⟩
    have hrc := chkSX_pos hr
    refine (median_any A n c l _ (HR.out.keep HB.out)).mono ?_
    rintro e w3 ⟨h, s, rfl, hp, hq, hb⟩
    have HB1 := hide (nxt HB.out hb)
    rw [hr] at hp hq ⊢
    have HRR := hide hr
    clear HB hb hr
    rcases hrc with rfl | hrc
    · have P := hide (hp rfl)
      have hc0 := (chkSX_ok.1 HRR.out).2
      have HL := hide (chkX_sub hc0)
      have hn64 : n ≤ 64 := by rw [← HN.out]; exact HL.out.1
      have hh : h < 12 := P.out.1
      have e1 := hide (show decide ((0 : Int) ≤ (h : Int) ∧ (h : Int) ≤ 11) = true from decide_eq_true (by omega))
      clear hp hq hc0
      go_wp2_with fail
      go_loopw [6] (fun b wr => ∃ j : Nat, j ≤ 12 ∧ b = .int .i64 (j : Int) ∧ Hid (Below w.heap.size w wr)) (fun b _ => 12 - (RowKit.intOf b).toNat)
      case atStart => exact ⟨0, Nat.zero_le _, rfl, HB1⟩
      case round =>
        clear HB1
        obtain ⟨j, hj, rfl, HB⟩ := hrel
        by_cases hlt : j < 12
        · have d2 : decide ((j : Int) < 12) = true := decide_eq_true (by omega)
          go_wp2_with fail
          go_loopw [7, 8] (fun v b wr => ∃ i : Nat, i ≤ n ∧ v = .int .i64 (sdX (l.take i) j : Int) ∧ b = .int .i64 (i : Int) ∧ Hid (Below w.heap.size w wr)) (fun _ b _ => n - (RowKit.intOf b).toNat)
          case atStart => exact ⟨0, Nat.zero_le _, rfl, rfl, HB⟩
          case round =>
            clear HB
            obtain ⟨i, hi, rfl, rfl, HB⟩ := hrel
            have hs := sd_take_le HL.out.1 HL.out.2 hlt i
            by_cases hlh : i < n
            · have d3 : decide ((i : Int) < (n : Int)) = true := decide_eq_true (by omega)
              obtain ⟨b, o, x, rfl, hl, hx, k0⟩ := (HR.out.keep HB.out).at_ hlh
              obtain ⟨d, hd6, hd, hst⟩ := sd_step hlt hx (all_at HL.out.2 hx)
              have HD := hide hd
              have HS := hide hst
              have i2 : (0 : Int) ≤ (i : Int) := by omega
              have i3 : (i : Int) < (n : Int) := by omega
              clear hx hd hst
              obtain ⟨u, huu⟩ : ∃ u, sdX (l.take i) j = u := ⟨_, rfl⟩
              rw [huu] at hs HS ⊢
              clear huu
              have w2 : IntKind.i64.wrap ((u : Int) + (d : Int)) = (u : Int) + (d : Int) := IntWalk.i64_in _ (by omega)
              go_wp2_with fail
              refine (dist_any (j : Int) x (d : Int) HD.out _).mono ?_
              rintro e w2 ⟨rfl, rfl⟩
              go_wp2_with fail
              go_roundw
              case measure => simp [RowKit.intOf]; omega
              case rel => exact ⟨i + 1, by omega, by rw [HS.out]; go_num, by go_num, HB⟩
            · obtain rfl : i = n := by omega
              have d3 : decide ((i : Int) < (i : Int)) = false := decide_eq_false (by omega)
              rw [show l.take i = l from List.take_of_length_le (by rw [HN.out]; exact Nat.le_refl _)]
              have hle := (P.out.2.2 j hlt).1
              have hlt2 := (P.out.2.2 j hlt).2
              have heq : j = h → sdX l j = s := fun e => by rw [e]; exact P.out.2.1.symm
              obtain ⟨u, huu⟩ : ∃ u, sdX l j = u := ⟨_, rfl⟩
              rw [huu] at hle hlt2 heq ⊢
              clear huu
              have d4 : decide ((u : Int) < (s : Int)) = false := decide_eq_false (by omega)
              have hcase : ∃ b1 b2 b3 : Bool, decide ((j : Int) < (h : Int)) = b1 ∧ ((u : Int) == (s : Int)) = b2 ∧ ((j : Int) == (h : Int)) = b3 ∧ ((b1 = true ∧ b2 = false ∧ b3 = false) ∨ (b1 = false ∧ b2 = true ∧ b3 = true) ∨ (b1 = false ∧ b3 = false)) := by
                refine ⟨_, _, _, rfl, rfl, rfl, ?_⟩
                rcases Nat.lt_trichotomy j h with hj1 | hj1 | hj1
                · have := hlt2 hj1
                  exact .inl ⟨decide_eq_true (by omega), beq_eq_false_iff_ne.2 (by omega), beq_eq_false_iff_ne.2 (by omega)⟩
                · have := heq hj1
                  exact .inr (.inl ⟨decide_eq_false (by omega), beq_iff_eq.2 (by omega), beq_iff_eq.2 (by omega)⟩)
                · exact .inr (.inr ⟨decide_eq_false (by omega), beq_eq_false_iff_ne.2 (by omega)⟩)
              have d6 : decide (u < s) = false := decide_eq_false (by omega)
              clear hlt2 heq
              obtain ⟨b1, b2, b3, g1, g2, g3, g4⟩ := hcase
              have g5 : ((u : Int) != (s : Int)) = !b2 := by rw [← g2]; rfl
              rcases g4 with ⟨rfl, rfl, rfl⟩ | ⟨rfl, rfl, rfl⟩ | ⟨rfl, rfl⟩
              all_goals
                try simp only [Bool.not_true, Bool.not_false] at g5
                have g6 : decide (j < h) = _ := (decide_eq_decide.2 (by omega)).trans g1
                go_wp2_with fail
                go_roundw
                case measure => simp [RowKit.intOf]; omega
                case rel => exact ⟨j + 1, by omega, by go_num, HB⟩
        · obtain rfl : j = 12 := by omega
          go_wp2_with fail
          refine (in_any (h : Int) 0 11 _ true e1.out).mono ?_
          rintro e w4 ⟨rfl, rfl⟩
          go_wp2_with fail
          go_ret
          exact ⟨rfl, HB.out⟩
    · have z1 := (hq (by omega)).1
      have z2 := (hq (by omega)).2
      subst z1
      subst z2
      rcases hrc with rfl | rfl | rfl
      all_goals
        clear hp hq
        go_wp2_with fail
        go_ret
        exact ⟨rfl, HB1.out⟩
  · have f1 := hide (decide_eq_false hf)
    clear hf
    go_enter Try.func8, Try.ntmps8
    go_wp2_with fail
    refine (awake_yes _).mono ?_
    rintro e w1 ⟨rfl, hb⟩
    have HB := hide hb
    clear hb
    go_wp2_with fail
    refine (few_any A n c _ false f1.out).mono ?_
    rintro e w2 ⟨rfl, rfl⟩
    go_wp2_with fail
    refine (awake_yes _).mono ?_
    rintro e w3 ⟨rfl, hb⟩
    go_wp2_with fail
    go_ret
    exact ⟨rfl, nxt HB.out hb⟩
end Go.Proofs.Ytfhidmlceemhaaa
