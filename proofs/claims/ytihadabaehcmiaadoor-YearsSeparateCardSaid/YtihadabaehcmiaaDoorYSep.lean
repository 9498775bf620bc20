/- The body of YearsSeparate. -/
import Derived.Test.YtihadabaehcmiaaDoorYOpenL
namespace Go.Proofs.YtihadabaehcmiaaDoor
open Go Go.RowKit

theorem sep_at : ∀ (c : List (Int × Int)) (j : Nat) (x y : Int × Int), SepL c → c[j]? = some x → c[j + 1]? = some y → x.2 + 1 < y.1
  | [], j, x, y, _, h, _ => by simp at h
  | a :: r, 0, x, y, hs, h1, h2 => by
    simp at h1
    subst h1
    exact hs.2.1 y (List.mem_of_getElem? (i := 0) (by simpa using h2))
  | a :: r, j + 1, x, y, hs, h1, h2 => sep_at r j x y hs.2.2 (by simpa using h1) (by simpa using h2)
theorem cov_good {ys cov : List (Int × Int)} (h : CovI ys cov) : badY cov = false := by
  unfold badY
  rw [List.any_eq_false]
  intro y hy
  have h1 := h.bnd y hy
  have h2 := sep_le h.sep y hy
  rw [yB_true.2 ⟨h1.1, h2, h1.2⟩]
  decide
theorem cov_self {ys cov d : List (Int × Int)} (h : CovI ys cov) (hd : CovI cov d) : cov = d := (sep_uniq _ _ hd.sep h.sep hd.on).symm

set_option maxHeartbeats 2000000 in
theorem sep_big (A : Option Addr) (n c : Nat) (w : World) (hT : Lw w) (hn : n ≤ maxLen) (h : 64 < n) :
    Calls Tryd.prog 11 #[.slice A n c] w fun e w' => e = .returned (.bool true) ∧ Below w.heap.size w w' := by
  unfold maxLen at hn
  have HT := hide hT
  have d64 : decide ((64 : Int) < (n : Int)) = true := decide_eq_true (by omega)
  clear hT
  go_enter Tryd.func11, Tryd.ntmps11
  go_wp2_with fail
  refine (awake_yes _ HT.out).mono ?_
  rintro e w1 ⟨rfl, hb⟩
  have B := hb
  go_wp2_with fail
  refine (awake_yes _ (HT.out.below B)).mono ?_
  rintro e w2 ⟨rfl, hb⟩
  go_wp2_with fail
  go_ret
  exact ⟨rfl, B.trans (hb.mono B.size)⟩
set_option maxHeartbeats 2000000 in
theorem sep_bad (A : Option Addr) (n c : Nat) (ys : List (Int × Int)) (w : World) (hT : Lw w) (hr : YL w A n ys) (hn : n ≤ 64) (hbad : badY ys = true) :
    Calls Tryd.prog 11 #[.slice A n c] w fun e w' => e = .returned (.bool true) ∧ Below w.heap.size w w' := by
  have HT := hide hT
  have HR := hide hr
  have HB := hide hbad
  have d64 : decide ((64 : Int) < (n : Int)) = false := decide_eq_false (by omega)
  clear hT hr hbad
  go_enter Tryd.func11, Tryd.ntmps11
  go_wp2_with fail
  refine (awake_yes _ HT.out).mono ?_
  rintro e w1 ⟨rfl, hb⟩
  have HR1 := hide (HR.out.keep hb)
  have B := hb
  clear hb
  go_wp2_with fail
  refine (cover_any _ _ _ _ _ HR1.out (by unfold maxLen; omega)).mono ?_
  rintro e w2 ⟨X, m, d, cov, er, rfl, hy, hm, hb, hq⟩
  obtain ⟨rfl, rfl⟩ : er = 1 ∧ cov = [] := by
    rcases hq with ⟨h, _⟩ | ⟨_, _, h1, h2⟩ | ⟨_, h, _⟩
    · have := HR.out.1; omega
    · exact ⟨h1, h2⟩
    · rw [HB.out] at h; cases h
  obtain rfl : m = 0 := hy.1.symm
  have B2 := B.trans (hb.mono B.size)
  clear hb hy hm hq
  go_wp2_with fail
  go_ret
  exact ⟨rfl, B2⟩
set_option maxHeartbeats 4000000 in
theorem sep_ok (A : Option Addr) (n c : Nat) (ys : List (Int × Int)) (w : World) (hT : Lw w) (hr : YL w A n ys) (hn : n ≤ 64) (hbad : badY ys = false) :
    Calls Tryd.prog 11 #[.slice A n c] w fun e w' => e = .returned (.bool true) ∧ Below w.heap.size w w' := by
  have HT := hide hT
  have HR := hide hr
  have HB := hide hbad
  have d64 : decide ((64 : Int) < (n : Int)) = false := decide_eq_false (by omega)
  clear hT hr hbad
  go_enter Tryd.func11, Tryd.ntmps11
  go_wp2_with fail
  refine (awake_yes _ HT.out).mono ?_
  rintro e w1 ⟨rfl, hb⟩
  have HR1 := hide (HR.out.keep hb)
  have B := hb
  clear hb
  go_wp2_with fail
  refine (cover_any _ _ _ _ _ HR1.out (by unfold maxLen; omega)).mono ?_
  rintro e w2 ⟨X, m, d, cov, er, rfl, hy, hm, hb, hq⟩
  obtain ⟨rfl, hcv, hcl⟩ : er = 0 ∧ CovI ys cov ∧ cov.length ≤ ys.length := by
    rcases hq with ⟨h, _⟩ | ⟨_, h, _⟩ | ⟨_, _, h1, h2, h3⟩
    · have := HR.out.1; omega
    · rw [HB.out] at h; cases h
    · exact ⟨h1, h2, h3⟩
  have hcn : m ≤ n := by have := HR.out.1; have := hy.1; omega
  have B2 := B.trans (hb.mono B.size)
  have HY := hide hy
  have HC := hide hcv
  clear hb hy hm hq hcv hcl B
  go_wp2_with fail
  go_loopw [5] (fun t wr => ∃ j q : Nat, (j ≤ m) ∧ t = .int .i64 ((j : Int) + 1) ∧ wr = w2.drewN q) (fun t _ => m + 1 - (intOf t).toNat)
  case atStart => exact ⟨0, 0, Nat.zero_le _, rfl, rfl⟩
  case round =>
    obtain ⟨j, q, hj, rfl, rfl⟩ := hrel
    have HQ : Hid (∀ z, (w2.drewN q).drewN z = w2.drewN (q + z)) := fun z => World.drewN_drewN _ _ _
    have HYq := hide (HY.out.drewN q)
    have BW := below_drewN B2 q
    by_cases hlt : j + 1 < m
    · obtain ⟨b, o, x, rfl, hbl, h1, c1, c2⟩ := HYq.out.at_ (j := j) (by omega)
      obtain ⟨b', o', y, e', hbl', h2, c3, c4⟩ := HYq.out.at_ (j := j + 1) hlt
      injection e' with e'
      injection e' with e1 e2
      subst e1
      subst e2
      have hx := HC.out.bnd x (List.mem_of_getElem? h1)
      have hxl := sep_le HC.out.sep x (List.mem_of_getElem? h1)
      obtain ⟨hx1, hx2⟩ := hx
      have hs := sep_at _ _ _ _ HC.out.sep h1 h2
      have d1 : decide (y.1 ≤ x.2 + 1) = false := decide_eq_false (by omega)
      clear h1 h2 hbl hbl' hs
      generalize w2.drewN q = W at *
      go_wp2_with fail
      go_quiet (fail)
      go_wp2_with fail
      go_roundw
      case rel => exact ⟨j + 1, _, by omega, by go_num, HQ.out _⟩
      case measure => simp [intOf]; omega
    · clear HQ
      generalize w2.drewN q = W at *
      go_wp2_with fail
      refine (cover_any _ _ _ _ _ HYq.out (by unfold maxLen; omega)).mono ?_
      rintro e w3 ⟨X', m', d', cov', er', rfl, hy', hm', hb', hq'⟩
      obtain ⟨rfl, hcv'⟩ : er' = 0 ∧ CovI cov cov' := by
        have hl := HYq.out.1
        rcases hq' with ⟨h, _⟩ | ⟨_, h, _⟩ | ⟨_, _, h1, h2, h3⟩
        · omega
        · rw [cov_good HC.out] at h; cases h
        · exact ⟨h1, h2⟩
      obtain rfl := cov_self HC.out hcv'
      have HY3 := hide (HYq.out.keep hb')
      have HY4 := hide hy'
      have HM := hide hm'
      have B3 := BW.trans (hb'.mono BW.size)
      have dn : decide (m ≤ n) = true := decide_eq_true hcn
      clear hb' hy' hm' hq' hcv' BW B2
      go_wp2_with fail
      refine (lists_v _ _ _ _ _ _ _ _ _ HY3.out HY4.out (by unfold maxLen; omega) HM.out true (by simp)).mono ?_
      rintro e w4 ⟨rfl, hb4⟩
      go_wp2_with fail
      go_ret
      exact ⟨rfl, B3.trans (hb4.mono B3.size)⟩
theorem sep_all (A : Option Addr) (n c : Nat) (ys : List (Int × Int)) (w : World) (hT : Lw w) (hr : YL w A n ys) (hn : n ≤ maxLen) :
    Calls Tryd.prog 11 #[.slice A n c] w fun e w' => e = .returned (.bool true) ∧ Below w.heap.size w w' := by
  by_cases h : 64 < n
  · exact sep_big A n c w hT hn h
  · rcases Bool.eq_false_or_eq_true (badY ys) with hb | hb
    · exact sep_bad A n c ys w hT hr (by omega) hb
    · exact sep_ok A n c ys w hT hr (by omega) hb
end Go.Proofs.YtihadabaehcmiaaDoor
