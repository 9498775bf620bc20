/- Valid marks and decisions, of both sides; the reference's order. -/
import Derived.Test.YtalbdclcappjpaaGreatDC
import Derived.Test.YtalbdclcappjpaaGreatBA
namespace Go.Proofs.YtalbdclcappjpaaGreat
open Go Go.RowKit Go.Lib
def dB (a : Int) : Bool := decide (1 ≤ a ∧ a ≤ 999)
def iB (a : Int) : Bool := decide (1 ≤ a ∧ a ≤ 9999)
theorem vK_12 {d : Dec} (h : d.k = 1 ∨ d.k = 2) : vK d = (dB d.a && dB d.b && decide (d.a < d.b)) := by
  unfold vK dB
  rw [if_pos h, ← Bool.decide_and, ← Bool.decide_and]
  exact decide_eq_decide.2 (by omega)
theorem vK_3 {d : Dec} (h : d.k = 3) : vK d = (iB d.a && iB d.b && decide (d.a ≠ d.b)) := by
  unfold vK iB
  rw [if_neg (by omega), if_pos h, ← Bool.decide_and, ← Bool.decide_and]
  exact decide_eq_decide.2 (by omega)
theorem vK_4 {d : Dec} (h : d.k = 4) : vK d = (iB d.a && iB d.b && decide (d.a < d.b)) := by
  unfold vK iB
  rw [if_neg (by omega), if_neg (by omega), if_pos h, ← Bool.decide_and, ← Bool.decide_and]
  exact decide_eq_decide.2 (by omega)
theorem vK_0 {d : Dec} (h1 : d.k ≠ 1) (h2 : d.k ≠ 2) (h3 : d.k ≠ 3) (h4 : d.k ≠ 4) : vK d = false := by
  unfold vK
  rw [if_neg (by omega), if_neg h3, if_neg h4]

set_option maxHeartbeats 1000000 in
theorem isDie_any (a : Int) (w : World) (v : Bool) (hv : dB a = v) : Calls Tryz.prog 47 #[.int .i64 a] w fun e w' => e = .returned (.bool v) ∧ w = w' := by
  unfold dB at hv
  by_cases h1 : 1 ≤ a
  · by_cases h2 : a ≤ 999
    · obtain rfl : v = true := by rw [← hv]; exact decide_eq_true ⟨h1, h2⟩
      have d1 : decide (1 ≤ a) = true := decide_eq_true h1
      have d2 : decide (a ≤ 999) = true := decide_eq_true h2
      clear hv h1 h2
      go_enter Tryz.func47, Tryz.ntmps47
      go_wp2
      go_ret
      exact ⟨rfl, rfl⟩
    · obtain rfl : v = false := by rw [← hv]; exact decide_eq_false fun h => h2 h.2
      have d1 : decide (1 ≤ a) = true := decide_eq_true h1
      have d2 : decide (a ≤ 999) = false := decide_eq_false h2
      clear hv h1 h2
      go_enter Tryz.func47, Tryz.ntmps47
      go_wp2
      go_ret
      exact ⟨rfl, rfl⟩
  · obtain rfl : v = false := by rw [← hv]; exact decide_eq_false fun h => h1 h.1
    have d1 : decide (1 ≤ a) = false := decide_eq_false h1
    clear hv h1
    go_enter Tryz.func47, Tryz.ntmps47
    go_wp2
    go_ret
    exact ⟨rfl, rfl⟩

set_option maxHeartbeats 1000000 in
theorem isId_any (a : Int) (w : World) (v : Bool) (hv : iB a = v) : Calls Tryz.prog 48 #[.int .i64 a] w fun e w' => e = .returned (.bool v) ∧ w = w' := by
  unfold iB at hv
  by_cases h1 : 1 ≤ a
  · by_cases h2 : a ≤ 9999
    · obtain rfl : v = true := by rw [← hv]; exact decide_eq_true ⟨h1, h2⟩
      have d1 : decide (1 ≤ a) = true := decide_eq_true h1
      have d2 : decide (a ≤ 9999) = true := decide_eq_true h2
      clear hv h1 h2
      go_enter Tryz.func48, Tryz.ntmps48
      go_wp2
      go_ret
      exact ⟨rfl, rfl⟩
    · obtain rfl : v = false := by rw [← hv]; exact decide_eq_false fun h => h2 h.2
      have d1 : decide (1 ≤ a) = true := decide_eq_true h1
      have d2 : decide (a ≤ 9999) = false := decide_eq_false h2
      clear hv h1 h2
      go_enter Tryz.func48, Tryz.ntmps48
      go_wp2
      go_ret
      exact ⟨rfl, rfl⟩
  · obtain rfl : v = false := by rw [← hv]; exact decide_eq_false fun h => h1 h.1
    have d1 : decide (1 ≤ a) = false := decide_eq_false h1
    clear hv h1
    go_enter Tryz.func48, Tryz.ntmps48
    go_wp2
    go_ret
    exact ⟨rfl, rfl⟩

set_option maxHeartbeats 1000000 in
theorem num_any (a : Int) (w : World) (v : Bool) (hv : dB a = v) : Calls Tryz.prog 103 #[.int .i64 a] w fun e w' => e = .returned (.bool v) ∧ w = w' := by
  have HV := hide hv
  clear hv
  go_enter Tryz.func103, Tryz.ntmps103
  go_wp2_with fail
  refine (in_any a 1 999 _ v HV.out).mono ?_
  rintro e w1 ⟨rfl, rfl⟩
  go_wp2_with fail
  go_ret
  exact ⟨rfl, rfl⟩

set_option maxHeartbeats 1000000 in
theorem id_any (a : Int) (w : World) (v : Bool) (hv : iB a = v) : Calls Tryz.prog 104 #[.int .i64 a] w fun e w' => e = .returned (.bool v) ∧ w = w' := by
  have HV := hide hv
  clear hv
  go_enter Tryz.func104, Tryz.ntmps104
  go_wp2_with fail
  refine (in_any a 1 9999 _ v HV.out).mono ?_
  rintro e w1 ⟨rfl, rfl⟩
  go_wp2_with fail
  go_ret
  exact ⟨rfl, rfl⟩

set_option maxHeartbeats 2000000 in
theorem vm_any (x : Mk) (w : World) (v : Bool) (hv : vM x = v) : Calls Tryz.prog 44 #[.agg #[.int .i64 x.u, .int .i64 x.n]] w fun e w' => e = .returned (.bool v) ∧ Gr w w' := by
  by_cases h0 : 0 ≤ x.u
  · by_cases h1 : x.u ≤ 7
    · by_cases h2 : 1 ≤ x.n
      · by_cases h3 : x.n ≤ 200
        · obtain rfl : v = true := by rw [← hv]; exact vM_true.2 ⟨h0, h1, h2, h3⟩
          have d0 : decide (0 ≤ x.u) = true := decide_eq_true h0
          have d1 : decide (x.u ≤ 7) = true := decide_eq_true h1
          have d2 : decide (1 ≤ x.n) = true := decide_eq_true h2
          have d3 : decide (x.n ≤ 200) = true := decide_eq_true h3
          clear hv h0 h1 h2 h3
          go_enter Tryz.func44, Tryz.ntmps44
          go_wp2_with fail
          go_ret
          exact ⟨rfl, (by ((repeat (first | (with_reducible assumption) | (with_reducible exact Gr.refl _) | (with_reducible refine Gr.drew ?_) | (with_reducible refine Gr.alloc ?_ _) | (with_reducible refine Gr.trans ?_ (by assumption)))); (first | done | fail)))⟩
        · obtain rfl : v = false := by rw [← hv]; exact Bool.eq_false_iff.2 fun h => h3 (vM_true.1 h).2.2.2
          have d0 : decide (0 ≤ x.u) = true := decide_eq_true h0
          have d1 : decide (x.u ≤ 7) = true := decide_eq_true h1
          have d2 : decide (1 ≤ x.n) = true := decide_eq_true h2
          have d3 : decide (x.n ≤ 200) = false := decide_eq_false h3
          clear hv h0 h1 h2 h3
          go_enter Tryz.func44, Tryz.ntmps44
          go_wp2_with fail
          go_ret
          exact ⟨rfl, (by ((repeat (first | (with_reducible assumption) | (with_reducible exact Gr.refl _) | (with_reducible refine Gr.drew ?_) | (with_reducible refine Gr.alloc ?_ _) | (with_reducible refine Gr.trans ?_ (by assumption)))); (first | done | fail)))⟩
      · obtain rfl : v = false := by rw [← hv]; exact Bool.eq_false_iff.2 fun h => h2 (vM_true.1 h).2.2.1
        have d0 : decide (0 ≤ x.u) = true := decide_eq_true h0
        have d1 : decide (x.u ≤ 7) = true := decide_eq_true h1
        have d2 : decide (1 ≤ x.n) = false := decide_eq_false h2
        clear hv h0 h1 h2
        go_enter Tryz.func44, Tryz.ntmps44
        go_wp2_with fail
        go_ret
        exact ⟨rfl, (by ((repeat (first | (with_reducible assumption) | (with_reducible exact Gr.refl _) | (with_reducible refine Gr.drew ?_) | (with_reducible refine Gr.alloc ?_ _) | (with_reducible refine Gr.trans ?_ (by assumption)))); (first | done | fail)))⟩
    · obtain rfl : v = false := by rw [← hv]; exact Bool.eq_false_iff.2 fun h => h1 (vM_true.1 h).2.1
      have d0 : decide (0 ≤ x.u) = true := decide_eq_true h0
      have d1 : decide (x.u ≤ 7) = false := decide_eq_false h1
      clear hv h0 h1
      go_enter Tryz.func44, Tryz.ntmps44
      go_wp2_with fail
      go_ret
      exact ⟨rfl, (by ((repeat (first | (with_reducible assumption) | (with_reducible exact Gr.refl _) | (with_reducible refine Gr.drew ?_) | (with_reducible refine Gr.alloc ?_ _) | (with_reducible refine Gr.trans ?_ (by assumption)))); (first | done | fail)))⟩
  · obtain rfl : v = false := by rw [← hv]; exact Bool.eq_false_iff.2 fun h => h0 (vM_true.1 h).1
    have d0 : decide (0 ≤ x.u) = false := decide_eq_false h0
    clear hv h0
    go_enter Tryz.func44, Tryz.ntmps44
    go_wp2_with fail
    go_ret
    exact ⟨rfl, (by ((repeat (first | (with_reducible assumption) | (with_reducible exact Gr.refl _) | (with_reducible refine Gr.drew ?_) | (with_reducible refine Gr.alloc ?_ _) | (with_reducible refine Gr.trans ?_ (by assumption)))); (first | done | fail)))⟩

theorem bm_eq (x : Mk) : vM x = (decide (0 ≤ x.u ∧ x.u ≤ 7) && decide (1 ≤ x.n ∧ x.n ≤ 200)) := by
  unfold vM
  rw [← Bool.decide_and]
  exact decide_eq_decide.2 (by omega)
set_option maxHeartbeats 2000000 in
theorem bm_any (x : Mk) (w : World) (v : Bool) (hv : vM x = v) : Calls Tryz.prog 70 #[.agg #[.int .i64 x.u, .int .i64 x.n]] w fun e w' => e = .returned (.bool v) ∧ Gr w w' := by
  rw [bm_eq] at hv
  obtain ⟨p, hp⟩ : ∃ p, decide (0 ≤ x.u ∧ x.u ≤ 7) = p := ⟨_, rfl⟩
  obtain ⟨q, hq⟩ : ∃ q, decide (1 ≤ x.n ∧ x.n ≤ 200) = q := ⟨_, rfl⟩
  rw [hp, hq] at hv
  have HP := hide hp
  have HQ := hide hq
  clear hp hq
  cases p
  · obtain rfl : v = false := by rw [← hv]; rfl
    clear hv
    go_enter Tryz.func70, Tryz.ntmps70
    go_wp2_with fail
    refine (in_any _ 0 7 _ false HP.out).mono ?_
    rintro e w1 ⟨rfl, rfl⟩
    go_wp2_with fail
    go_ret
    exact ⟨rfl, (by ((repeat (first | (with_reducible assumption) | (with_reducible exact Gr.refl _) | (with_reducible refine Gr.drew ?_) | (with_reducible refine Gr.alloc ?_ _) | (with_reducible refine Gr.trans ?_ (by assumption)))); (first | done | fail)))⟩
  · obtain rfl : v = q := by rw [← hv]; rfl
    clear hv
    go_enter Tryz.func70, Tryz.ntmps70
    go_wp2_with fail
    refine (in_any _ 0 7 _ true HP.out).mono ?_
    rintro e w1 ⟨rfl, rfl⟩
    go_wp2_with fail
    refine (in_any _ 1 200 _ v HQ.out).mono ?_
    rintro e w1 ⟨rfl, rfl⟩
    go_wp2_with fail
    go_ret
    exact ⟨rfl, (by ((repeat (first | (with_reducible assumption) | (with_reducible exact Gr.refl _) | (with_reducible refine Gr.drew ?_) | (with_reducible refine Gr.alloc ?_ _) | (with_reducible refine Gr.trans ?_ (by assumption)))); (first | done | fail)))⟩
set_option maxHeartbeats 1000000 in
theorem rmark_any (x : Dec) (w : World) : Calls Tryz.prog 62 #[.agg #[.int .i64 x.u, .int .i64 x.n, .int .i64 x.k, .int .i64 x.a, .int .i64 x.b]] w fun e w' => e = .returned (.agg #[.int .i64 x.mk_.u, .int .i64 x.mk_.n]) ∧ Gr w w' := by
  go_enter Tryz.func62, Tryz.ntmps62
  go_wp2_with fail
  exact bodyPost_ret (v := .agg #[.int .i64 x.mk_.u, .int .i64 x.mk_.n]) (by simp [results, Tryz.results62, go_sem]; exact ⟨rfl, rfl⟩) rfl ⟨rfl, (by ((repeat (first | (with_reducible assumption) | (with_reducible exact Gr.refl _) | (with_reducible refine Gr.drew ?_) | (with_reducible refine Gr.alloc ?_ _) | (with_reducible refine Gr.trans ?_ (by assumption)))); (first | done | fail)))⟩
/-- before, in the order of marks -/
def ltM (x y : Mk) : Bool := decide (x.u < y.u ∨ (x.u = y.u ∧ x.n < y.n))
theorem ltM_key {x y : Mk} (hx : vM x = true) (hy : vM y = true) : ltM x y = decide (x.key < y.key) := by
  rw [vM_true] at hx hy
  unfold ltM Mk.key
  exact decide_eq_decide.2 (by omega)
set_option maxHeartbeats 2000000 in
theorem before_any (x y : Mk) (w : World) (v : Bool) (hv : ltM x y = v) : Calls Tryz.prog 61 #[.agg #[.int .i64 x.u, .int .i64 x.n], .agg #[.int .i64 y.u, .int .i64 y.n]] w fun e w' => e = .returned (.bool v) ∧ Gr w w' := by
  unfold ltM at hv
  by_cases h1 : x.u < y.u
  · obtain rfl : v = true := by rw [← hv]; exact decide_eq_true (.inl h1)
    have d1 : decide (x.u < y.u) = true := decide_eq_true h1
    clear hv h1
    go_enter Tryz.func61, Tryz.ntmps61
    go_wp2_with fail
    go_ret
    exact ⟨rfl, (by ((repeat (first | (with_reducible assumption) | (with_reducible exact Gr.refl _) | (with_reducible refine Gr.drew ?_) | (with_reducible refine Gr.alloc ?_ _) | (with_reducible refine Gr.trans ?_ (by assumption)))); (first | done | fail)))⟩
  · have d1 : decide (x.u < y.u) = false := decide_eq_false h1
    by_cases h2 : x.u = y.u
    · have e2 : (x.u == y.u) = true := beq_iff_eq.2 h2
      by_cases h3 : x.n < y.n
      · obtain rfl : v = true := by rw [← hv]; exact decide_eq_true (.inr ⟨h2, h3⟩)
        have d3 : decide (x.n < y.n) = true := decide_eq_true h3
        clear hv h1 h2 h3
        go_enter Tryz.func61, Tryz.ntmps61
        go_wp2_with fail
        go_ret
        exact ⟨rfl, (by ((repeat (first | (with_reducible assumption) | (with_reducible exact Gr.refl _) | (with_reducible refine Gr.drew ?_) | (with_reducible refine Gr.alloc ?_ _) | (with_reducible refine Gr.trans ?_ (by assumption)))); (first | done | fail)))⟩
      · obtain rfl : v = false := by rw [← hv]; exact decide_eq_false (by omega)
        have d3 : decide (x.n < y.n) = false := decide_eq_false h3
        clear hv h1 h2 h3
        go_enter Tryz.func61, Tryz.ntmps61
        go_wp2_with fail
        go_ret
        exact ⟨rfl, (by ((repeat (first | (with_reducible assumption) | (with_reducible exact Gr.refl _) | (with_reducible refine Gr.drew ?_) | (with_reducible refine Gr.alloc ?_ _) | (with_reducible refine Gr.trans ?_ (by assumption)))); (first | done | fail)))⟩
    · have e2 : (x.u == y.u) = false := beq_eq_false_iff_ne.2 h2
      obtain rfl : v = false := by rw [← hv]; exact decide_eq_false (by omega)
      clear hv h1 h2
      go_enter Tryz.func61, Tryz.ntmps61
      go_wp2_with fail
      go_ret
      exact ⟨rfl, (by ((repeat (first | (with_reducible assumption) | (with_reducible exact Gr.refl _) | (with_reducible refine Gr.drew ?_) | (with_reducible refine Gr.alloc ?_ _) | (with_reducible refine Gr.trans ?_ (by assumption)))); (first | done | fail)))⟩

set_option maxHeartbeats 2000000 in
theorem valid_k3e (u n a : Int) (w : World) (hm : vM ⟨u, n⟩ = true) (ha : iB a = true) : Calls Tryz.prog 23 #[.agg #[.int .i64 u, .int .i64 n, .int .i64 3, .int .i64 a, .int .i64 a]] w fun e w' => e = .returned (.bool false) ∧ Gr w w' := by
  have HM := hide hm
  have HP := hide ha
  clear hm ha
  go_enter Tryz.func23, Tryz.ntmps23
  go_wp2_with fail
  generalize hW : w.alloc _ = W
  obtain ⟨B, bx⟩ : Gr w W ∧ Box W w.heap.size #[.int .i64 u, .int .i64 n, .int .i64 3, .int .i64 a, .int .i64 a] 44 := by subst hW; exact ⟨(by ((repeat (first | (with_reducible assumption) | (with_reducible exact Gr.refl _) | (with_reducible refine Gr.drew ?_) | (with_reducible refine Gr.alloc ?_ _) | (with_reducible refine Gr.trans ?_ (by assumption)))); (first | done | fail))), Box.new _ _ _⟩
  clear hW
  refine (mark_any ⟨u, n, 3, a, a⟩ _).mono ?_
  rintro e w1 ⟨rfl, hg⟩
  go_wp2_with fail
  refine (vm_any ⟨u, n⟩ _ true HM.out).mono ?_
  rintro e w2 ⟨rfl, hg2⟩
  replace bx := bx.below' (hg.trans hg2).below
  have G := B.trans (hg.trans hg2)
  clear B hg hg2
  have lx := bx.lt
  have c0 := bx.at_ 0
  have c1 := bx.at_ 1
  have c2 := bx.at_ 2
  have c3 := bx.at_ 3
  have c4 := bx.at_ 4
  simp at c0 c1 c2 c3 c4
  clear bx
  go_wp2_with fail
  refine (isId_any _ _ true HP.out).mono ?_
  rintro e w1 ⟨rfl, rfl⟩
  go_wp2_with fail
  refine (isId_any _ _ true HP.out).mono ?_
  rintro e w1 ⟨rfl, rfl⟩
  go_wp2_with fail
  go_ret
  exact ⟨rfl, (by ((repeat (first | (with_reducible assumption) | (with_reducible exact Gr.refl _) | (with_reducible refine Gr.drew ?_) | (with_reducible refine Gr.alloc ?_ _) | (with_reducible refine Gr.trans ?_ (by assumption)))); (first | done | fail)))⟩

set_option maxHeartbeats 2000000 in
theorem valid_k1 (x : Dec) (w : World) (hm : vM x.mk_ = true) (hk : x.k = 1)  (v : Bool) (hv : vK x = v) : Calls Tryz.prog 23 #[.agg #[.int .i64 x.u, .int .i64 x.n, .int .i64 x.k, .int .i64 x.a, .int .i64 x.b]] w fun e w' => e = .returned (.bool v) ∧ Gr w w' := by
  have HM := hide hm
  rw [vK_12 (.inl hk)] at hv
  obtain ⟨p, hp⟩ : ∃ p, dB x.a = p := ⟨_, rfl⟩
  obtain ⟨q, hq⟩ : ∃ q, dB x.b = q := ⟨_, rfl⟩
  rw [hp, hq] at hv
  have k1 : (x.k == 1) = true := by rw [hk]; rfl
  have k2 : (x.k == 2) = false := by rw [hk]; rfl
  have k3 : (x.k == 3) = false := by rw [hk]; rfl
  have k4 : (x.k == 4) = false := by rw [hk]; rfl
  have HP := hide hp
  have HQ := hide hq
  clear hp hq hm hk
  cases p
  · have HV := hide (show false = v from hv)
    clear hv
    go_enter Tryz.func23, Tryz.ntmps23
    go_wp2_with fail
    generalize hW : w.alloc _ = W
    obtain ⟨B, bx⟩ : Gr w W ∧ Box W w.heap.size #[.int .i64 x.u, .int .i64 x.n, .int .i64 x.k, .int .i64 x.a, .int .i64 x.b] 44 := by subst hW; exact ⟨(by ((repeat (first | (with_reducible assumption) | (with_reducible exact Gr.refl _) | (with_reducible refine Gr.drew ?_) | (with_reducible refine Gr.alloc ?_ _) | (with_reducible refine Gr.trans ?_ (by assumption)))); (first | done | fail))), Box.new _ _ _⟩
    clear hW
    refine (mark_any x _).mono ?_
    rintro e w1 ⟨rfl, hg⟩
    go_wp2_with fail
    refine (vm_any x.mk_ _ true HM.out).mono ?_
    rintro e w2 ⟨rfl, hg2⟩
    replace bx := bx.below' (hg.trans hg2).below
    have G := B.trans (hg.trans hg2)
    clear B hg hg2
    have lx := bx.lt
    have c0 := bx.at_ 0
    have c1 := bx.at_ 1
    have c2 := bx.at_ 2
    have c3 := bx.at_ 3
    have c4 := bx.at_ 4
    simp at c0 c1 c2 c3 c4
    clear bx
    go_wp2_with fail
    refine (isDie_any _ _ false HP.out).mono ?_
    rintro e w1 ⟨rfl, rfl⟩
    go_wp2_with fail
    go_ret
    exact ⟨by first | rfl | (rw [← HV.out]; rfl), (by ((repeat (first | (with_reducible assumption) | (with_reducible exact Gr.refl _) | (with_reducible refine Gr.drew ?_) | (with_reducible refine Gr.alloc ?_ _) | (with_reducible refine Gr.trans ?_ (by assumption)))); (first | done | fail)))⟩
  · cases q
    · have HV := hide (show false = v from hv)
      clear hv
      go_enter Tryz.func23, Tryz.ntmps23
      go_wp2_with fail
      generalize hW : w.alloc _ = W
      obtain ⟨B, bx⟩ : Gr w W ∧ Box W w.heap.size #[.int .i64 x.u, .int .i64 x.n, .int .i64 x.k, .int .i64 x.a, .int .i64 x.b] 44 := by subst hW; exact ⟨(by ((repeat (first | (with_reducible assumption) | (with_reducible exact Gr.refl _) | (with_reducible refine Gr.drew ?_) | (with_reducible refine Gr.alloc ?_ _) | (with_reducible refine Gr.trans ?_ (by assumption)))); (first | done | fail))), Box.new _ _ _⟩
      clear hW
      refine (mark_any x _).mono ?_
      rintro e w1 ⟨rfl, hg⟩
      go_wp2_with fail
      refine (vm_any x.mk_ _ true HM.out).mono ?_
      rintro e w2 ⟨rfl, hg2⟩
      replace bx := bx.below' (hg.trans hg2).below
      have G := B.trans (hg.trans hg2)
      clear B hg hg2
      have lx := bx.lt
      have c0 := bx.at_ 0
      have c1 := bx.at_ 1
      have c2 := bx.at_ 2
      have c3 := bx.at_ 3
      have c4 := bx.at_ 4
      simp at c0 c1 c2 c3 c4
      clear bx
      go_wp2_with fail
      refine (isDie_any _ _ true HP.out).mono ?_
      rintro e w1 ⟨rfl, rfl⟩
      go_wp2_with fail
      refine (isDie_any _ _ false HQ.out).mono ?_
      rintro e w1 ⟨rfl, rfl⟩
      go_wp2_with fail
      go_ret
      exact ⟨by first | rfl | (rw [← HV.out]; rfl), (by ((repeat (first | (with_reducible assumption) | (with_reducible exact Gr.refl _) | (with_reducible refine Gr.drew ?_) | (with_reducible refine Gr.alloc ?_ _) | (with_reducible refine Gr.trans ?_ (by assumption)))); (first | done | fail)))⟩
    · by_cases h : x.a < x.b
      · have D : decide (x.a < x.b) = true := decide_eq_true h
        have d5 := D
        have HV := hide (show true = v from by rw [← hv, D]; rfl)
        clear hv D
        go_enter Tryz.func23, Tryz.ntmps23
        go_wp2_with fail
        generalize hW : w.alloc _ = W
        obtain ⟨B, bx⟩ : Gr w W ∧ Box W w.heap.size #[.int .i64 x.u, .int .i64 x.n, .int .i64 x.k, .int .i64 x.a, .int .i64 x.b] 44 := by subst hW; exact ⟨(by ((repeat (first | (with_reducible assumption) | (with_reducible exact Gr.refl _) | (with_reducible refine Gr.drew ?_) | (with_reducible refine Gr.alloc ?_ _) | (with_reducible refine Gr.trans ?_ (by assumption)))); (first | done | fail))), Box.new _ _ _⟩
        clear hW
        refine (mark_any x _).mono ?_
        rintro e w1 ⟨rfl, hg⟩
        go_wp2_with fail
        refine (vm_any x.mk_ _ true HM.out).mono ?_
        rintro e w2 ⟨rfl, hg2⟩
        replace bx := bx.below' (hg.trans hg2).below
        have G := B.trans (hg.trans hg2)
        clear B hg hg2
        have lx := bx.lt
        have c0 := bx.at_ 0
        have c1 := bx.at_ 1
        have c2 := bx.at_ 2
        have c3 := bx.at_ 3
        have c4 := bx.at_ 4
        simp at c0 c1 c2 c3 c4
        clear bx
        go_wp2_with fail
        refine (isDie_any _ _ true HP.out).mono ?_
        rintro e w1 ⟨rfl, rfl⟩
        go_wp2_with fail
        refine (isDie_any _ _ true HQ.out).mono ?_
        rintro e w1 ⟨rfl, rfl⟩
        go_wp2_with fail
        go_ret
        exact ⟨by first | rfl | (rw [← HV.out]; rfl), (by ((repeat (first | (with_reducible assumption) | (with_reducible exact Gr.refl _) | (with_reducible refine Gr.drew ?_) | (with_reducible refine Gr.alloc ?_ _) | (with_reducible refine Gr.trans ?_ (by assumption)))); (first | done | fail)))⟩
      · have D : decide (x.a < x.b) = false := decide_eq_false h
        have d5 := D
        have HV := hide (show false = v from by rw [← hv, D]; rfl)
        clear hv D
        go_enter Tryz.func23, Tryz.ntmps23
        go_wp2_with fail
        generalize hW : w.alloc _ = W
        obtain ⟨B, bx⟩ : Gr w W ∧ Box W w.heap.size #[.int .i64 x.u, .int .i64 x.n, .int .i64 x.k, .int .i64 x.a, .int .i64 x.b] 44 := by subst hW; exact ⟨(by ((repeat (first | (with_reducible assumption) | (with_reducible exact Gr.refl _) | (with_reducible refine Gr.drew ?_) | (with_reducible refine Gr.alloc ?_ _) | (with_reducible refine Gr.trans ?_ (by assumption)))); (first | done | fail))), Box.new _ _ _⟩
        clear hW
        refine (mark_any x _).mono ?_
        rintro e w1 ⟨rfl, hg⟩
        go_wp2_with fail
        refine (vm_any x.mk_ _ true HM.out).mono ?_
        rintro e w2 ⟨rfl, hg2⟩
        replace bx := bx.below' (hg.trans hg2).below
        have G := B.trans (hg.trans hg2)
        clear B hg hg2
        have lx := bx.lt
        have c0 := bx.at_ 0
        have c1 := bx.at_ 1
        have c2 := bx.at_ 2
        have c3 := bx.at_ 3
        have c4 := bx.at_ 4
        simp at c0 c1 c2 c3 c4
        clear bx
        go_wp2_with fail
        refine (isDie_any _ _ true HP.out).mono ?_
        rintro e w1 ⟨rfl, rfl⟩
        go_wp2_with fail
        refine (isDie_any _ _ true HQ.out).mono ?_
        rintro e w1 ⟨rfl, rfl⟩
        go_wp2_with fail
        go_ret
        exact ⟨by first | rfl | (rw [← HV.out]; rfl), (by ((repeat (first | (with_reducible assumption) | (with_reducible exact Gr.refl _) | (with_reducible refine Gr.drew ?_) | (with_reducible refine Gr.alloc ?_ _) | (with_reducible refine Gr.trans ?_ (by assumption)))); (first | done | fail)))⟩

set_option maxHeartbeats 2000000 in
theorem valid_k2 (x : Dec) (w : World) (hm : vM x.mk_ = true) (hk : x.k = 2)  (v : Bool) (hv : vK x = v) : Calls Tryz.prog 23 #[.agg #[.int .i64 x.u, .int .i64 x.n, .int .i64 x.k, .int .i64 x.a, .int .i64 x.b]] w fun e w' => e = .returned (.bool v) ∧ Gr w w' := by
  have HM := hide hm
  rw [vK_12 (.inr hk)] at hv
  obtain ⟨p, hp⟩ : ∃ p, dB x.a = p := ⟨_, rfl⟩
  obtain ⟨q, hq⟩ : ∃ q, dB x.b = q := ⟨_, rfl⟩
  rw [hp, hq] at hv
  have k1 : (x.k == 1) = false := by rw [hk]; rfl
  have k2 : (x.k == 2) = true := by rw [hk]; rfl
  have k3 : (x.k == 3) = false := by rw [hk]; rfl
  have k4 : (x.k == 4) = false := by rw [hk]; rfl
  have HP := hide hp
  have HQ := hide hq
  clear hp hq hm hk
  cases p
  · have HV := hide (show false = v from hv)
    clear hv
    go_enter Tryz.func23, Tryz.ntmps23
    go_wp2_with fail
    generalize hW : w.alloc _ = W
    obtain ⟨B, bx⟩ : Gr w W ∧ Box W w.heap.size #[.int .i64 x.u, .int .i64 x.n, .int .i64 x.k, .int .i64 x.a, .int .i64 x.b] 44 := by subst hW; exact ⟨(by ((repeat (first | (with_reducible assumption) | (with_reducible exact Gr.refl _) | (with_reducible refine Gr.drew ?_) | (with_reducible refine Gr.alloc ?_ _) | (with_reducible refine Gr.trans ?_ (by assumption)))); (first | done | fail))), Box.new _ _ _⟩
    clear hW
    refine (mark_any x _).mono ?_
    rintro e w1 ⟨rfl, hg⟩
    go_wp2_with fail
    refine (vm_any x.mk_ _ true HM.out).mono ?_
    rintro e w2 ⟨rfl, hg2⟩
    replace bx := bx.below' (hg.trans hg2).below
    have G := B.trans (hg.trans hg2)
    clear B hg hg2
    have lx := bx.lt
    have c0 := bx.at_ 0
    have c1 := bx.at_ 1
    have c2 := bx.at_ 2
    have c3 := bx.at_ 3
    have c4 := bx.at_ 4
    simp at c0 c1 c2 c3 c4
    clear bx
    go_wp2_with fail
    refine (isDie_any _ _ false HP.out).mono ?_
    rintro e w1 ⟨rfl, rfl⟩
    go_wp2_with fail
    go_ret
    exact ⟨by first | rfl | (rw [← HV.out]; rfl), (by ((repeat (first | (with_reducible assumption) | (with_reducible exact Gr.refl _) | (with_reducible refine Gr.drew ?_) | (with_reducible refine Gr.alloc ?_ _) | (with_reducible refine Gr.trans ?_ (by assumption)))); (first | done | fail)))⟩
  · cases q
    · have HV := hide (show false = v from hv)
      clear hv
      go_enter Tryz.func23, Tryz.ntmps23
      go_wp2_with fail
      generalize hW : w.alloc _ = W
      obtain ⟨B, bx⟩ : Gr w W ∧ Box W w.heap.size #[.int .i64 x.u, .int .i64 x.n, .int .i64 x.k, .int .i64 x.a, .int .i64 x.b] 44 := by subst hW; exact ⟨(by ((repeat (first | (with_reducible assumption) | (with_reducible exact Gr.refl _) | (with_reducible refine Gr.drew ?_) | (with_reducible refine Gr.alloc ?_ _) | (with_reducible refine Gr.trans ?_ (by assumption)))); (first | done | fail))), Box.new _ _ _⟩
      clear hW
      refine (mark_any x _).mono ?_
      rintro e w1 ⟨rfl, hg⟩
      go_wp2_with fail
      refine (vm_any x.mk_ _ true HM.out).mono ?_
      rintro e w2 ⟨rfl, hg2⟩
      replace bx := bx.below' (hg.trans hg2).below
      have G := B.trans (hg.trans hg2)
      clear B hg hg2
      have lx := bx.lt
      have c0 := bx.at_ 0
      have c1 := bx.at_ 1
      have c2 := bx.at_ 2
      have c3 := bx.at_ 3
      have c4 := bx.at_ 4
      simp at c0 c1 c2 c3 c4
      clear bx
      go_wp2_with fail
      refine (isDie_any _ _ true HP.out).mono ?_
      rintro e w1 ⟨rfl, rfl⟩
      go_wp2_with fail
      refine (isDie_any _ _ false HQ.out).mono ?_
      rintro e w1 ⟨rfl, rfl⟩
      go_wp2_with fail
      go_ret
      exact ⟨by first | rfl | (rw [← HV.out]; rfl), (by ((repeat (first | (with_reducible assumption) | (with_reducible exact Gr.refl _) | (with_reducible refine Gr.drew ?_) | (with_reducible refine Gr.alloc ?_ _) | (with_reducible refine Gr.trans ?_ (by assumption)))); (first | done | fail)))⟩
    · by_cases h : x.a < x.b
      · have D : decide (x.a < x.b) = true := decide_eq_true h
        have d5 := D
        have HV := hide (show true = v from by rw [← hv, D]; rfl)
        clear hv D
        go_enter Tryz.func23, Tryz.ntmps23
        go_wp2_with fail
        generalize hW : w.alloc _ = W
        obtain ⟨B, bx⟩ : Gr w W ∧ Box W w.heap.size #[.int .i64 x.u, .int .i64 x.n, .int .i64 x.k, .int .i64 x.a, .int .i64 x.b] 44 := by subst hW; exact ⟨(by ((repeat (first | (with_reducible assumption) | (with_reducible exact Gr.refl _) | (with_reducible refine Gr.drew ?_) | (with_reducible refine Gr.alloc ?_ _) | (with_reducible refine Gr.trans ?_ (by assumption)))); (first | done | fail))), Box.new _ _ _⟩
        clear hW
        refine (mark_any x _).mono ?_
        rintro e w1 ⟨rfl, hg⟩
        go_wp2_with fail
        refine (vm_any x.mk_ _ true HM.out).mono ?_
        rintro e w2 ⟨rfl, hg2⟩
        replace bx := bx.below' (hg.trans hg2).below
        have G := B.trans (hg.trans hg2)
        clear B hg hg2
        have lx := bx.lt
        have c0 := bx.at_ 0
        have c1 := bx.at_ 1
        have c2 := bx.at_ 2
        have c3 := bx.at_ 3
        have c4 := bx.at_ 4
        simp at c0 c1 c2 c3 c4
        clear bx
        go_wp2_with fail
        refine (isDie_any _ _ true HP.out).mono ?_
        rintro e w1 ⟨rfl, rfl⟩
        go_wp2_with fail
        refine (isDie_any _ _ true HQ.out).mono ?_
        rintro e w1 ⟨rfl, rfl⟩
        go_wp2_with fail
        go_ret
        exact ⟨by first | rfl | (rw [← HV.out]; rfl), (by ((repeat (first | (with_reducible assumption) | (with_reducible exact Gr.refl _) | (with_reducible refine Gr.drew ?_) | (with_reducible refine Gr.alloc ?_ _) | (with_reducible refine Gr.trans ?_ (by assumption)))); (first | done | fail)))⟩
      · have D : decide (x.a < x.b) = false := decide_eq_false h
        have d5 := D
        have HV := hide (show false = v from by rw [← hv, D]; rfl)
        clear hv D
        go_enter Tryz.func23, Tryz.ntmps23
        go_wp2_with fail
        generalize hW : w.alloc _ = W
        obtain ⟨B, bx⟩ : Gr w W ∧ Box W w.heap.size #[.int .i64 x.u, .int .i64 x.n, .int .i64 x.k, .int .i64 x.a, .int .i64 x.b] 44 := by subst hW; exact ⟨(by ((repeat (first | (with_reducible assumption) | (with_reducible exact Gr.refl _) | (with_reducible refine Gr.drew ?_) | (with_reducible refine Gr.alloc ?_ _) | (with_reducible refine Gr.trans ?_ (by assumption)))); (first | done | fail))), Box.new _ _ _⟩
        clear hW
        refine (mark_any x _).mono ?_
        rintro e w1 ⟨rfl, hg⟩
        go_wp2_with fail
        refine (vm_any x.mk_ _ true HM.out).mono ?_
        rintro e w2 ⟨rfl, hg2⟩
        replace bx := bx.below' (hg.trans hg2).below
        have G := B.trans (hg.trans hg2)
        clear B hg hg2
        have lx := bx.lt
        have c0 := bx.at_ 0
        have c1 := bx.at_ 1
        have c2 := bx.at_ 2
        have c3 := bx.at_ 3
        have c4 := bx.at_ 4
        simp at c0 c1 c2 c3 c4
        clear bx
        go_wp2_with fail
        refine (isDie_any _ _ true HP.out).mono ?_
        rintro e w1 ⟨rfl, rfl⟩
        go_wp2_with fail
        refine (isDie_any _ _ true HQ.out).mono ?_
        rintro e w1 ⟨rfl, rfl⟩
        go_wp2_with fail
        go_ret
        exact ⟨by first | rfl | (rw [← HV.out]; rfl), (by ((repeat (first | (with_reducible assumption) | (with_reducible exact Gr.refl _) | (with_reducible refine Gr.drew ?_) | (with_reducible refine Gr.alloc ?_ _) | (with_reducible refine Gr.trans ?_ (by assumption)))); (first | done | fail)))⟩

set_option maxHeartbeats 2000000 in
theorem valid_k3 (x : Dec) (w : World) (hm : vM x.mk_ = true) (hk : x.k = 3)  (v : Bool) (hv : vK x = v) : Calls Tryz.prog 23 #[.agg #[.int .i64 x.u, .int .i64 x.n, .int .i64 x.k, .int .i64 x.a, .int .i64 x.b]] w fun e w' => e = .returned (.bool v) ∧ Gr w w' := by
  have HM := hide hm
  rw [vK_3 hk] at hv
  obtain ⟨p, hp⟩ : ∃ p, iB x.a = p := ⟨_, rfl⟩
  obtain ⟨q, hq⟩ : ∃ q, iB x.b = q := ⟨_, rfl⟩
  rw [hp, hq] at hv
  have k1 : (x.k == 1) = false := by rw [hk]; rfl
  have k2 : (x.k == 2) = false := by rw [hk]; rfl
  have k3 : (x.k == 3) = true := by rw [hk]; rfl
  have k4 : (x.k == 4) = false := by rw [hk]; rfl
  have HP := hide hp
  have HQ := hide hq
  have HK := hide hk
  clear hp hq hm hk
  cases p
  · have HV := hide (show false = v from hv)
    clear hv
    go_enter Tryz.func23, Tryz.ntmps23
    go_wp2_with fail
    generalize hW : w.alloc _ = W
    obtain ⟨B, bx⟩ : Gr w W ∧ Box W w.heap.size #[.int .i64 x.u, .int .i64 x.n, .int .i64 x.k, .int .i64 x.a, .int .i64 x.b] 44 := by subst hW; exact ⟨(by ((repeat (first | (with_reducible assumption) | (with_reducible exact Gr.refl _) | (with_reducible refine Gr.drew ?_) | (with_reducible refine Gr.alloc ?_ _) | (with_reducible refine Gr.trans ?_ (by assumption)))); (first | done | fail))), Box.new _ _ _⟩
    clear hW
    refine (mark_any x _).mono ?_
    rintro e w1 ⟨rfl, hg⟩
    go_wp2_with fail
    refine (vm_any x.mk_ _ true HM.out).mono ?_
    rintro e w2 ⟨rfl, hg2⟩
    replace bx := bx.below' (hg.trans hg2).below
    have G := B.trans (hg.trans hg2)
    clear B hg hg2
    have lx := bx.lt
    have c0 := bx.at_ 0
    have c1 := bx.at_ 1
    have c2 := bx.at_ 2
    have c3 := bx.at_ 3
    have c4 := bx.at_ 4
    simp at c0 c1 c2 c3 c4
    clear bx
    go_wp2_with fail
    refine (isId_any _ _ false HP.out).mono ?_
    rintro e w1 ⟨rfl, rfl⟩
    go_wp2_with fail
    go_ret
    exact ⟨by first | rfl | (rw [← HV.out]; rfl), (by ((repeat (first | (with_reducible assumption) | (with_reducible exact Gr.refl _) | (with_reducible refine Gr.drew ?_) | (with_reducible refine Gr.alloc ?_ _) | (with_reducible refine Gr.trans ?_ (by assumption)))); (first | done | fail)))⟩
  · cases q
    · have HV := hide (show false = v from hv)
      clear hv
      go_enter Tryz.func23, Tryz.ntmps23
      go_wp2_with fail
      generalize hW : w.alloc _ = W
      obtain ⟨B, bx⟩ : Gr w W ∧ Box W w.heap.size #[.int .i64 x.u, .int .i64 x.n, .int .i64 x.k, .int .i64 x.a, .int .i64 x.b] 44 := by subst hW; exact ⟨(by ((repeat (first | (with_reducible assumption) | (with_reducible exact Gr.refl _) | (with_reducible refine Gr.drew ?_) | (with_reducible refine Gr.alloc ?_ _) | (with_reducible refine Gr.trans ?_ (by assumption)))); (first | done | fail))), Box.new _ _ _⟩
      clear hW
      refine (mark_any x _).mono ?_
      rintro e w1 ⟨rfl, hg⟩
      go_wp2_with fail
      refine (vm_any x.mk_ _ true HM.out).mono ?_
      rintro e w2 ⟨rfl, hg2⟩
      replace bx := bx.below' (hg.trans hg2).below
      have G := B.trans (hg.trans hg2)
      clear B hg hg2
      have lx := bx.lt
      have c0 := bx.at_ 0
      have c1 := bx.at_ 1
      have c2 := bx.at_ 2
      have c3 := bx.at_ 3
      have c4 := bx.at_ 4
      simp at c0 c1 c2 c3 c4
      clear bx
      go_wp2_with fail
      refine (isId_any _ _ true HP.out).mono ?_
      rintro e w1 ⟨rfl, rfl⟩
      go_wp2_with fail
      refine (isId_any _ _ false HQ.out).mono ?_
      rintro e w1 ⟨rfl, rfl⟩
      go_wp2_with fail
      go_ret
      exact ⟨by first | rfl | (rw [← HV.out]; rfl), (by ((repeat (first | (with_reducible assumption) | (with_reducible exact Gr.refl _) | (with_reducible refine Gr.drew ?_) | (with_reducible refine Gr.alloc ?_ _) | (with_reducible refine Gr.trans ?_ (by assumption)))); (first | done | fail)))⟩
    · by_cases h : x.a = x.b
      · obtain rfl : v = false := by rw [← hv, decide_eq_false (fun e => e h)]; rfl
        have hk3 := HK.out
        clear hv k1 k2 k3 k4
        obtain ⟨u, n, k, a, b⟩ := x
        simp only at h hk3
        subst h
        subst hk3
        exact valid_k3e _ _ _ w HM.out HP.out
      · have D : decide (x.a ≠ x.b) = true := decide_eq_true h
        have d5 : (x.a != x.b) = true := by simp [h]
        have HV := hide (show true = v from by rw [← hv, D]; rfl)
        clear hv D
        go_enter Tryz.func23, Tryz.ntmps23
        go_wp2_with fail
        generalize hW : w.alloc _ = W
        obtain ⟨B, bx⟩ : Gr w W ∧ Box W w.heap.size #[.int .i64 x.u, .int .i64 x.n, .int .i64 x.k, .int .i64 x.a, .int .i64 x.b] 44 := by subst hW; exact ⟨(by ((repeat (first | (with_reducible assumption) | (with_reducible exact Gr.refl _) | (with_reducible refine Gr.drew ?_) | (with_reducible refine Gr.alloc ?_ _) | (with_reducible refine Gr.trans ?_ (by assumption)))); (first | done | fail))), Box.new _ _ _⟩
        clear hW
        refine (mark_any x _).mono ?_
        rintro e w1 ⟨rfl, hg⟩
        go_wp2_with fail
        refine (vm_any x.mk_ _ true HM.out).mono ?_
        rintro e w2 ⟨rfl, hg2⟩
        replace bx := bx.below' (hg.trans hg2).below
        have G := B.trans (hg.trans hg2)
        clear B hg hg2
        have lx := bx.lt
        have c0 := bx.at_ 0
        have c1 := bx.at_ 1
        have c2 := bx.at_ 2
        have c3 := bx.at_ 3
        have c4 := bx.at_ 4
        simp at c0 c1 c2 c3 c4
        clear bx
        go_wp2_with fail
        refine (isId_any _ _ true HP.out).mono ?_
        rintro e w1 ⟨rfl, rfl⟩
        go_wp2_with fail
        refine (isId_any _ _ true HQ.out).mono ?_
        rintro e w1 ⟨rfl, rfl⟩
        go_wp2_with fail
        go_ret
        exact ⟨by first | rfl | (rw [← HV.out]; rfl), (by ((repeat (first | (with_reducible assumption) | (with_reducible exact Gr.refl _) | (with_reducible refine Gr.drew ?_) | (with_reducible refine Gr.alloc ?_ _) | (with_reducible refine Gr.trans ?_ (by assumption)))); (first | done | fail)))⟩

set_option maxHeartbeats 2000000 in
theorem valid_k4 (x : Dec) (w : World) (hm : vM x.mk_ = true) (hk : x.k = 4)  (v : Bool) (hv : vK x = v) : Calls Tryz.prog 23 #[.agg #[.int .i64 x.u, .int .i64 x.n, .int .i64 x.k, .int .i64 x.a, .int .i64 x.b]] w fun e w' => e = .returned (.bool v) ∧ Gr w w' := by
  have HM := hide hm
  rw [vK_4 hk] at hv
  obtain ⟨p, hp⟩ : ∃ p, iB x.a = p := ⟨_, rfl⟩
  obtain ⟨q, hq⟩ : ∃ q, iB x.b = q := ⟨_, rfl⟩
  rw [hp, hq] at hv
  have k1 : (x.k == 1) = false := by rw [hk]; rfl
  have k2 : (x.k == 2) = false := by rw [hk]; rfl
  have k3 : (x.k == 3) = false := by rw [hk]; rfl
  have k4 : (x.k == 4) = true := by rw [hk]; rfl
  have HP := hide hp
  have HQ := hide hq
  clear hp hq hm hk
  cases p
  · have HV := hide (show false = v from hv)
    clear hv
    go_enter Tryz.func23, Tryz.ntmps23
    go_wp2_with fail
    generalize hW : w.alloc _ = W
    obtain ⟨B, bx⟩ : Gr w W ∧ Box W w.heap.size #[.int .i64 x.u, .int .i64 x.n, .int .i64 x.k, .int .i64 x.a, .int .i64 x.b] 44 := by subst hW; exact ⟨(by ((repeat (first | (with_reducible assumption) | (with_reducible exact Gr.refl _) | (with_reducible refine Gr.drew ?_) | (with_reducible refine Gr.alloc ?_ _) | (with_reducible refine Gr.trans ?_ (by assumption)))); (first | done | fail))), Box.new _ _ _⟩
    clear hW
    refine (mark_any x _).mono ?_
    rintro e w1 ⟨rfl, hg⟩
    go_wp2_with fail
    refine (vm_any x.mk_ _ true HM.out).mono ?_
    rintro e w2 ⟨rfl, hg2⟩
    replace bx := bx.below' (hg.trans hg2).below
    have G := B.trans (hg.trans hg2)
    clear B hg hg2
    have lx := bx.lt
    have c0 := bx.at_ 0
    have c1 := bx.at_ 1
    have c2 := bx.at_ 2
    have c3 := bx.at_ 3
    have c4 := bx.at_ 4
    simp at c0 c1 c2 c3 c4
    clear bx
    go_wp2_with fail
    refine (isId_any _ _ false HP.out).mono ?_
    rintro e w1 ⟨rfl, rfl⟩
    go_wp2_with fail
    go_ret
    exact ⟨by first | rfl | (rw [← HV.out]; rfl), (by ((repeat (first | (with_reducible assumption) | (with_reducible exact Gr.refl _) | (with_reducible refine Gr.drew ?_) | (with_reducible refine Gr.alloc ?_ _) | (with_reducible refine Gr.trans ?_ (by assumption)))); (first | done | fail)))⟩
  · cases q
    · have HV := hide (show false = v from hv)
      clear hv
      go_enter Tryz.func23, Tryz.ntmps23
      go_wp2_with fail
      generalize hW : w.alloc _ = W
      obtain ⟨B, bx⟩ : Gr w W ∧ Box W w.heap.size #[.int .i64 x.u, .int .i64 x.n, .int .i64 x.k, .int .i64 x.a, .int .i64 x.b] 44 := by subst hW; exact ⟨(by ((repeat (first | (with_reducible assumption) | (with_reducible exact Gr.refl _) | (with_reducible refine Gr.drew ?_) | (with_reducible refine Gr.alloc ?_ _) | (with_reducible refine Gr.trans ?_ (by assumption)))); (first | done | fail))), Box.new _ _ _⟩
      clear hW
      refine (mark_any x _).mono ?_
      rintro e w1 ⟨rfl, hg⟩
      go_wp2_with fail
      refine (vm_any x.mk_ _ true HM.out).mono ?_
      rintro e w2 ⟨rfl, hg2⟩
      replace bx := bx.below' (hg.trans hg2).below
      have G := B.trans (hg.trans hg2)
      clear B hg hg2
      have lx := bx.lt
      have c0 := bx.at_ 0
      have c1 := bx.at_ 1
      have c2 := bx.at_ 2
      have c3 := bx.at_ 3
      have c4 := bx.at_ 4
      simp at c0 c1 c2 c3 c4
      clear bx
      go_wp2_with fail
      refine (isId_any _ _ true HP.out).mono ?_
      rintro e w1 ⟨rfl, rfl⟩
      go_wp2_with fail
      refine (isId_any _ _ false HQ.out).mono ?_
      rintro e w1 ⟨rfl, rfl⟩
      go_wp2_with fail
      go_ret
      exact ⟨by first | rfl | (rw [← HV.out]; rfl), (by ((repeat (first | (with_reducible assumption) | (with_reducible exact Gr.refl _) | (with_reducible refine Gr.drew ?_) | (with_reducible refine Gr.alloc ?_ _) | (with_reducible refine Gr.trans ?_ (by assumption)))); (first | done | fail)))⟩
    · by_cases h : x.a < x.b
      · have D : decide (x.a < x.b) = true := decide_eq_true h
        have d5 := D
        have HV := hide (show true = v from by rw [← hv, D]; rfl)
        clear hv D
        go_enter Tryz.func23, Tryz.ntmps23
        go_wp2_with fail
        generalize hW : w.alloc _ = W
        obtain ⟨B, bx⟩ : Gr w W ∧ Box W w.heap.size #[.int .i64 x.u, .int .i64 x.n, .int .i64 x.k, .int .i64 x.a, .int .i64 x.b] 44 := by subst hW; exact ⟨(by ((repeat (first | (with_reducible assumption) | (with_reducible exact Gr.refl _) | (with_reducible refine Gr.drew ?_) | (with_reducible refine Gr.alloc ?_ _) | (with_reducible refine Gr.trans ?_ (by assumption)))); (first | done | fail))), Box.new _ _ _⟩
        clear hW
        refine (mark_any x _).mono ?_
        rintro e w1 ⟨rfl, hg⟩
        go_wp2_with fail
        refine (vm_any x.mk_ _ true HM.out).mono ?_
        rintro e w2 ⟨rfl, hg2⟩
        replace bx := bx.below' (hg.trans hg2).below
        have G := B.trans (hg.trans hg2)
        clear B hg hg2
        have lx := bx.lt
        have c0 := bx.at_ 0
        have c1 := bx.at_ 1
        have c2 := bx.at_ 2
        have c3 := bx.at_ 3
        have c4 := bx.at_ 4
        simp at c0 c1 c2 c3 c4
        clear bx
        go_wp2_with fail
        refine (isId_any _ _ true HP.out).mono ?_
        rintro e w1 ⟨rfl, rfl⟩
        go_wp2_with fail
        refine (isId_any _ _ true HQ.out).mono ?_
        rintro e w1 ⟨rfl, rfl⟩
        go_wp2_with fail
        go_ret
        exact ⟨by first | rfl | (rw [← HV.out]; rfl), (by ((repeat (first | (with_reducible assumption) | (with_reducible exact Gr.refl _) | (with_reducible refine Gr.drew ?_) | (with_reducible refine Gr.alloc ?_ _) | (with_reducible refine Gr.trans ?_ (by assumption)))); (first | done | fail)))⟩
      · have D : decide (x.a < x.b) = false := decide_eq_false h
        have d5 := D
        have HV := hide (show false = v from by rw [← hv, D]; rfl)
        clear hv D
        go_enter Tryz.func23, Tryz.ntmps23
        go_wp2_with fail
        generalize hW : w.alloc _ = W
        obtain ⟨B, bx⟩ : Gr w W ∧ Box W w.heap.size #[.int .i64 x.u, .int .i64 x.n, .int .i64 x.k, .int .i64 x.a, .int .i64 x.b] 44 := by subst hW; exact ⟨(by ((repeat (first | (with_reducible assumption) | (with_reducible exact Gr.refl _) | (with_reducible refine Gr.drew ?_) | (with_reducible refine Gr.alloc ?_ _) | (with_reducible refine Gr.trans ?_ (by assumption)))); (first | done | fail))), Box.new _ _ _⟩
        clear hW
        refine (mark_any x _).mono ?_
        rintro e w1 ⟨rfl, hg⟩
        go_wp2_with fail
        refine (vm_any x.mk_ _ true HM.out).mono ?_
        rintro e w2 ⟨rfl, hg2⟩
        replace bx := bx.below' (hg.trans hg2).below
        have G := B.trans (hg.trans hg2)
        clear B hg hg2
        have lx := bx.lt
        have c0 := bx.at_ 0
        have c1 := bx.at_ 1
        have c2 := bx.at_ 2
        have c3 := bx.at_ 3
        have c4 := bx.at_ 4
        simp at c0 c1 c2 c3 c4
        clear bx
        go_wp2_with fail
        refine (isId_any _ _ true HP.out).mono ?_
        rintro e w1 ⟨rfl, rfl⟩
        go_wp2_with fail
        refine (isId_any _ _ true HQ.out).mono ?_
        rintro e w1 ⟨rfl, rfl⟩
        go_wp2_with fail
        go_ret
        exact ⟨by first | rfl | (rw [← HV.out]; rfl), (by ((repeat (first | (with_reducible assumption) | (with_reducible exact Gr.refl _) | (with_reducible refine Gr.drew ?_) | (with_reducible refine Gr.alloc ?_ _) | (with_reducible refine Gr.trans ?_ (by assumption)))); (first | done | fail)))⟩

set_option maxHeartbeats 2000000 in
theorem valid_k0 (x : Dec) (w : World) (hm : vM x.mk_ = true) (g1 : x.k ≠ 1) (g2 : x.k ≠ 2) (g3 : x.k ≠ 3) (g4 : x.k ≠ 4)  (v : Bool) (hv : vK x = v) : Calls Tryz.prog 23 #[.agg #[.int .i64 x.u, .int .i64 x.n, .int .i64 x.k, .int .i64 x.a, .int .i64 x.b]] w fun e w' => e = .returned (.bool v) ∧ Gr w w' := by
  have HM := hide hm
  have k1 : (x.k == 1) = false := beq_eq_false_iff_ne.2 g1
  have k2 : (x.k == 2) = false := beq_eq_false_iff_ne.2 g2
  have k3 : (x.k == 3) = false := beq_eq_false_iff_ne.2 g3
  have k4 : (x.k == 4) = false := beq_eq_false_iff_ne.2 g4
  have HV := hide (show false = v from by rw [← hv, vK_0 g1 g2 g3 g4])
  clear hv hm g1 g2 g3 g4
  go_enter Tryz.func23, Tryz.ntmps23
  go_wp2_with fail
  generalize hW : w.alloc _ = W
  obtain ⟨B, bx⟩ : Gr w W ∧ Box W w.heap.size #[.int .i64 x.u, .int .i64 x.n, .int .i64 x.k, .int .i64 x.a, .int .i64 x.b] 44 := by subst hW; exact ⟨(by ((repeat (first | (with_reducible assumption) | (with_reducible exact Gr.refl _) | (with_reducible refine Gr.drew ?_) | (with_reducible refine Gr.alloc ?_ _) | (with_reducible refine Gr.trans ?_ (by assumption)))); (first | done | fail))), Box.new _ _ _⟩
  clear hW
  refine (mark_any x _).mono ?_
  rintro e w1 ⟨rfl, hg⟩
  go_wp2_with fail
  refine (vm_any x.mk_ _ true HM.out).mono ?_
  rintro e w2 ⟨rfl, hg2⟩
  replace bx := bx.below' (hg.trans hg2).below
  have G := B.trans (hg.trans hg2)
  clear B hg hg2
  have lx := bx.lt
  have c0 := bx.at_ 0
  have c1 := bx.at_ 1
  have c2 := bx.at_ 2
  have c3 := bx.at_ 3
  have c4 := bx.at_ 4
  simp at c0 c1 c2 c3 c4
  clear bx
  go_wp2_with fail
  go_ret
  exact ⟨by first | rfl | (rw [← HV.out]; rfl), (by ((repeat (first | (with_reducible assumption) | (with_reducible exact Gr.refl _) | (with_reducible refine Gr.drew ?_) | (with_reducible refine Gr.alloc ?_ _) | (with_reducible refine Gr.trans ?_ (by assumption)))); (first | done | fail)))⟩

set_option maxHeartbeats 2000000 in
theorem valid_m (x : Dec) (w : World) (hm : vM x.mk_ = false) : Calls Tryz.prog 23 #[.agg #[.int .i64 x.u, .int .i64 x.n, .int .i64 x.k, .int .i64 x.a, .int .i64 x.b]] w fun e w' => e = .returned (.bool false) ∧ Gr w w' := by
  have HM := hide hm
  clear hm
  go_enter Tryz.func23, Tryz.ntmps23
  go_wp2_with fail
  generalize hW : w.alloc _ = W
  obtain ⟨B, bx⟩ : Gr w W ∧ Box W w.heap.size #[.int .i64 x.u, .int .i64 x.n, .int .i64 x.k, .int .i64 x.a, .int .i64 x.b] 44 := by subst hW; exact ⟨(by ((repeat (first | (with_reducible assumption) | (with_reducible exact Gr.refl _) | (with_reducible refine Gr.drew ?_) | (with_reducible refine Gr.alloc ?_ _) | (with_reducible refine Gr.trans ?_ (by assumption)))); (first | done | fail))), Box.new _ _ _⟩
  clear hW
  refine (mark_any x _).mono ?_
  rintro e w1 ⟨rfl, hg⟩
  go_wp2_with fail
  refine (vm_any x.mk_ _ false HM.out).mono ?_
  rintro e w2 ⟨rfl, hg2⟩
  replace bx := bx.below' (hg.trans hg2).below
  have G := B.trans (hg.trans hg2)
  clear B hg hg2
  have lx := bx.lt
  have c0 := bx.at_ 0
  have c1 := bx.at_ 1
  have c2 := bx.at_ 2
  have c3 := bx.at_ 3
  have c4 := bx.at_ 4
  simp at c0 c1 c2 c3 c4
  clear bx
  go_wp2_with fail
  go_ret
  exact ⟨rfl, (by ((repeat (first | (with_reducible assumption) | (with_reducible exact Gr.refl _) | (with_reducible refine Gr.drew ?_) | (with_reducible refine Gr.alloc ?_ _) | (with_reducible refine Gr.trans ?_ (by assumption)))); (first | done | fail)))⟩
theorem valid_any (x : Dec) (w : World) (v : Bool) (hv : vD x = v) : Calls Tryz.prog 23 #[.agg #[.int .i64 x.u, .int .i64 x.n, .int .i64 x.k, .int .i64 x.a, .int .i64 x.b]] w fun e w' => e = .returned (.bool v) ∧ Gr w w' := by
  unfold vD at hv
  cases hm : vM x.mk_
  · rw [hm] at hv
    obtain rfl : v = false := hv.symm
    exact valid_m x w hm
  · rw [hm, Bool.true_and] at hv
    by_cases h1 : x.k = 1
    · exact valid_k1 x w hm h1 v hv
    by_cases h2 : x.k = 2
    · exact valid_k2 x w hm h2 v hv
    by_cases h3 : x.k = 3
    · exact valid_k3 x w hm h3 v hv
    by_cases h4 : x.k = 4
    · exact valid_k4 x w hm h4 v hv
    exact valid_k0 x w hm h1 h2 h3 h4 v hv

theorem vK_ne {d : Dec} (h : d.a = d.b) : vK d = false := by
  unfold vK
  split
  · exact decide_eq_false (by omega)
  · split
    · exact decide_eq_false (by omega)
    · split
      · exact decide_eq_false (by omega)
      · rfl

set_option maxHeartbeats 2000000 in
theorem bdec_k1 (x : Dec) (w : World) (hm : vM x.mk_ = true) (hk : x.k = 1) (hne : x.a ≠ x.b) (v : Bool) (hv : vK x = v) : Calls Tryz.prog 82 #[.agg #[.int .i64 x.u, .int .i64 x.n, .int .i64 x.k, .int .i64 x.a, .int .i64 x.b]] w fun e w' => e = .returned (.bool v) ∧ Gr w w' := by
  have HM := hide hm
  rw [vK_12 (.inl hk)] at hv
  obtain ⟨p, hp⟩ : ∃ p, dB x.a = p := ⟨_, rfl⟩
  obtain ⟨q, hq⟩ : ∃ q, dB x.b = q := ⟨_, rfl⟩
  rw [hp, hq] at hv
  have k1 : (x.k == 1) = true := by rw [hk]; rfl
  have k2 : (x.k == 2) = false := by rw [hk]; rfl
  have k3 : (x.k == 3) = false := by rw [hk]; rfl
  have k4 : (x.k == 4) = false := by rw [hk]; rfl
  have d5 : (x.a == x.b) = false := beq_eq_false_iff_ne.2 hne
  have HP := hide hp
  have HQ := hide hq
  clear hp hq hm hk
  by_cases h : x.a < x.b
  · have D : decide (x.a < x.b) = true := decide_eq_true h
    rw [D] at hv
    clear h hne
    cases p
    · have HV := hide (show false = v from by rw [← hv]; rfl)
      clear hv
      go_enter Tryz.func82, Tryz.ntmps82
      go_wp2_with fail
      generalize hW : w.alloc _ = W
      obtain ⟨B, bx⟩ : Gr w W ∧ Box W w.heap.size #[.int .i64 x.u, .int .i64 x.n, .int .i64 x.k, .int .i64 x.a, .int .i64 x.b] 44 := by subst hW; exact ⟨(by ((repeat (first | (with_reducible assumption) | (with_reducible exact Gr.refl _) | (with_reducible refine Gr.drew ?_) | (with_reducible refine Gr.alloc ?_ _) | (with_reducible refine Gr.trans ?_ (by assumption)))); (first | done | fail))), Box.new _ _ _⟩
      clear hW
      have lx := bx.lt
      have c0 := bx.at_ 0
      have c1 := bx.at_ 1
      simp at c0 c1
      go_wp2_with fail
      refine (bm_any x.mk_ _ true HM.out).mono ?_
      rintro e w2 ⟨rfl, hg2⟩
      replace bx := bx.below' hg2.below
      have G := B.trans hg2
      clear B hg2 lx c0 c1
      have lx := bx.lt
      have c0 := bx.at_ 0
      have c1 := bx.at_ 1
      have c2 := bx.at_ 2
      have c3 := bx.at_ 3
      have c4 := bx.at_ 4
      simp at c0 c1 c2 c3 c4
      clear bx
      go_wp2_with fail
      refine (num_any _ _ false HP.out).mono ?_
      rintro e w1 ⟨rfl, rfl⟩
      go_wp2_with fail
      go_ret
      exact ⟨by first | rfl | (rw [← HV.out]; rfl), (by ((repeat (first | (with_reducible assumption) | (with_reducible exact Gr.refl _) | (with_reducible refine Gr.drew ?_) | (with_reducible refine Gr.alloc ?_ _) | (with_reducible refine Gr.trans ?_ (by assumption)))); (first | done | fail)))⟩
    · cases q
      · have HV := hide (show false = v from by rw [← hv]; rfl)
        clear hv
        go_enter Tryz.func82, Tryz.ntmps82
        go_wp2_with fail
        generalize hW : w.alloc _ = W
        obtain ⟨B, bx⟩ : Gr w W ∧ Box W w.heap.size #[.int .i64 x.u, .int .i64 x.n, .int .i64 x.k, .int .i64 x.a, .int .i64 x.b] 44 := by subst hW; exact ⟨(by ((repeat (first | (with_reducible assumption) | (with_reducible exact Gr.refl _) | (with_reducible refine Gr.drew ?_) | (with_reducible refine Gr.alloc ?_ _) | (with_reducible refine Gr.trans ?_ (by assumption)))); (first | done | fail))), Box.new _ _ _⟩
        clear hW
        have lx := bx.lt
        have c0 := bx.at_ 0
        have c1 := bx.at_ 1
        simp at c0 c1
        go_wp2_with fail
        refine (bm_any x.mk_ _ true HM.out).mono ?_
        rintro e w2 ⟨rfl, hg2⟩
        replace bx := bx.below' hg2.below
        have G := B.trans hg2
        clear B hg2 lx c0 c1
        have lx := bx.lt
        have c0 := bx.at_ 0
        have c1 := bx.at_ 1
        have c2 := bx.at_ 2
        have c3 := bx.at_ 3
        have c4 := bx.at_ 4
        simp at c0 c1 c2 c3 c4
        clear bx
        go_wp2_with fail
        refine (num_any _ _ true HP.out).mono ?_
        rintro e w1 ⟨rfl, rfl⟩
        go_wp2_with fail
        refine (num_any _ _ false HQ.out).mono ?_
        rintro e w1 ⟨rfl, rfl⟩
        go_wp2_with fail
        go_ret
        exact ⟨by first | rfl | (rw [← HV.out]; rfl), (by ((repeat (first | (with_reducible assumption) | (with_reducible exact Gr.refl _) | (with_reducible refine Gr.drew ?_) | (with_reducible refine Gr.alloc ?_ _) | (with_reducible refine Gr.trans ?_ (by assumption)))); (first | done | fail)))⟩
      · have HV := hide (show true = v from by rw [← hv]; rfl)
        clear hv
        go_enter Tryz.func82, Tryz.ntmps82
        go_wp2_with fail
        generalize hW : w.alloc _ = W
        obtain ⟨B, bx⟩ : Gr w W ∧ Box W w.heap.size #[.int .i64 x.u, .int .i64 x.n, .int .i64 x.k, .int .i64 x.a, .int .i64 x.b] 44 := by subst hW; exact ⟨(by ((repeat (first | (with_reducible assumption) | (with_reducible exact Gr.refl _) | (with_reducible refine Gr.drew ?_) | (with_reducible refine Gr.alloc ?_ _) | (with_reducible refine Gr.trans ?_ (by assumption)))); (first | done | fail))), Box.new _ _ _⟩
        clear hW
        have lx := bx.lt
        have c0 := bx.at_ 0
        have c1 := bx.at_ 1
        simp at c0 c1
        go_wp2_with fail
        refine (bm_any x.mk_ _ true HM.out).mono ?_
        rintro e w2 ⟨rfl, hg2⟩
        replace bx := bx.below' hg2.below
        have G := B.trans hg2
        clear B hg2 lx c0 c1
        have lx := bx.lt
        have c0 := bx.at_ 0
        have c1 := bx.at_ 1
        have c2 := bx.at_ 2
        have c3 := bx.at_ 3
        have c4 := bx.at_ 4
        simp at c0 c1 c2 c3 c4
        clear bx
        go_wp2_with fail
        refine (num_any _ _ true HP.out).mono ?_
        rintro e w1 ⟨rfl, rfl⟩
        go_wp2_with fail
        refine (num_any _ _ true HQ.out).mono ?_
        rintro e w1 ⟨rfl, rfl⟩
        go_wp2_with fail
        go_ret
        exact ⟨by first | rfl | (rw [← HV.out]; rfl), (by ((repeat (first | (with_reducible assumption) | (with_reducible exact Gr.refl _) | (with_reducible refine Gr.drew ?_) | (with_reducible refine Gr.alloc ?_ _) | (with_reducible refine Gr.trans ?_ (by assumption)))); (first | done | fail)))⟩
  · have D : decide (x.a < x.b) = false := decide_eq_false h
    rw [D, Bool.and_false] at hv
    have HV := hide hv
    clear h hv hne
    go_enter Tryz.func82, Tryz.ntmps82
    go_wp2_with fail
    generalize hW : w.alloc _ = W
    obtain ⟨B, bx⟩ : Gr w W ∧ Box W w.heap.size #[.int .i64 x.u, .int .i64 x.n, .int .i64 x.k, .int .i64 x.a, .int .i64 x.b] 44 := by subst hW; exact ⟨(by ((repeat (first | (with_reducible assumption) | (with_reducible exact Gr.refl _) | (with_reducible refine Gr.drew ?_) | (with_reducible refine Gr.alloc ?_ _) | (with_reducible refine Gr.trans ?_ (by assumption)))); (first | done | fail))), Box.new _ _ _⟩
    clear hW
    have lx := bx.lt
    have c0 := bx.at_ 0
    have c1 := bx.at_ 1
    simp at c0 c1
    go_wp2_with fail
    refine (bm_any x.mk_ _ true HM.out).mono ?_
    rintro e w2 ⟨rfl, hg2⟩
    replace bx := bx.below' hg2.below
    have G := B.trans hg2
    clear B hg2 lx c0 c1
    have lx := bx.lt
    have c0 := bx.at_ 0
    have c1 := bx.at_ 1
    have c2 := bx.at_ 2
    have c3 := bx.at_ 3
    have c4 := bx.at_ 4
    simp at c0 c1 c2 c3 c4
    clear bx
    go_wp2_with fail
    go_ret
    exact ⟨by first | rfl | (rw [← HV.out]; rfl), (by ((repeat (first | (with_reducible assumption) | (with_reducible exact Gr.refl _) | (with_reducible refine Gr.drew ?_) | (with_reducible refine Gr.alloc ?_ _) | (with_reducible refine Gr.trans ?_ (by assumption)))); (first | done | fail)))⟩

set_option maxHeartbeats 2000000 in
theorem bdec_k2 (x : Dec) (w : World) (hm : vM x.mk_ = true) (hk : x.k = 2) (hne : x.a ≠ x.b) (v : Bool) (hv : vK x = v) : Calls Tryz.prog 82 #[.agg #[.int .i64 x.u, .int .i64 x.n, .int .i64 x.k, .int .i64 x.a, .int .i64 x.b]] w fun e w' => e = .returned (.bool v) ∧ Gr w w' := by
  have HM := hide hm
  rw [vK_12 (.inr hk)] at hv
  obtain ⟨p, hp⟩ : ∃ p, dB x.a = p := ⟨_, rfl⟩
  obtain ⟨q, hq⟩ : ∃ q, dB x.b = q := ⟨_, rfl⟩
  rw [hp, hq] at hv
  have k1 : (x.k == 1) = false := by rw [hk]; rfl
  have k2 : (x.k == 2) = true := by rw [hk]; rfl
  have k3 : (x.k == 3) = false := by rw [hk]; rfl
  have k4 : (x.k == 4) = false := by rw [hk]; rfl
  have d5 : (x.a == x.b) = false := beq_eq_false_iff_ne.2 hne
  have HP := hide hp
  have HQ := hide hq
  clear hp hq hm hk
  by_cases h : x.a < x.b
  · have D : decide (x.a < x.b) = true := decide_eq_true h
    rw [D] at hv
    clear h hne
    cases p
    · have HV := hide (show false = v from by rw [← hv]; rfl)
      clear hv
      go_enter Tryz.func82, Tryz.ntmps82
      go_wp2_with fail
      generalize hW : w.alloc _ = W
      obtain ⟨B, bx⟩ : Gr w W ∧ Box W w.heap.size #[.int .i64 x.u, .int .i64 x.n, .int .i64 x.k, .int .i64 x.a, .int .i64 x.b] 44 := by subst hW; exact ⟨(by ((repeat (first | (with_reducible assumption) | (with_reducible exact Gr.refl _) | (with_reducible refine Gr.drew ?_) | (with_reducible refine Gr.alloc ?_ _) | (with_reducible refine Gr.trans ?_ (by assumption)))); (first | done | fail))), Box.new _ _ _⟩
      clear hW
      have lx := bx.lt
      have c0 := bx.at_ 0
      have c1 := bx.at_ 1
      simp at c0 c1
      go_wp2_with fail
      refine (bm_any x.mk_ _ true HM.out).mono ?_
      rintro e w2 ⟨rfl, hg2⟩
      replace bx := bx.below' hg2.below
      have G := B.trans hg2
      clear B hg2 lx c0 c1
      have lx := bx.lt
      have c0 := bx.at_ 0
      have c1 := bx.at_ 1
      have c2 := bx.at_ 2
      have c3 := bx.at_ 3
      have c4 := bx.at_ 4
      simp at c0 c1 c2 c3 c4
      clear bx
      go_wp2_with fail
      refine (num_any _ _ false HP.out).mono ?_
      rintro e w1 ⟨rfl, rfl⟩
      go_wp2_with fail
      go_ret
      exact ⟨by first | rfl | (rw [← HV.out]; rfl), (by ((repeat (first | (with_reducible assumption) | (with_reducible exact Gr.refl _) | (with_reducible refine Gr.drew ?_) | (with_reducible refine Gr.alloc ?_ _) | (with_reducible refine Gr.trans ?_ (by assumption)))); (first | done | fail)))⟩
    · cases q
      · have HV := hide (show false = v from by rw [← hv]; rfl)
        clear hv
        go_enter Tryz.func82, Tryz.ntmps82
        go_wp2_with fail
        generalize hW : w.alloc _ = W
        obtain ⟨B, bx⟩ : Gr w W ∧ Box W w.heap.size #[.int .i64 x.u, .int .i64 x.n, .int .i64 x.k, .int .i64 x.a, .int .i64 x.b] 44 := by subst hW; exact ⟨(by ((repeat (first | (with_reducible assumption) | (with_reducible exact Gr.refl _) | (with_reducible refine Gr.drew ?_) | (with_reducible refine Gr.alloc ?_ _) | (with_reducible refine Gr.trans ?_ (by assumption)))); (first | done | fail))), Box.new _ _ _⟩
        clear hW
        have lx := bx.lt
        have c0 := bx.at_ 0
        have c1 := bx.at_ 1
        simp at c0 c1
        go_wp2_with fail
        refine (bm_any x.mk_ _ true HM.out).mono ?_
        rintro e w2 ⟨rfl, hg2⟩
        replace bx := bx.below' hg2.below
        have G := B.trans hg2
        clear B hg2 lx c0 c1
        have lx := bx.lt
        have c0 := bx.at_ 0
        have c1 := bx.at_ 1
        have c2 := bx.at_ 2
        have c3 := bx.at_ 3
        have c4 := bx.at_ 4
        simp at c0 c1 c2 c3 c4
        clear bx
        go_wp2_with fail
        refine (num_any _ _ true HP.out).mono ?_
        rintro e w1 ⟨rfl, rfl⟩
        go_wp2_with fail
        refine (num_any _ _ false HQ.out).mono ?_
        rintro e w1 ⟨rfl, rfl⟩
        go_wp2_with fail
        go_ret
        exact ⟨by first | rfl | (rw [← HV.out]; rfl), (by ((repeat (first | (with_reducible assumption) | (with_reducible exact Gr.refl _) | (with_reducible refine Gr.drew ?_) | (with_reducible refine Gr.alloc ?_ _) | (with_reducible refine Gr.trans ?_ (by assumption)))); (first | done | fail)))⟩
      · have HV := hide (show true = v from by rw [← hv]; rfl)
        clear hv
        go_enter Tryz.func82, Tryz.ntmps82
        go_wp2_with fail
        generalize hW : w.alloc _ = W
        obtain ⟨B, bx⟩ : Gr w W ∧ Box W w.heap.size #[.int .i64 x.u, .int .i64 x.n, .int .i64 x.k, .int .i64 x.a, .int .i64 x.b] 44 := by subst hW; exact ⟨(by ((repeat (first | (with_reducible assumption) | (with_reducible exact Gr.refl _) | (with_reducible refine Gr.drew ?_) | (with_reducible refine Gr.alloc ?_ _) | (with_reducible refine Gr.trans ?_ (by assumption)))); (first | done | fail))), Box.new _ _ _⟩
        clear hW
        have lx := bx.lt
        have c0 := bx.at_ 0
        have c1 := bx.at_ 1
        simp at c0 c1
        go_wp2_with fail
        refine (bm_any x.mk_ _ true HM.out).mono ?_
        rintro e w2 ⟨rfl, hg2⟩
        replace bx := bx.below' hg2.below
        have G := B.trans hg2
        clear B hg2 lx c0 c1
        have lx := bx.lt
        have c0 := bx.at_ 0
        have c1 := bx.at_ 1
        have c2 := bx.at_ 2
        have c3 := bx.at_ 3
        have c4 := bx.at_ 4
        simp at c0 c1 c2 c3 c4
        clear bx
        go_wp2_with fail
        refine (num_any _ _ true HP.out).mono ?_
        rintro e w1 ⟨rfl, rfl⟩
        go_wp2_with fail
        refine (num_any _ _ true HQ.out).mono ?_
        rintro e w1 ⟨rfl, rfl⟩
        go_wp2_with fail
        go_ret
        exact ⟨by first | rfl | (rw [← HV.out]; rfl), (by ((repeat (first | (with_reducible assumption) | (with_reducible exact Gr.refl _) | (with_reducible refine Gr.drew ?_) | (with_reducible refine Gr.alloc ?_ _) | (with_reducible refine Gr.trans ?_ (by assumption)))); (first | done | fail)))⟩
  · have D : decide (x.a < x.b) = false := decide_eq_false h
    rw [D, Bool.and_false] at hv
    have HV := hide hv
    clear h hv hne
    go_enter Tryz.func82, Tryz.ntmps82
    go_wp2_with fail
    generalize hW : w.alloc _ = W
    obtain ⟨B, bx⟩ : Gr w W ∧ Box W w.heap.size #[.int .i64 x.u, .int .i64 x.n, .int .i64 x.k, .int .i64 x.a, .int .i64 x.b] 44 := by subst hW; exact ⟨(by ((repeat (first | (with_reducible assumption) | (with_reducible exact Gr.refl _) | (with_reducible refine Gr.drew ?_) | (with_reducible refine Gr.alloc ?_ _) | (with_reducible refine Gr.trans ?_ (by assumption)))); (first | done | fail))), Box.new _ _ _⟩
    clear hW
    have lx := bx.lt
    have c0 := bx.at_ 0
    have c1 := bx.at_ 1
    simp at c0 c1
    go_wp2_with fail
    refine (bm_any x.mk_ _ true HM.out).mono ?_
    rintro e w2 ⟨rfl, hg2⟩
    replace bx := bx.below' hg2.below
    have G := B.trans hg2
    clear B hg2 lx c0 c1
    have lx := bx.lt
    have c0 := bx.at_ 0
    have c1 := bx.at_ 1
    have c2 := bx.at_ 2
    have c3 := bx.at_ 3
    have c4 := bx.at_ 4
    simp at c0 c1 c2 c3 c4
    clear bx
    go_wp2_with fail
    go_ret
    exact ⟨by first | rfl | (rw [← HV.out]; rfl), (by ((repeat (first | (with_reducible assumption) | (with_reducible exact Gr.refl _) | (with_reducible refine Gr.drew ?_) | (with_reducible refine Gr.alloc ?_ _) | (with_reducible refine Gr.trans ?_ (by assumption)))); (first | done | fail)))⟩

set_option maxHeartbeats 2000000 in
theorem bdec_k3 (x : Dec) (w : World) (hm : vM x.mk_ = true) (hk : x.k = 3) (hne : x.a ≠ x.b) (v : Bool) (hv : vK x = v) : Calls Tryz.prog 82 #[.agg #[.int .i64 x.u, .int .i64 x.n, .int .i64 x.k, .int .i64 x.a, .int .i64 x.b]] w fun e w' => e = .returned (.bool v) ∧ Gr w w' := by
  have HM := hide hm
  rw [vK_3 hk] at hv
  obtain ⟨p, hp⟩ : ∃ p, iB x.a = p := ⟨_, rfl⟩
  obtain ⟨q, hq⟩ : ∃ q, iB x.b = q := ⟨_, rfl⟩
  rw [hp, hq] at hv
  have k1 : (x.k == 1) = false := by rw [hk]; rfl
  have k2 : (x.k == 2) = false := by rw [hk]; rfl
  have k3 : (x.k == 3) = true := by rw [hk]; rfl
  have k4 : (x.k == 4) = false := by rw [hk]; rfl
  have d5 : (x.a == x.b) = false := beq_eq_false_iff_ne.2 hne
  have HP := hide hp
  have HQ := hide hq
  have D : decide (x.a ≠ x.b) = true := decide_eq_true hne
  rw [D] at hv
  clear hp hq hm hk hne D
  cases p
  · have HV := hide (show false = v from by rw [← hv]; rfl)
    clear hv
    go_enter Tryz.func82, Tryz.ntmps82
    go_wp2_with fail
    generalize hW : w.alloc _ = W
    obtain ⟨B, bx⟩ : Gr w W ∧ Box W w.heap.size #[.int .i64 x.u, .int .i64 x.n, .int .i64 x.k, .int .i64 x.a, .int .i64 x.b] 44 := by subst hW; exact ⟨(by ((repeat (first | (with_reducible assumption) | (with_reducible exact Gr.refl _) | (with_reducible refine Gr.drew ?_) | (with_reducible refine Gr.alloc ?_ _) | (with_reducible refine Gr.trans ?_ (by assumption)))); (first | done | fail))), Box.new _ _ _⟩
    clear hW
    have lx := bx.lt
    have c0 := bx.at_ 0
    have c1 := bx.at_ 1
    simp at c0 c1
    go_wp2_with fail
    refine (bm_any x.mk_ _ true HM.out).mono ?_
    rintro e w2 ⟨rfl, hg2⟩
    replace bx := bx.below' hg2.below
    have G := B.trans hg2
    clear B hg2 lx c0 c1
    have lx := bx.lt
    have c0 := bx.at_ 0
    have c1 := bx.at_ 1
    have c2 := bx.at_ 2
    have c3 := bx.at_ 3
    have c4 := bx.at_ 4
    simp at c0 c1 c2 c3 c4
    clear bx
    go_wp2_with fail
    refine (id_any _ _ false HP.out).mono ?_
    rintro e w1 ⟨rfl, rfl⟩
    go_wp2_with fail
    go_ret
    exact ⟨by first | rfl | (rw [← HV.out]; rfl), (by ((repeat (first | (with_reducible assumption) | (with_reducible exact Gr.refl _) | (with_reducible refine Gr.drew ?_) | (with_reducible refine Gr.alloc ?_ _) | (with_reducible refine Gr.trans ?_ (by assumption)))); (first | done | fail)))⟩
  · cases q
    · have HV := hide (show false = v from by rw [← hv]; rfl)
      clear hv
      go_enter Tryz.func82, Tryz.ntmps82
      go_wp2_with fail
      generalize hW : w.alloc _ = W
      obtain ⟨B, bx⟩ : Gr w W ∧ Box W w.heap.size #[.int .i64 x.u, .int .i64 x.n, .int .i64 x.k, .int .i64 x.a, .int .i64 x.b] 44 := by subst hW; exact ⟨(by ((repeat (first | (with_reducible assumption) | (with_reducible exact Gr.refl _) | (with_reducible refine Gr.drew ?_) | (with_reducible refine Gr.alloc ?_ _) | (with_reducible refine Gr.trans ?_ (by assumption)))); (first | done | fail))), Box.new _ _ _⟩
      clear hW
      have lx := bx.lt
      have c0 := bx.at_ 0
      have c1 := bx.at_ 1
      simp at c0 c1
      go_wp2_with fail
      refine (bm_any x.mk_ _ true HM.out).mono ?_
      rintro e w2 ⟨rfl, hg2⟩
      replace bx := bx.below' hg2.below
      have G := B.trans hg2
      clear B hg2 lx c0 c1
      have lx := bx.lt
      have c0 := bx.at_ 0
      have c1 := bx.at_ 1
      have c2 := bx.at_ 2
      have c3 := bx.at_ 3
      have c4 := bx.at_ 4
      simp at c0 c1 c2 c3 c4
      clear bx
      go_wp2_with fail
      refine (id_any _ _ true HP.out).mono ?_
      rintro e w1 ⟨rfl, rfl⟩
      go_wp2_with fail
      refine (id_any _ _ false HQ.out).mono ?_
      rintro e w1 ⟨rfl, rfl⟩
      go_wp2_with fail
      go_ret
      exact ⟨by first | rfl | (rw [← HV.out]; rfl), (by ((repeat (first | (with_reducible assumption) | (with_reducible exact Gr.refl _) | (with_reducible refine Gr.drew ?_) | (with_reducible refine Gr.alloc ?_ _) | (with_reducible refine Gr.trans ?_ (by assumption)))); (first | done | fail)))⟩
    · have HV := hide (show true = v from by rw [← hv]; rfl)
      clear hv
      go_enter Tryz.func82, Tryz.ntmps82
      go_wp2_with fail
      generalize hW : w.alloc _ = W
      obtain ⟨B, bx⟩ : Gr w W ∧ Box W w.heap.size #[.int .i64 x.u, .int .i64 x.n, .int .i64 x.k, .int .i64 x.a, .int .i64 x.b] 44 := by subst hW; exact ⟨(by ((repeat (first | (with_reducible assumption) | (with_reducible exact Gr.refl _) | (with_reducible refine Gr.drew ?_) | (with_reducible refine Gr.alloc ?_ _) | (with_reducible refine Gr.trans ?_ (by assumption)))); (first | done | fail))), Box.new _ _ _⟩
      clear hW
      have lx := bx.lt
      have c0 := bx.at_ 0
      have c1 := bx.at_ 1
      simp at c0 c1
      go_wp2_with fail
      refine (bm_any x.mk_ _ true HM.out).mono ?_
      rintro e w2 ⟨rfl, hg2⟩
      replace bx := bx.below' hg2.below
      have G := B.trans hg2
      clear B hg2 lx c0 c1
      have lx := bx.lt
      have c0 := bx.at_ 0
      have c1 := bx.at_ 1
      have c2 := bx.at_ 2
      have c3 := bx.at_ 3
      have c4 := bx.at_ 4
      simp at c0 c1 c2 c3 c4
      clear bx
      go_wp2_with fail
      refine (id_any _ _ true HP.out).mono ?_
      rintro e w1 ⟨rfl, rfl⟩
      go_wp2_with fail
      refine (id_any _ _ true HQ.out).mono ?_
      rintro e w1 ⟨rfl, rfl⟩
      go_wp2_with fail
      go_ret
      exact ⟨by first | rfl | (rw [← HV.out]; rfl), (by ((repeat (first | (with_reducible assumption) | (with_reducible exact Gr.refl _) | (with_reducible refine Gr.drew ?_) | (with_reducible refine Gr.alloc ?_ _) | (with_reducible refine Gr.trans ?_ (by assumption)))); (first | done | fail)))⟩

set_option maxHeartbeats 2000000 in
theorem bdec_k4 (x : Dec) (w : World) (hm : vM x.mk_ = true) (hk : x.k = 4) (hne : x.a ≠ x.b) (v : Bool) (hv : vK x = v) : Calls Tryz.prog 82 #[.agg #[.int .i64 x.u, .int .i64 x.n, .int .i64 x.k, .int .i64 x.a, .int .i64 x.b]] w fun e w' => e = .returned (.bool v) ∧ Gr w w' := by
  have HM := hide hm
  rw [vK_4 hk] at hv
  obtain ⟨p, hp⟩ : ∃ p, iB x.a = p := ⟨_, rfl⟩
  obtain ⟨q, hq⟩ : ∃ q, iB x.b = q := ⟨_, rfl⟩
  rw [hp, hq] at hv
  have k1 : (x.k == 1) = false := by rw [hk]; rfl
  have k2 : (x.k == 2) = false := by rw [hk]; rfl
  have k3 : (x.k == 3) = false := by rw [hk]; rfl
  have k4 : (x.k == 4) = true := by rw [hk]; rfl
  have d5 : (x.a == x.b) = false := beq_eq_false_iff_ne.2 hne
  have HP := hide hp
  have HQ := hide hq
  clear hp hq hm hk
  by_cases h : x.a < x.b
  · have D : decide (x.a < x.b) = true := decide_eq_true h
    rw [D] at hv
    clear h hne
    cases p
    · have HV := hide (show false = v from by rw [← hv]; rfl)
      clear hv
      go_enter Tryz.func82, Tryz.ntmps82
      go_wp2_with fail
      generalize hW : w.alloc _ = W
      obtain ⟨B, bx⟩ : Gr w W ∧ Box W w.heap.size #[.int .i64 x.u, .int .i64 x.n, .int .i64 x.k, .int .i64 x.a, .int .i64 x.b] 44 := by subst hW; exact ⟨(by ((repeat (first | (with_reducible assumption) | (with_reducible exact Gr.refl _) | (with_reducible refine Gr.drew ?_) | (with_reducible refine Gr.alloc ?_ _) | (with_reducible refine Gr.trans ?_ (by assumption)))); (first | done | fail))), Box.new _ _ _⟩
      clear hW
      have lx := bx.lt
      have c0 := bx.at_ 0
      have c1 := bx.at_ 1
      simp at c0 c1
      go_wp2_with fail
      refine (bm_any x.mk_ _ true HM.out).mono ?_
      rintro e w2 ⟨rfl, hg2⟩
      replace bx := bx.below' hg2.below
      have G := B.trans hg2
      clear B hg2 lx c0 c1
      have lx := bx.lt
      have c0 := bx.at_ 0
      have c1 := bx.at_ 1
      have c2 := bx.at_ 2
      have c3 := bx.at_ 3
      have c4 := bx.at_ 4
      simp at c0 c1 c2 c3 c4
      clear bx
      go_wp2_with fail
      refine (id_any _ _ false HP.out).mono ?_
      rintro e w1 ⟨rfl, rfl⟩
      go_wp2_with fail
      go_ret
      exact ⟨by first | rfl | (rw [← HV.out]; rfl), (by ((repeat (first | (with_reducible assumption) | (with_reducible exact Gr.refl _) | (with_reducible refine Gr.drew ?_) | (with_reducible refine Gr.alloc ?_ _) | (with_reducible refine Gr.trans ?_ (by assumption)))); (first | done | fail)))⟩
    · cases q
      · have HV := hide (show false = v from by rw [← hv]; rfl)
        clear hv
        go_enter Tryz.func82, Tryz.ntmps82
        go_wp2_with fail
        generalize hW : w.alloc _ = W
        obtain ⟨B, bx⟩ : Gr w W ∧ Box W w.heap.size #[.int .i64 x.u, .int .i64 x.n, .int .i64 x.k, .int .i64 x.a, .int .i64 x.b] 44 := by subst hW; exact ⟨(by ((repeat (first | (with_reducible assumption) | (with_reducible exact Gr.refl _) | (with_reducible refine Gr.drew ?_) | (with_reducible refine Gr.alloc ?_ _) | (with_reducible refine Gr.trans ?_ (by assumption)))); (first | done | fail))), Box.new _ _ _⟩
        clear hW
        have lx := bx.lt
        have c0 := bx.at_ 0
        have c1 := bx.at_ 1
        simp at c0 c1
        go_wp2_with fail
        refine (bm_any x.mk_ _ true HM.out).mono ?_
        rintro e w2 ⟨rfl, hg2⟩
        replace bx := bx.below' hg2.below
        have G := B.trans hg2
        clear B hg2 lx c0 c1
        have lx := bx.lt
        have c0 := bx.at_ 0
        have c1 := bx.at_ 1
        have c2 := bx.at_ 2
        have c3 := bx.at_ 3
        have c4 := bx.at_ 4
        simp at c0 c1 c2 c3 c4
        clear bx
        go_wp2_with fail
        refine (id_any _ _ true HP.out).mono ?_
        rintro e w1 ⟨rfl, rfl⟩
        go_wp2_with fail
        refine (id_any _ _ false HQ.out).mono ?_
        rintro e w1 ⟨rfl, rfl⟩
        go_wp2_with fail
        go_ret
        exact ⟨by first | rfl | (rw [← HV.out]; rfl), (by ((repeat (first | (with_reducible assumption) | (with_reducible exact Gr.refl _) | (with_reducible refine Gr.drew ?_) | (with_reducible refine Gr.alloc ?_ _) | (with_reducible refine Gr.trans ?_ (by assumption)))); (first | done | fail)))⟩
      · have HV := hide (show true = v from by rw [← hv]; rfl)
        clear hv
        go_enter Tryz.func82, Tryz.ntmps82
        go_wp2_with fail
        generalize hW : w.alloc _ = W
        obtain ⟨B, bx⟩ : Gr w W ∧ Box W w.heap.size #[.int .i64 x.u, .int .i64 x.n, .int .i64 x.k, .int .i64 x.a, .int .i64 x.b] 44 := by subst hW; exact ⟨(by ((repeat (first | (with_reducible assumption) | (with_reducible exact Gr.refl _) | (with_reducible refine Gr.drew ?_) | (with_reducible refine Gr.alloc ?_ _) | (with_reducible refine Gr.trans ?_ (by assumption)))); (first | done | fail))), Box.new _ _ _⟩
        clear hW
        have lx := bx.lt
        have c0 := bx.at_ 0
        have c1 := bx.at_ 1
        simp at c0 c1
        go_wp2_with fail
        refine (bm_any x.mk_ _ true HM.out).mono ?_
        rintro e w2 ⟨rfl, hg2⟩
        replace bx := bx.below' hg2.below
        have G := B.trans hg2
        clear B hg2 lx c0 c1
        have lx := bx.lt
        have c0 := bx.at_ 0
        have c1 := bx.at_ 1
        have c2 := bx.at_ 2
        have c3 := bx.at_ 3
        have c4 := bx.at_ 4
        simp at c0 c1 c2 c3 c4
        clear bx
        go_wp2_with fail
        refine (id_any _ _ true HP.out).mono ?_
        rintro e w1 ⟨rfl, rfl⟩
        go_wp2_with fail
        refine (id_any _ _ true HQ.out).mono ?_
        rintro e w1 ⟨rfl, rfl⟩
        go_wp2_with fail
        go_ret
        exact ⟨by first | rfl | (rw [← HV.out]; rfl), (by ((repeat (first | (with_reducible assumption) | (with_reducible exact Gr.refl _) | (with_reducible refine Gr.drew ?_) | (with_reducible refine Gr.alloc ?_ _) | (with_reducible refine Gr.trans ?_ (by assumption)))); (first | done | fail)))⟩
  · have D : decide (x.a < x.b) = false := decide_eq_false h
    rw [D, Bool.and_false] at hv
    have HV := hide hv
    clear h hv hne
    go_enter Tryz.func82, Tryz.ntmps82
    go_wp2_with fail
    generalize hW : w.alloc _ = W
    obtain ⟨B, bx⟩ : Gr w W ∧ Box W w.heap.size #[.int .i64 x.u, .int .i64 x.n, .int .i64 x.k, .int .i64 x.a, .int .i64 x.b] 44 := by subst hW; exact ⟨(by ((repeat (first | (with_reducible assumption) | (with_reducible exact Gr.refl _) | (with_reducible refine Gr.drew ?_) | (with_reducible refine Gr.alloc ?_ _) | (with_reducible refine Gr.trans ?_ (by assumption)))); (first | done | fail))), Box.new _ _ _⟩
    clear hW
    have lx := bx.lt
    have c0 := bx.at_ 0
    have c1 := bx.at_ 1
    simp at c0 c1
    go_wp2_with fail
    refine (bm_any x.mk_ _ true HM.out).mono ?_
    rintro e w2 ⟨rfl, hg2⟩
    replace bx := bx.below' hg2.below
    have G := B.trans hg2
    clear B hg2 lx c0 c1
    have lx := bx.lt
    have c0 := bx.at_ 0
    have c1 := bx.at_ 1
    have c2 := bx.at_ 2
    have c3 := bx.at_ 3
    have c4 := bx.at_ 4
    simp at c0 c1 c2 c3 c4
    clear bx
    go_wp2_with fail
    go_ret
    exact ⟨by first | rfl | (rw [← HV.out]; rfl), (by ((repeat (first | (with_reducible assumption) | (with_reducible exact Gr.refl _) | (with_reducible refine Gr.drew ?_) | (with_reducible refine Gr.alloc ?_ _) | (with_reducible refine Gr.trans ?_ (by assumption)))); (first | done | fail)))⟩

set_option maxHeartbeats 2000000 in
theorem bdec_k0 (x : Dec) (w : World) (hm : vM x.mk_ = true) (g1 : x.k ≠ 1) (g2 : x.k ≠ 2) (g3 : x.k ≠ 3) (g4 : x.k ≠ 4) (hne : x.a ≠ x.b) (v : Bool) (hv : vK x = v) : Calls Tryz.prog 82 #[.agg #[.int .i64 x.u, .int .i64 x.n, .int .i64 x.k, .int .i64 x.a, .int .i64 x.b]] w fun e w' => e = .returned (.bool v) ∧ Gr w w' := by
  have HM := hide hm
  have k1 : (x.k == 1) = false := beq_eq_false_iff_ne.2 g1
  have k2 : (x.k == 2) = false := beq_eq_false_iff_ne.2 g2
  have k3 : (x.k == 3) = false := beq_eq_false_iff_ne.2 g3
  have k4 : (x.k == 4) = false := beq_eq_false_iff_ne.2 g4
  have d5 : (x.a == x.b) = false := beq_eq_false_iff_ne.2 hne
  have HV := hide (show false = v from by rw [← hv, vK_0 g1 g2 g3 g4])
  clear hv hm g1 g2 g3 g4 hne
  go_enter Tryz.func82, Tryz.ntmps82
  go_wp2_with fail
  generalize hW : w.alloc _ = W
  obtain ⟨B, bx⟩ : Gr w W ∧ Box W w.heap.size #[.int .i64 x.u, .int .i64 x.n, .int .i64 x.k, .int .i64 x.a, .int .i64 x.b] 44 := by subst hW; exact ⟨(by ((repeat (first | (with_reducible assumption) | (with_reducible exact Gr.refl _) | (with_reducible refine Gr.drew ?_) | (with_reducible refine Gr.alloc ?_ _) | (with_reducible refine Gr.trans ?_ (by assumption)))); (first | done | fail))), Box.new _ _ _⟩
  clear hW
  have lx := bx.lt
  have c0 := bx.at_ 0
  have c1 := bx.at_ 1
  simp at c0 c1
  go_wp2_with fail
  refine (bm_any x.mk_ _ true HM.out).mono ?_
  rintro e w2 ⟨rfl, hg2⟩
  replace bx := bx.below' hg2.below
  have G := B.trans hg2
  clear B hg2 lx c0 c1
  have lx := bx.lt
  have c0 := bx.at_ 0
  have c1 := bx.at_ 1
  have c2 := bx.at_ 2
  have c3 := bx.at_ 3
  have c4 := bx.at_ 4
  simp at c0 c1 c2 c3 c4
  clear bx
  go_wp2_with fail
  go_ret
  exact ⟨by first | rfl | (rw [← HV.out]; rfl), (by ((repeat (first | (with_reducible assumption) | (with_reducible exact Gr.refl _) | (with_reducible refine Gr.drew ?_) | (with_reducible refine Gr.alloc ?_ _) | (with_reducible refine Gr.trans ?_ (by assumption)))); (first | done | fail)))⟩

set_option maxHeartbeats 2000000 in
theorem bdec_m (x : Dec) (w : World) (hm : vM x.mk_ = false) : Calls Tryz.prog 82 #[.agg #[.int .i64 x.u, .int .i64 x.n, .int .i64 x.k, .int .i64 x.a, .int .i64 x.b]] w fun e w' => e = .returned (.bool false) ∧ Gr w w' := by
  have HM := hide hm
  clear hm
  go_enter Tryz.func82, Tryz.ntmps82
  go_wp2_with fail
  generalize hW : w.alloc _ = W
  obtain ⟨B, bx⟩ : Gr w W ∧ Box W w.heap.size #[.int .i64 x.u, .int .i64 x.n, .int .i64 x.k, .int .i64 x.a, .int .i64 x.b] 44 := by subst hW; exact ⟨(by ((repeat (first | (with_reducible assumption) | (with_reducible exact Gr.refl _) | (with_reducible refine Gr.drew ?_) | (with_reducible refine Gr.alloc ?_ _) | (with_reducible refine Gr.trans ?_ (by assumption)))); (first | done | fail))), Box.new _ _ _⟩
  clear hW
  have lx := bx.lt
  have c0 := bx.at_ 0
  have c1 := bx.at_ 1
  simp at c0 c1
  go_wp2_with fail
  refine (bm_any x.mk_ _ false HM.out).mono ?_
  rintro e w2 ⟨rfl, hg2⟩
  replace bx := bx.below' hg2.below
  have G := B.trans hg2
  clear B hg2 lx c0 c1
  have lx := bx.lt
  have c0 := bx.at_ 0
  have c1 := bx.at_ 1
  have c2 := bx.at_ 2
  have c3 := bx.at_ 3
  have c4 := bx.at_ 4
  simp at c0 c1 c2 c3 c4
  clear bx
  go_wp2_with fail
  go_ret
  exact ⟨rfl, (by ((repeat (first | (with_reducible assumption) | (with_reducible exact Gr.refl _) | (with_reducible refine Gr.drew ?_) | (with_reducible refine Gr.alloc ?_ _) | (with_reducible refine Gr.trans ?_ (by assumption)))); (first | done | fail)))⟩
set_option maxHeartbeats 2000000 in
theorem bdec_e (u n k a : Int) (w : World) (hm : vM ⟨u, n⟩ = true) : Calls Tryz.prog 82 #[.agg #[.int .i64 u, .int .i64 n, .int .i64 k, .int .i64 a, .int .i64 a]] w fun e w' => e = .returned (.bool false) ∧ Gr w w' := by
  have HM := hide hm
  clear hm
  go_enter Tryz.func82, Tryz.ntmps82
  go_wp2_with fail
  generalize hW : w.alloc _ = W
  obtain ⟨B, bx⟩ : Gr w W ∧ Box W w.heap.size #[.int .i64 u, .int .i64 n, .int .i64 k, .int .i64 a, .int .i64 a] 44 := by subst hW; exact ⟨(by ((repeat (first | (with_reducible assumption) | (with_reducible exact Gr.refl _) | (with_reducible refine Gr.drew ?_) | (with_reducible refine Gr.alloc ?_ _) | (with_reducible refine Gr.trans ?_ (by assumption)))); (first | done | fail))), Box.new _ _ _⟩
  clear hW
  have lx := bx.lt
  have c0 := bx.at_ 0
  have c1 := bx.at_ 1
  simp at c0 c1
  go_wp2_with fail
  refine (bm_any ⟨u, n⟩ _ true HM.out).mono ?_
  rintro e w2 ⟨rfl, hg2⟩
  replace bx := bx.below' hg2.below
  have G := B.trans hg2
  clear B hg2 lx c0 c1
  have lx := bx.lt
  have c0 := bx.at_ 0
  have c1 := bx.at_ 1
  have c2 := bx.at_ 2
  have c3 := bx.at_ 3
  have c4 := bx.at_ 4
  simp at c0 c1 c2 c3 c4
  clear bx
  go_wp2_with fail
  go_ret
  exact ⟨rfl, (by ((repeat (first | (with_reducible assumption) | (with_reducible exact Gr.refl _) | (with_reducible refine Gr.drew ?_) | (with_reducible refine Gr.alloc ?_ _) | (with_reducible refine Gr.trans ?_ (by assumption)))); (first | done | fail)))⟩
theorem bdec_any (x : Dec) (w : World) (v : Bool) (hv : vD x = v) : Calls Tryz.prog 82 #[.agg #[.int .i64 x.u, .int .i64 x.n, .int .i64 x.k, .int .i64 x.a, .int .i64 x.b]] w fun e w' => e = .returned (.bool v) ∧ Gr w w' := by
  unfold vD at hv
  cases hm : vM x.mk_
  · rw [hm] at hv
    obtain rfl : v = false := hv.symm
    exact bdec_m x w hm
  · rw [hm, Bool.true_and] at hv
    by_cases h : x.a = x.b
    · obtain rfl : v = false := by rw [← hv, vK_ne h]
      cases x
      simp only at h
      subst h
      exact bdec_e _ _ _ _ w hm
    by_cases h1 : x.k = 1
    · exact bdec_k1 x w hm h1 h v hv
    by_cases h2 : x.k = 2
    · exact bdec_k2 x w hm h2 h v hv
    by_cases h3 : x.k = 3
    · exact bdec_k3 x w hm h3 h v hv
    by_cases h4 : x.k = 4
    · exact bdec_k4 x w hm h4 h v hv
    exact bdec_k0 x w hm h1 h2 h3 h4 h v hv
theorem rvalid_any (x : Dec) (w : World) (v : Bool) (hv : vD x = v) : Calls Tryz.prog 71 #[.agg #[.int .i64 x.u, .int .i64 x.n, .int .i64 x.k, .int .i64 x.a, .int .i64 x.b]] w fun e w' => e = .returned (.bool v) ∧ Gr w w' := by
  have HV := hide hv
  clear hv
  go_enter Tryz.func71, Tryz.ntmps71
  go_wp2_with fail
  refine (bdec_any x _ v HV.out).mono ?_
  rintro e w1 ⟨rfl, hg⟩
  go_wp2_with fail
  go_ret
  exact ⟨rfl, (by ((repeat (first | (with_reducible assumption) | (with_reducible exact Gr.refl _) | (with_reducible refine Gr.drew ?_) | (with_reducible refine Gr.alloc ?_ _) | (with_reducible refine Gr.trans ?_ (by assumption)))); (first | done | fail)))⟩
end Go.Proofs.YtalbdclcappjpaaGreat
