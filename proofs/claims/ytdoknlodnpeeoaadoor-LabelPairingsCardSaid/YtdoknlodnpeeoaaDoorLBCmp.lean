/- The bodies of LabelCompares, LabelDifferent, LabelTexts, LabelParses. -/
import Derived.Test.YtdoknlodnpeeoaaDoorLAwk
namespace Go.Proofs.YtdoknlodnpeeoaaDoor
open Go Go.RowKit Go.Lib

theorem boxT3 {w W : World} {c0 c1 c2 : Array Value} {t0 t1 t2 : TypeId} (hW : ((w.alloc (.cells c0 t0)).alloc (.cells c1 t1)).alloc (.cells c2 t2) = W) :
    Below w.heap.size w W ∧ Box W w.heap.size c0 t0 ∧ Box W (w.heap.size + 1) c1 t1 ∧ Box W (w.heap.size + 1 + 1) c2 t2 := by
  subst hW
  refine ⟨(((Below.refl _ _).alloc (Nat.le_refl _) _).alloc (by simp) _).alloc (by simp; omega) _, ((Box.new _ _ _).alloc _).alloc _, ?_, ?_⟩
  · have h := (Box.new (w.alloc (.cells c0 t0)) c1 t1).alloc (.cells c2 t2)
    simpa using h
  · have h := Box.new ((w.alloc (.cells c0 t0)).alloc (.cells c1 t1)) c2 t2
    simpa using h
theorem cI_neg (a b : Int) : cI b a = -cI a b := by unfold cI; split <;> split <;> (try split) <;> omega
theorem cI_rng (a b : Int) : cI a b = -1 ∨ cI a b = 0 ∨ cI a b = 1 := by unfold cI; split <;> (try split) <;> omega
theorem cL_rng (a b c a' b' c' : Int) : cL a b c a' b' c' = -1 ∨ cL a b c a' b' c' = 0 ∨ cL a b c a' b' c' = 1 := by
  unfold cL; split
  · exact cI_rng _ _
  · split <;> exact cI_rng _ _
theorem cL_neg (a b c a' b' c' : Int) : cL a' b' c' a b c = -cL a b c a' b' c' := by
  unfold cL
  rw [cI_neg a a', cI_neg b b', cI_neg c c']
  by_cases h1 : cI a a' = 0
  · by_cases h2 : cI b b' = 0
    · simp [h1, h2]
    · rw [if_neg (by omega), if_pos (by omega), if_neg (by omega), if_pos (by omega)]
  · rw [if_pos (by omega), if_pos (by omega)]
theorem cL_zero (a b c a' b' c' : Int) : cL a b c a' b' c' = 0 ↔ a = a' ∧ b = b' ∧ c = c' := by
  unfold cL
  by_cases h1 : cI a a' = 0
  · rw [if_neg (by omega)]
    by_cases h2 : cI b b' = 0
    · rw [if_neg (by omega)]
      rw [cI_zero] at h1 h2
      rw [cI_zero]
      exact ⟨fun h => ⟨h1, h2, h⟩, fun h => h.2.2⟩
    · rw [if_pos h2]
      refine ⟨fun h => absurd h h2, fun h => ?_⟩
      exact absurd (cI_zero.2 h.2.1) h2
  · rw [if_pos h1]
    refine ⟨fun h => absurd h h1, fun h => ?_⟩
    exact absurd (cI_zero.2 h.1) h1
theorem cI_le (a b : Int) : cI a b ≤ 0 ↔ a ≤ b := by unfold cI; split <;> (try split) <;> omega
theorem cL_le (a b c a' b' c' : Int) : cL a b c a' b' c' ≤ 0 ↔ a < a' ∨ (a = a' ∧ (b < b' ∨ (b = b' ∧ c ≤ c'))) := by
  unfold cL
  by_cases h1 : cI a a' = 0
  · rw [if_neg (by omega)]
    have h1' := cI_zero.1 h1
    by_cases h2 : cI b b' = 0
    · rw [if_neg (by omega), cI_le]
      have h2' := cI_zero.1 h2
      omega
    · rw [if_pos h2, cI_le]
      have h2' : b ≠ b' := fun h => h2 (cI_zero.2 h)
      omega
  · rw [if_pos h1, cI_le]
    have h1' : a ≠ a' := fun h => h1 (cI_zero.2 h)
    omega
theorem cL_trans {a b c a' b' c' x y z : Int} (h1 : cL a b c a' b' c' ≤ 0) (h2 : cL a' b' c' x y z ≤ 0) : cL a b c x y z ≤ 0 := by
  rw [cL_le] at *; omega
set_option maxRecDepth 100000 in
set_option maxHeartbeats 16000000 in
theorem cmp_lt (a b c a' b' c' x y z : Int) (w : World) (hT : Lw w) (h : cL a b c a' b' c' = -1) :
    Calls Tryd.prog 5 #[.agg #[.int .i64 a, .int .i64 b, .int .i64 c], .agg #[.int .i64 a', .int .i64 b', .int .i64 c'], .agg #[.int .i64 x, .int .i64 y, .int .i64 z]] w fun e w' => e = .returned (.bool true) ∧ Below w.heap.size w w' := by
  have HT := hide hT
  have H1 := hide h
  have H2 := hide (show cL a' b' c' a b c = 1 from by have := cL_neg a b c a' b' c'; omega)
  have hne : ¬(a = a' ∧ b = b' ∧ c = c') := fun hc => by have := (cL_zero a b c a' b' c').2 hc; omega
  obtain ⟨p, hp⟩ : ∃ p, cL a' b' c' x y z = p := ⟨_, rfl⟩
  obtain ⟨q, hq⟩ : ∃ q, cL a b c x y z = q := ⟨_, rfl⟩
  have HTR := hide (show cL a b c a' b' c' ≤ 0 → p ≤ 0 → q ≤ 0 from fun h1 h2 => by rw [← hq]; exact cL_trans h1 (by rw [hp]; exact h2))
  have HP := hide hp
  have HQ := hide hq
  clear h hp hq
  clear hT
  go_enter Tryd.func5, Tryd.ntmps5
  go_wp2_with fail
  generalize hW : ((w.alloc _).alloc _).alloc _ = W0
  obtain ⟨B, ba, bb, bc⟩ := boxT3 hW
  clear hW
  have lba := ba.lt
  have zba0 : W0.cell? ⟨w.heap.size, 0, none⟩ = some (.int .i64 a) := ba.at_ 0
  have zba1 : W0.cell? ⟨w.heap.size, 1, none⟩ = some (.int .i64 b) := ba.at_ 1
  have zba2 : W0.cell? ⟨w.heap.size, 2, none⟩ = some (.int .i64 c) := ba.at_ 2
  have lbb := bb.lt
  have zbb0 : W0.cell? ⟨w.heap.size + 1, 0, none⟩ = some (.int .i64 a') := bb.at_ 0
  have zbb1 : W0.cell? ⟨w.heap.size + 1, 1, none⟩ = some (.int .i64 b') := bb.at_ 1
  have zbb2 : W0.cell? ⟨w.heap.size + 1, 2, none⟩ = some (.int .i64 c') := bb.at_ 2
  have lbc := bc.lt
  have zbc0 : W0.cell? ⟨w.heap.size + 1 + 1, 0, none⟩ = some (.int .i64 x) := bc.at_ 0
  have zbc1 : W0.cell? ⟨w.heap.size + 1 + 1, 1, none⟩ = some (.int .i64 y) := bc.at_ 1
  have zbc2 : W0.cell? ⟨w.heap.size + 1 + 1, 2, none⟩ = some (.int .i64 z) := bc.at_ 2
  go_wp2_with fail
  refine (awake_yes _ (HT.out.below B)).mono ?_
  rintro e w1 ⟨rfl, hb⟩
  clear zba0 zba1 zba2 zbb0 zbb1 zbb2 zbc0 zbc1 zbc2
  replace B := B.trans (hb.mono B.size)
  replace ba := ba.below' hb
  replace bb := bb.below' hb
  replace bc := bc.below' hb
  clear hb
  have lba := ba.lt
  have zba0 : w1.cell? ⟨w.heap.size, 0, none⟩ = some (.int .i64 a) := ba.at_ 0
  have zba1 : w1.cell? ⟨w.heap.size, 1, none⟩ = some (.int .i64 b) := ba.at_ 1
  have zba2 : w1.cell? ⟨w.heap.size, 2, none⟩ = some (.int .i64 c) := ba.at_ 2
  have lbb := bb.lt
  have zbb0 : w1.cell? ⟨w.heap.size + 1, 0, none⟩ = some (.int .i64 a') := bb.at_ 0
  have zbb1 : w1.cell? ⟨w.heap.size + 1, 1, none⟩ = some (.int .i64 b') := bb.at_ 1
  have zbb2 : w1.cell? ⟨w.heap.size + 1, 2, none⟩ = some (.int .i64 c') := bb.at_ 2
  have lbc := bc.lt
  have zbc0 : w1.cell? ⟨w.heap.size + 1 + 1, 0, none⟩ = some (.int .i64 x) := bc.at_ 0
  have zbc1 : w1.cell? ⟨w.heap.size + 1 + 1, 1, none⟩ = some (.int .i64 y) := bc.at_ 1
  have zbc2 : w1.cell? ⟨w.heap.size + 1 + 1, 2, none⟩ = some (.int .i64 z) := bc.at_ 2
  go_wp2_with fail
  refine (compare_any a b c a' b' c' _ _ H1.out).mono ?_
  rintro e w2 ⟨rfl, hb⟩
  clear zba0 zba1 zba2 zbb0 zbb1 zbb2 zbc0 zbc1 zbc2
  replace B := B.trans (hb.mono B.size)
  replace ba := ba.below' hb
  replace bb := bb.below' hb
  replace bc := bc.below' hb
  clear hb
  have lba := ba.lt
  have zba0 : w2.cell? ⟨w.heap.size, 0, none⟩ = some (.int .i64 a) := ba.at_ 0
  have zba1 : w2.cell? ⟨w.heap.size, 1, none⟩ = some (.int .i64 b) := ba.at_ 1
  have zba2 : w2.cell? ⟨w.heap.size, 2, none⟩ = some (.int .i64 c) := ba.at_ 2
  have lbb := bb.lt
  have zbb0 : w2.cell? ⟨w.heap.size + 1, 0, none⟩ = some (.int .i64 a') := bb.at_ 0
  have zbb1 : w2.cell? ⟨w.heap.size + 1, 1, none⟩ = some (.int .i64 b') := bb.at_ 1
  have zbb2 : w2.cell? ⟨w.heap.size + 1, 2, none⟩ = some (.int .i64 c') := bb.at_ 2
  have lbc := bc.lt
  have zbc0 : w2.cell? ⟨w.heap.size + 1 + 1, 0, none⟩ = some (.int .i64 x) := bc.at_ 0
  have zbc1 : w2.cell? ⟨w.heap.size + 1 + 1, 1, none⟩ = some (.int .i64 y) := bc.at_ 1
  have zbc2 : w2.cell? ⟨w.heap.size + 1 + 1, 2, none⟩ = some (.int .i64 z) := bc.at_ 2
  go_wp2_with fail
  refine (rcomp_any a b c a' b' c' _ _ H1.out).mono ?_
  rintro e w3 ⟨rfl, hb⟩
  clear zba0 zba1 zba2 zbb0 zbb1 zbb2 zbc0 zbc1 zbc2
  replace B := B.trans (hb.mono B.size)
  replace ba := ba.below' hb
  replace bb := bb.below' hb
  replace bc := bc.below' hb
  clear hb
  have lba := ba.lt
  have zba0 : w3.cell? ⟨w.heap.size, 0, none⟩ = some (.int .i64 a) := ba.at_ 0
  have zba1 : w3.cell? ⟨w.heap.size, 1, none⟩ = some (.int .i64 b) := ba.at_ 1
  have zba2 : w3.cell? ⟨w.heap.size, 2, none⟩ = some (.int .i64 c) := ba.at_ 2
  have lbb := bb.lt
  have zbb0 : w3.cell? ⟨w.heap.size + 1, 0, none⟩ = some (.int .i64 a') := bb.at_ 0
  have zbb1 : w3.cell? ⟨w.heap.size + 1, 1, none⟩ = some (.int .i64 b') := bb.at_ 1
  have zbb2 : w3.cell? ⟨w.heap.size + 1, 2, none⟩ = some (.int .i64 c') := bb.at_ 2
  have lbc := bc.lt
  have zbc0 : w3.cell? ⟨w.heap.size + 1 + 1, 0, none⟩ = some (.int .i64 x) := bc.at_ 0
  have zbc1 : w3.cell? ⟨w.heap.size + 1 + 1, 1, none⟩ = some (.int .i64 y) := bc.at_ 1
  have zbc2 : w3.cell? ⟨w.heap.size + 1 + 1, 2, none⟩ = some (.int .i64 z) := bc.at_ 2
  go_wp2_with fail
  refine (compare_any a' b' c' a b c _ _ H2.out).mono ?_
  rintro e w4 ⟨rfl, hb⟩
  clear zba0 zba1 zba2 zbb0 zbb1 zbb2 zbc0 zbc1 zbc2
  replace B := B.trans (hb.mono B.size)
  replace ba := ba.below' hb
  replace bb := bb.below' hb
  replace bc := bc.below' hb
  clear hb
  have lba := ba.lt
  have zba0 : w4.cell? ⟨w.heap.size, 0, none⟩ = some (.int .i64 a) := ba.at_ 0
  have zba1 : w4.cell? ⟨w.heap.size, 1, none⟩ = some (.int .i64 b) := ba.at_ 1
  have zba2 : w4.cell? ⟨w.heap.size, 2, none⟩ = some (.int .i64 c) := ba.at_ 2
  have lbb := bb.lt
  have zbb0 : w4.cell? ⟨w.heap.size + 1, 0, none⟩ = some (.int .i64 a') := bb.at_ 0
  have zbb1 : w4.cell? ⟨w.heap.size + 1, 1, none⟩ = some (.int .i64 b') := bb.at_ 1
  have zbb2 : w4.cell? ⟨w.heap.size + 1, 2, none⟩ = some (.int .i64 c') := bb.at_ 2
  have lbc := bc.lt
  have zbc0 : w4.cell? ⟨w.heap.size + 1 + 1, 0, none⟩ = some (.int .i64 x) := bc.at_ 0
  have zbc1 : w4.cell? ⟨w.heap.size + 1 + 1, 1, none⟩ = some (.int .i64 y) := bc.at_ 1
  have zbc2 : w4.cell? ⟨w.heap.size + 1 + 1, 2, none⟩ = some (.int .i64 z) := bc.at_ 2
  rcases (show (a ≠ a') ∨ (a = a' ∧ b ≠ b') ∨ (a = a' ∧ b = b' ∧ c ≠ c') by omega) with g1 | ⟨g1, g2⟩ | ⟨g1, g2, g3⟩
  · have q1 : (a == a') = false := beq_eq_false_iff_ne.2 g1
    clear hne g1
    go_wp2_with fail
    refine (compare_any a' b' c' x y z _ _ HP.out).mono ?_
    rintro e w5 ⟨rfl, hb⟩
    clear zba0 zba1 zba2 zbb0 zbb1 zbb2 zbc0 zbc1 zbc2
    replace B := B.trans (hb.mono B.size)
    replace ba := ba.below' hb
    replace bb := bb.below' hb
    replace bc := bc.below' hb
    clear hb
    have lba := ba.lt
    have zba0 : w5.cell? ⟨w.heap.size, 0, none⟩ = some (.int .i64 a) := ba.at_ 0
    have zba1 : w5.cell? ⟨w.heap.size, 1, none⟩ = some (.int .i64 b) := ba.at_ 1
    have zba2 : w5.cell? ⟨w.heap.size, 2, none⟩ = some (.int .i64 c) := ba.at_ 2
    have lbb := bb.lt
    have zbb0 : w5.cell? ⟨w.heap.size + 1, 0, none⟩ = some (.int .i64 a') := bb.at_ 0
    have zbb1 : w5.cell? ⟨w.heap.size + 1, 1, none⟩ = some (.int .i64 b') := bb.at_ 1
    have zbb2 : w5.cell? ⟨w.heap.size + 1, 2, none⟩ = some (.int .i64 c') := bb.at_ 2
    have lbc := bc.lt
    have zbc0 : w5.cell? ⟨w.heap.size + 1 + 1, 0, none⟩ = some (.int .i64 x) := bc.at_ 0
    have zbc1 : w5.cell? ⟨w.heap.size + 1 + 1, 1, none⟩ = some (.int .i64 y) := bc.at_ 1
    have zbc2 : w5.cell? ⟨w.heap.size + 1 + 1, 2, none⟩ = some (.int .i64 z) := bc.at_ 2
    by_cases hp0 : p ≤ 0
    · have hq0 := HTR.out (by rw [H1.out]; decide) hp0
      have d1 : decide (0 < p) = false := decide_eq_false (by omega)
      have d2 : decide (q ≤ 0) = true := decide_eq_true hq0
      go_wp2_with fail
      refine (compare_any a b c x y z _ _ HQ.out).mono ?_
      rintro e w6 ⟨rfl, hb⟩
      clear zba0 zba1 zba2 zbb0 zbb1 zbb2 zbc0 zbc1 zbc2
      replace B := B.trans (hb.mono B.size)
      replace ba := ba.below' hb
      replace bb := bb.below' hb
      replace bc := bc.below' hb
      clear hb
      have lba := ba.lt
      have zba0 : w6.cell? ⟨w.heap.size, 0, none⟩ = some (.int .i64 a) := ba.at_ 0
      have zba1 : w6.cell? ⟨w.heap.size, 1, none⟩ = some (.int .i64 b) := ba.at_ 1
      have zba2 : w6.cell? ⟨w.heap.size, 2, none⟩ = some (.int .i64 c) := ba.at_ 2
      have lbb := bb.lt
      have zbb0 : w6.cell? ⟨w.heap.size + 1, 0, none⟩ = some (.int .i64 a') := bb.at_ 0
      have zbb1 : w6.cell? ⟨w.heap.size + 1, 1, none⟩ = some (.int .i64 b') := bb.at_ 1
      have zbb2 : w6.cell? ⟨w.heap.size + 1, 2, none⟩ = some (.int .i64 c') := bb.at_ 2
      have lbc := bc.lt
      have zbc0 : w6.cell? ⟨w.heap.size + 1 + 1, 0, none⟩ = some (.int .i64 x) := bc.at_ 0
      have zbc1 : w6.cell? ⟨w.heap.size + 1 + 1, 1, none⟩ = some (.int .i64 y) := bc.at_ 1
      have zbc2 : w6.cell? ⟨w.heap.size + 1 + 1, 2, none⟩ = some (.int .i64 z) := bc.at_ 2
      go_wp2_with fail
      go_ret
      exact ⟨rfl, B⟩
    · have d1 : decide (0 < p) = true := decide_eq_true (by omega)
      go_wp2_with fail
      go_ret
      exact ⟨rfl, B⟩
  · have q1 : (a == a') = true := beq_iff_eq.2 g1
    have q2 : (b == b') = false := beq_eq_false_iff_ne.2 g2
    clear hne g1 g2
    go_wp2_with fail
    refine (compare_any a' b' c' x y z _ _ HP.out).mono ?_
    rintro e w5 ⟨rfl, hb⟩
    clear zba0 zba1 zba2 zbb0 zbb1 zbb2 zbc0 zbc1 zbc2
    replace B := B.trans (hb.mono B.size)
    replace ba := ba.below' hb
    replace bb := bb.below' hb
    replace bc := bc.below' hb
    clear hb
    have lba := ba.lt
    have zba0 : w5.cell? ⟨w.heap.size, 0, none⟩ = some (.int .i64 a) := ba.at_ 0
    have zba1 : w5.cell? ⟨w.heap.size, 1, none⟩ = some (.int .i64 b) := ba.at_ 1
    have zba2 : w5.cell? ⟨w.heap.size, 2, none⟩ = some (.int .i64 c) := ba.at_ 2
    have lbb := bb.lt
    have zbb0 : w5.cell? ⟨w.heap.size + 1, 0, none⟩ = some (.int .i64 a') := bb.at_ 0
    have zbb1 : w5.cell? ⟨w.heap.size + 1, 1, none⟩ = some (.int .i64 b') := bb.at_ 1
    have zbb2 : w5.cell? ⟨w.heap.size + 1, 2, none⟩ = some (.int .i64 c') := bb.at_ 2
    have lbc := bc.lt
    have zbc0 : w5.cell? ⟨w.heap.size + 1 + 1, 0, none⟩ = some (.int .i64 x) := bc.at_ 0
    have zbc1 : w5.cell? ⟨w.heap.size + 1 + 1, 1, none⟩ = some (.int .i64 y) := bc.at_ 1
    have zbc2 : w5.cell? ⟨w.heap.size + 1 + 1, 2, none⟩ = some (.int .i64 z) := bc.at_ 2
    by_cases hp0 : p ≤ 0
    · have hq0 := HTR.out (by rw [H1.out]; decide) hp0
      have d1 : decide (0 < p) = false := decide_eq_false (by omega)
      have d2 : decide (q ≤ 0) = true := decide_eq_true hq0
      go_wp2_with fail
      refine (compare_any a b c x y z _ _ HQ.out).mono ?_
      rintro e w6 ⟨rfl, hb⟩
      clear zba0 zba1 zba2 zbb0 zbb1 zbb2 zbc0 zbc1 zbc2
      replace B := B.trans (hb.mono B.size)
      replace ba := ba.below' hb
      replace bb := bb.below' hb
      replace bc := bc.below' hb
      clear hb
      have lba := ba.lt
      have zba0 : w6.cell? ⟨w.heap.size, 0, none⟩ = some (.int .i64 a) := ba.at_ 0
      have zba1 : w6.cell? ⟨w.heap.size, 1, none⟩ = some (.int .i64 b) := ba.at_ 1
      have zba2 : w6.cell? ⟨w.heap.size, 2, none⟩ = some (.int .i64 c) := ba.at_ 2
      have lbb := bb.lt
      have zbb0 : w6.cell? ⟨w.heap.size + 1, 0, none⟩ = some (.int .i64 a') := bb.at_ 0
      have zbb1 : w6.cell? ⟨w.heap.size + 1, 1, none⟩ = some (.int .i64 b') := bb.at_ 1
      have zbb2 : w6.cell? ⟨w.heap.size + 1, 2, none⟩ = some (.int .i64 c') := bb.at_ 2
      have lbc := bc.lt
      have zbc0 : w6.cell? ⟨w.heap.size + 1 + 1, 0, none⟩ = some (.int .i64 x) := bc.at_ 0
      have zbc1 : w6.cell? ⟨w.heap.size + 1 + 1, 1, none⟩ = some (.int .i64 y) := bc.at_ 1
      have zbc2 : w6.cell? ⟨w.heap.size + 1 + 1, 2, none⟩ = some (.int .i64 z) := bc.at_ 2
      go_wp2_with fail
      go_ret
      exact ⟨rfl, B⟩
    · have d1 : decide (0 < p) = true := decide_eq_true (by omega)
      go_wp2_with fail
      go_ret
      exact ⟨rfl, B⟩
  · have q1 : (a == a') = true := beq_iff_eq.2 g1
    have q2 : (b == b') = true := beq_iff_eq.2 g2
    have q3 : (c == c') = false := beq_eq_false_iff_ne.2 g3
    clear hne g1 g2 g3
    go_wp2_with fail
    refine (compare_any a' b' c' x y z _ _ HP.out).mono ?_
    rintro e w5 ⟨rfl, hb⟩
    clear zba0 zba1 zba2 zbb0 zbb1 zbb2 zbc0 zbc1 zbc2
    replace B := B.trans (hb.mono B.size)
    replace ba := ba.below' hb
    replace bb := bb.below' hb
    replace bc := bc.below' hb
    clear hb
    have lba := ba.lt
    have zba0 : w5.cell? ⟨w.heap.size, 0, none⟩ = some (.int .i64 a) := ba.at_ 0
    have zba1 : w5.cell? ⟨w.heap.size, 1, none⟩ = some (.int .i64 b) := ba.at_ 1
    have zba2 : w5.cell? ⟨w.heap.size, 2, none⟩ = some (.int .i64 c) := ba.at_ 2
    have lbb := bb.lt
    have zbb0 : w5.cell? ⟨w.heap.size + 1, 0, none⟩ = some (.int .i64 a') := bb.at_ 0
    have zbb1 : w5.cell? ⟨w.heap.size + 1, 1, none⟩ = some (.int .i64 b') := bb.at_ 1
    have zbb2 : w5.cell? ⟨w.heap.size + 1, 2, none⟩ = some (.int .i64 c') := bb.at_ 2
    have lbc := bc.lt
    have zbc0 : w5.cell? ⟨w.heap.size + 1 + 1, 0, none⟩ = some (.int .i64 x) := bc.at_ 0
    have zbc1 : w5.cell? ⟨w.heap.size + 1 + 1, 1, none⟩ = some (.int .i64 y) := bc.at_ 1
    have zbc2 : w5.cell? ⟨w.heap.size + 1 + 1, 2, none⟩ = some (.int .i64 z) := bc.at_ 2
    by_cases hp0 : p ≤ 0
    · have hq0 := HTR.out (by rw [H1.out]; decide) hp0
      have d1 : decide (0 < p) = false := decide_eq_false (by omega)
      have d2 : decide (q ≤ 0) = true := decide_eq_true hq0
      go_wp2_with fail
      refine (compare_any a b c x y z _ _ HQ.out).mono ?_
      rintro e w6 ⟨rfl, hb⟩
      clear zba0 zba1 zba2 zbb0 zbb1 zbb2 zbc0 zbc1 zbc2
      replace B := B.trans (hb.mono B.size)
      replace ba := ba.below' hb
      replace bb := bb.below' hb
      replace bc := bc.below' hb
      clear hb
      have lba := ba.lt
      have zba0 : w6.cell? ⟨w.heap.size, 0, none⟩ = some (.int .i64 a) := ba.at_ 0
      have zba1 : w6.cell? ⟨w.heap.size, 1, none⟩ = some (.int .i64 b) := ba.at_ 1
      have zba2 : w6.cell? ⟨w.heap.size, 2, none⟩ = some (.int .i64 c) := ba.at_ 2
      have lbb := bb.lt
      have zbb0 : w6.cell? ⟨w.heap.size + 1, 0, none⟩ = some (.int .i64 a') := bb.at_ 0
      have zbb1 : w6.cell? ⟨w.heap.size + 1, 1, none⟩ = some (.int .i64 b') := bb.at_ 1
      have zbb2 : w6.cell? ⟨w.heap.size + 1, 2, none⟩ = some (.int .i64 c') := bb.at_ 2
      have lbc := bc.lt
      have zbc0 : w6.cell? ⟨w.heap.size + 1 + 1, 0, none⟩ = some (.int .i64 x) := bc.at_ 0
      have zbc1 : w6.cell? ⟨w.heap.size + 1 + 1, 1, none⟩ = some (.int .i64 y) := bc.at_ 1
      have zbc2 : w6.cell? ⟨w.heap.size + 1 + 1, 2, none⟩ = some (.int .i64 z) := bc.at_ 2
      go_wp2_with fail
      go_ret
      exact ⟨rfl, B⟩
    · have d1 : decide (0 < p) = true := decide_eq_true (by omega)
      go_wp2_with fail
      go_ret
      exact ⟨rfl, B⟩
set_option maxRecDepth 100000 in
set_option maxHeartbeats 16000000 in
theorem cmp_gt (a b c a' b' c' x y z : Int) (w : World) (hT : Lw w) (h : cL a b c a' b' c' = 1) :
    Calls Tryd.prog 5 #[.agg #[.int .i64 a, .int .i64 b, .int .i64 c], .agg #[.int .i64 a', .int .i64 b', .int .i64 c'], .agg #[.int .i64 x, .int .i64 y, .int .i64 z]] w fun e w' => e = .returned (.bool true) ∧ Below w.heap.size w w' := by
  have HT := hide hT
  have H1 := hide h
  have H2 := hide (show cL a' b' c' a b c = -1 from by have := cL_neg a b c a' b' c'; omega)
  have hne : ¬(a = a' ∧ b = b' ∧ c = c') := fun hc => by have := (cL_zero a b c a' b' c').2 hc; omega
  obtain ⟨p, hp⟩ : ∃ p, cL a' b' c' x y z = p := ⟨_, rfl⟩
  obtain ⟨q, hq⟩ : ∃ q, cL a b c x y z = q := ⟨_, rfl⟩
  have HTR := hide (show cL a b c a' b' c' ≤ 0 → p ≤ 0 → q ≤ 0 from fun h1 h2 => by rw [← hq]; exact cL_trans h1 (by rw [hp]; exact h2))
  have HP := hide hp
  have HQ := hide hq
  clear h hp hq
  clear hT
  go_enter Tryd.func5, Tryd.ntmps5
  go_wp2_with fail
  generalize hW : ((w.alloc _).alloc _).alloc _ = W0
  obtain ⟨B, ba, bb, bc⟩ := boxT3 hW
  clear hW
  have lba := ba.lt
  have zba0 : W0.cell? ⟨w.heap.size, 0, none⟩ = some (.int .i64 a) := ba.at_ 0
  have zba1 : W0.cell? ⟨w.heap.size, 1, none⟩ = some (.int .i64 b) := ba.at_ 1
  have zba2 : W0.cell? ⟨w.heap.size, 2, none⟩ = some (.int .i64 c) := ba.at_ 2
  have lbb := bb.lt
  have zbb0 : W0.cell? ⟨w.heap.size + 1, 0, none⟩ = some (.int .i64 a') := bb.at_ 0
  have zbb1 : W0.cell? ⟨w.heap.size + 1, 1, none⟩ = some (.int .i64 b') := bb.at_ 1
  have zbb2 : W0.cell? ⟨w.heap.size + 1, 2, none⟩ = some (.int .i64 c') := bb.at_ 2
  have lbc := bc.lt
  have zbc0 : W0.cell? ⟨w.heap.size + 1 + 1, 0, none⟩ = some (.int .i64 x) := bc.at_ 0
  have zbc1 : W0.cell? ⟨w.heap.size + 1 + 1, 1, none⟩ = some (.int .i64 y) := bc.at_ 1
  have zbc2 : W0.cell? ⟨w.heap.size + 1 + 1, 2, none⟩ = some (.int .i64 z) := bc.at_ 2
  go_wp2_with fail
  refine (awake_yes _ (HT.out.below B)).mono ?_
  rintro e w1 ⟨rfl, hb⟩
  clear zba0 zba1 zba2 zbb0 zbb1 zbb2 zbc0 zbc1 zbc2
  replace B := B.trans (hb.mono B.size)
  replace ba := ba.below' hb
  replace bb := bb.below' hb
  replace bc := bc.below' hb
  clear hb
  have lba := ba.lt
  have zba0 : w1.cell? ⟨w.heap.size, 0, none⟩ = some (.int .i64 a) := ba.at_ 0
  have zba1 : w1.cell? ⟨w.heap.size, 1, none⟩ = some (.int .i64 b) := ba.at_ 1
  have zba2 : w1.cell? ⟨w.heap.size, 2, none⟩ = some (.int .i64 c) := ba.at_ 2
  have lbb := bb.lt
  have zbb0 : w1.cell? ⟨w.heap.size + 1, 0, none⟩ = some (.int .i64 a') := bb.at_ 0
  have zbb1 : w1.cell? ⟨w.heap.size + 1, 1, none⟩ = some (.int .i64 b') := bb.at_ 1
  have zbb2 : w1.cell? ⟨w.heap.size + 1, 2, none⟩ = some (.int .i64 c') := bb.at_ 2
  have lbc := bc.lt
  have zbc0 : w1.cell? ⟨w.heap.size + 1 + 1, 0, none⟩ = some (.int .i64 x) := bc.at_ 0
  have zbc1 : w1.cell? ⟨w.heap.size + 1 + 1, 1, none⟩ = some (.int .i64 y) := bc.at_ 1
  have zbc2 : w1.cell? ⟨w.heap.size + 1 + 1, 2, none⟩ = some (.int .i64 z) := bc.at_ 2
  go_wp2_with fail
  refine (compare_any a b c a' b' c' _ _ H1.out).mono ?_
  rintro e w2 ⟨rfl, hb⟩
  clear zba0 zba1 zba2 zbb0 zbb1 zbb2 zbc0 zbc1 zbc2
  replace B := B.trans (hb.mono B.size)
  replace ba := ba.below' hb
  replace bb := bb.below' hb
  replace bc := bc.below' hb
  clear hb
  have lba := ba.lt
  have zba0 : w2.cell? ⟨w.heap.size, 0, none⟩ = some (.int .i64 a) := ba.at_ 0
  have zba1 : w2.cell? ⟨w.heap.size, 1, none⟩ = some (.int .i64 b) := ba.at_ 1
  have zba2 : w2.cell? ⟨w.heap.size, 2, none⟩ = some (.int .i64 c) := ba.at_ 2
  have lbb := bb.lt
  have zbb0 : w2.cell? ⟨w.heap.size + 1, 0, none⟩ = some (.int .i64 a') := bb.at_ 0
  have zbb1 : w2.cell? ⟨w.heap.size + 1, 1, none⟩ = some (.int .i64 b') := bb.at_ 1
  have zbb2 : w2.cell? ⟨w.heap.size + 1, 2, none⟩ = some (.int .i64 c') := bb.at_ 2
  have lbc := bc.lt
  have zbc0 : w2.cell? ⟨w.heap.size + 1 + 1, 0, none⟩ = some (.int .i64 x) := bc.at_ 0
  have zbc1 : w2.cell? ⟨w.heap.size + 1 + 1, 1, none⟩ = some (.int .i64 y) := bc.at_ 1
  have zbc2 : w2.cell? ⟨w.heap.size + 1 + 1, 2, none⟩ = some (.int .i64 z) := bc.at_ 2
  go_wp2_with fail
  refine (rcomp_any a b c a' b' c' _ _ H1.out).mono ?_
  rintro e w3 ⟨rfl, hb⟩
  clear zba0 zba1 zba2 zbb0 zbb1 zbb2 zbc0 zbc1 zbc2
  replace B := B.trans (hb.mono B.size)
  replace ba := ba.below' hb
  replace bb := bb.below' hb
  replace bc := bc.below' hb
  clear hb
  have lba := ba.lt
  have zba0 : w3.cell? ⟨w.heap.size, 0, none⟩ = some (.int .i64 a) := ba.at_ 0
  have zba1 : w3.cell? ⟨w.heap.size, 1, none⟩ = some (.int .i64 b) := ba.at_ 1
  have zba2 : w3.cell? ⟨w.heap.size, 2, none⟩ = some (.int .i64 c) := ba.at_ 2
  have lbb := bb.lt
  have zbb0 : w3.cell? ⟨w.heap.size + 1, 0, none⟩ = some (.int .i64 a') := bb.at_ 0
  have zbb1 : w3.cell? ⟨w.heap.size + 1, 1, none⟩ = some (.int .i64 b') := bb.at_ 1
  have zbb2 : w3.cell? ⟨w.heap.size + 1, 2, none⟩ = some (.int .i64 c') := bb.at_ 2
  have lbc := bc.lt
  have zbc0 : w3.cell? ⟨w.heap.size + 1 + 1, 0, none⟩ = some (.int .i64 x) := bc.at_ 0
  have zbc1 : w3.cell? ⟨w.heap.size + 1 + 1, 1, none⟩ = some (.int .i64 y) := bc.at_ 1
  have zbc2 : w3.cell? ⟨w.heap.size + 1 + 1, 2, none⟩ = some (.int .i64 z) := bc.at_ 2
  go_wp2_with fail
  refine (compare_any a' b' c' a b c _ _ H2.out).mono ?_
  rintro e w4 ⟨rfl, hb⟩
  clear zba0 zba1 zba2 zbb0 zbb1 zbb2 zbc0 zbc1 zbc2
  replace B := B.trans (hb.mono B.size)
  replace ba := ba.below' hb
  replace bb := bb.below' hb
  replace bc := bc.below' hb
  clear hb
  have lba := ba.lt
  have zba0 : w4.cell? ⟨w.heap.size, 0, none⟩ = some (.int .i64 a) := ba.at_ 0
  have zba1 : w4.cell? ⟨w.heap.size, 1, none⟩ = some (.int .i64 b) := ba.at_ 1
  have zba2 : w4.cell? ⟨w.heap.size, 2, none⟩ = some (.int .i64 c) := ba.at_ 2
  have lbb := bb.lt
  have zbb0 : w4.cell? ⟨w.heap.size + 1, 0, none⟩ = some (.int .i64 a') := bb.at_ 0
  have zbb1 : w4.cell? ⟨w.heap.size + 1, 1, none⟩ = some (.int .i64 b') := bb.at_ 1
  have zbb2 : w4.cell? ⟨w.heap.size + 1, 2, none⟩ = some (.int .i64 c') := bb.at_ 2
  have lbc := bc.lt
  have zbc0 : w4.cell? ⟨w.heap.size + 1 + 1, 0, none⟩ = some (.int .i64 x) := bc.at_ 0
  have zbc1 : w4.cell? ⟨w.heap.size + 1 + 1, 1, none⟩ = some (.int .i64 y) := bc.at_ 1
  have zbc2 : w4.cell? ⟨w.heap.size + 1 + 1, 2, none⟩ = some (.int .i64 z) := bc.at_ 2
  rcases (show (a ≠ a') ∨ (a = a' ∧ b ≠ b') ∨ (a = a' ∧ b = b' ∧ c ≠ c') by omega) with g1 | ⟨g1, g2⟩ | ⟨g1, g2, g3⟩
  · have q1 : (a == a') = false := beq_eq_false_iff_ne.2 g1
    clear hne g1
    go_wp2_with fail
    go_ret
    exact ⟨rfl, B⟩
  · have q1 : (a == a') = true := beq_iff_eq.2 g1
    have q2 : (b == b') = false := beq_eq_false_iff_ne.2 g2
    clear hne g1 g2
    go_wp2_with fail
    go_ret
    exact ⟨rfl, B⟩
  · have q1 : (a == a') = true := beq_iff_eq.2 g1
    have q2 : (b == b') = true := beq_iff_eq.2 g2
    have q3 : (c == c') = false := beq_eq_false_iff_ne.2 g3
    clear hne g1 g2 g3
    go_wp2_with fail
    go_ret
    exact ⟨rfl, B⟩
set_option maxRecDepth 100000 in
set_option maxHeartbeats 16000000 in
theorem cmp_eq (a b c a' b' c' x y z : Int) (w : World) (hT : Lw w) (h : cL a b c a' b' c' = 0) :
    Calls Tryd.prog 5 #[.agg #[.int .i64 a, .int .i64 b, .int .i64 c], .agg #[.int .i64 a', .int .i64 b', .int .i64 c'], .agg #[.int .i64 x, .int .i64 y, .int .i64 z]] w fun e w' => e = .returned (.bool true) ∧ Below w.heap.size w w' := by
  have HT := hide hT
  have H1 := hide h
  have H2 := hide (show cL a' b' c' a b c = 0 from by have := cL_neg a b c a' b' c'; omega)
  obtain ⟨rfl, rfl, rfl⟩ := (cL_zero a b c a' b' c').1 h
  obtain ⟨p, hp⟩ : ∃ p, cL a b c x y z = p := ⟨_, rfl⟩
  obtain ⟨q, hq⟩ : ∃ q, cL a b c x y z = q := ⟨_, rfl⟩
  have HTR := hide (show cL a b c a b c ≤ 0 → p ≤ 0 → q ≤ 0 from fun h1 h2 => by rw [← hq]; exact cL_trans h1 (by rw [hp]; exact h2))
  have HP := hide hp
  have HQ := hide hq
  clear h hp hq
  clear hT
  go_enter Tryd.func5, Tryd.ntmps5
  go_wp2_with fail
  generalize hW : ((w.alloc _).alloc _).alloc _ = W0
  obtain ⟨B, ba, bb, bc⟩ := boxT3 hW
  clear hW
  have lba := ba.lt
  have zba0 : W0.cell? ⟨w.heap.size, 0, none⟩ = some (.int .i64 a) := ba.at_ 0
  have zba1 : W0.cell? ⟨w.heap.size, 1, none⟩ = some (.int .i64 b) := ba.at_ 1
  have zba2 : W0.cell? ⟨w.heap.size, 2, none⟩ = some (.int .i64 c) := ba.at_ 2
  have lbb := bb.lt
  have zbb0 : W0.cell? ⟨w.heap.size + 1, 0, none⟩ = some (.int .i64 a) := bb.at_ 0
  have zbb1 : W0.cell? ⟨w.heap.size + 1, 1, none⟩ = some (.int .i64 b) := bb.at_ 1
  have zbb2 : W0.cell? ⟨w.heap.size + 1, 2, none⟩ = some (.int .i64 c) := bb.at_ 2
  have lbc := bc.lt
  have zbc0 : W0.cell? ⟨w.heap.size + 1 + 1, 0, none⟩ = some (.int .i64 x) := bc.at_ 0
  have zbc1 : W0.cell? ⟨w.heap.size + 1 + 1, 1, none⟩ = some (.int .i64 y) := bc.at_ 1
  have zbc2 : W0.cell? ⟨w.heap.size + 1 + 1, 2, none⟩ = some (.int .i64 z) := bc.at_ 2
  go_wp2_with fail
  refine (awake_yes _ (HT.out.below B)).mono ?_
  rintro e w1 ⟨rfl, hb⟩
  clear zba0 zba1 zba2 zbb0 zbb1 zbb2 zbc0 zbc1 zbc2
  replace B := B.trans (hb.mono B.size)
  replace ba := ba.below' hb
  replace bb := bb.below' hb
  replace bc := bc.below' hb
  clear hb
  have lba := ba.lt
  have zba0 : w1.cell? ⟨w.heap.size, 0, none⟩ = some (.int .i64 a) := ba.at_ 0
  have zba1 : w1.cell? ⟨w.heap.size, 1, none⟩ = some (.int .i64 b) := ba.at_ 1
  have zba2 : w1.cell? ⟨w.heap.size, 2, none⟩ = some (.int .i64 c) := ba.at_ 2
  have lbb := bb.lt
  have zbb0 : w1.cell? ⟨w.heap.size + 1, 0, none⟩ = some (.int .i64 a) := bb.at_ 0
  have zbb1 : w1.cell? ⟨w.heap.size + 1, 1, none⟩ = some (.int .i64 b) := bb.at_ 1
  have zbb2 : w1.cell? ⟨w.heap.size + 1, 2, none⟩ = some (.int .i64 c) := bb.at_ 2
  have lbc := bc.lt
  have zbc0 : w1.cell? ⟨w.heap.size + 1 + 1, 0, none⟩ = some (.int .i64 x) := bc.at_ 0
  have zbc1 : w1.cell? ⟨w.heap.size + 1 + 1, 1, none⟩ = some (.int .i64 y) := bc.at_ 1
  have zbc2 : w1.cell? ⟨w.heap.size + 1 + 1, 2, none⟩ = some (.int .i64 z) := bc.at_ 2
  go_wp2_with fail
  refine (compare_any a b c a b c _ _ H1.out).mono ?_
  rintro e w2 ⟨rfl, hb⟩
  clear zba0 zba1 zba2 zbb0 zbb1 zbb2 zbc0 zbc1 zbc2
  replace B := B.trans (hb.mono B.size)
  replace ba := ba.below' hb
  replace bb := bb.below' hb
  replace bc := bc.below' hb
  clear hb
  have lba := ba.lt
  have zba0 : w2.cell? ⟨w.heap.size, 0, none⟩ = some (.int .i64 a) := ba.at_ 0
  have zba1 : w2.cell? ⟨w.heap.size, 1, none⟩ = some (.int .i64 b) := ba.at_ 1
  have zba2 : w2.cell? ⟨w.heap.size, 2, none⟩ = some (.int .i64 c) := ba.at_ 2
  have lbb := bb.lt
  have zbb0 : w2.cell? ⟨w.heap.size + 1, 0, none⟩ = some (.int .i64 a) := bb.at_ 0
  have zbb1 : w2.cell? ⟨w.heap.size + 1, 1, none⟩ = some (.int .i64 b) := bb.at_ 1
  have zbb2 : w2.cell? ⟨w.heap.size + 1, 2, none⟩ = some (.int .i64 c) := bb.at_ 2
  have lbc := bc.lt
  have zbc0 : w2.cell? ⟨w.heap.size + 1 + 1, 0, none⟩ = some (.int .i64 x) := bc.at_ 0
  have zbc1 : w2.cell? ⟨w.heap.size + 1 + 1, 1, none⟩ = some (.int .i64 y) := bc.at_ 1
  have zbc2 : w2.cell? ⟨w.heap.size + 1 + 1, 2, none⟩ = some (.int .i64 z) := bc.at_ 2
  go_wp2_with fail
  refine (rcomp_any a b c a b c _ _ H1.out).mono ?_
  rintro e w3 ⟨rfl, hb⟩
  clear zba0 zba1 zba2 zbb0 zbb1 zbb2 zbc0 zbc1 zbc2
  replace B := B.trans (hb.mono B.size)
  replace ba := ba.below' hb
  replace bb := bb.below' hb
  replace bc := bc.below' hb
  clear hb
  have lba := ba.lt
  have zba0 : w3.cell? ⟨w.heap.size, 0, none⟩ = some (.int .i64 a) := ba.at_ 0
  have zba1 : w3.cell? ⟨w.heap.size, 1, none⟩ = some (.int .i64 b) := ba.at_ 1
  have zba2 : w3.cell? ⟨w.heap.size, 2, none⟩ = some (.int .i64 c) := ba.at_ 2
  have lbb := bb.lt
  have zbb0 : w3.cell? ⟨w.heap.size + 1, 0, none⟩ = some (.int .i64 a) := bb.at_ 0
  have zbb1 : w3.cell? ⟨w.heap.size + 1, 1, none⟩ = some (.int .i64 b) := bb.at_ 1
  have zbb2 : w3.cell? ⟨w.heap.size + 1, 2, none⟩ = some (.int .i64 c) := bb.at_ 2
  have lbc := bc.lt
  have zbc0 : w3.cell? ⟨w.heap.size + 1 + 1, 0, none⟩ = some (.int .i64 x) := bc.at_ 0
  have zbc1 : w3.cell? ⟨w.heap.size + 1 + 1, 1, none⟩ = some (.int .i64 y) := bc.at_ 1
  have zbc2 : w3.cell? ⟨w.heap.size + 1 + 1, 2, none⟩ = some (.int .i64 z) := bc.at_ 2
  go_wp2_with fail
  refine (compare_any a b c a b c _ _ H2.out).mono ?_
  rintro e w4 ⟨rfl, hb⟩
  clear zba0 zba1 zba2 zbb0 zbb1 zbb2 zbc0 zbc1 zbc2
  replace B := B.trans (hb.mono B.size)
  replace ba := ba.below' hb
  replace bb := bb.below' hb
  replace bc := bc.below' hb
  clear hb
  have lba := ba.lt
  have zba0 : w4.cell? ⟨w.heap.size, 0, none⟩ = some (.int .i64 a) := ba.at_ 0
  have zba1 : w4.cell? ⟨w.heap.size, 1, none⟩ = some (.int .i64 b) := ba.at_ 1
  have zba2 : w4.cell? ⟨w.heap.size, 2, none⟩ = some (.int .i64 c) := ba.at_ 2
  have lbb := bb.lt
  have zbb0 : w4.cell? ⟨w.heap.size + 1, 0, none⟩ = some (.int .i64 a) := bb.at_ 0
  have zbb1 : w4.cell? ⟨w.heap.size + 1, 1, none⟩ = some (.int .i64 b) := bb.at_ 1
  have zbb2 : w4.cell? ⟨w.heap.size + 1, 2, none⟩ = some (.int .i64 c) := bb.at_ 2
  have lbc := bc.lt
  have zbc0 : w4.cell? ⟨w.heap.size + 1 + 1, 0, none⟩ = some (.int .i64 x) := bc.at_ 0
  have zbc1 : w4.cell? ⟨w.heap.size + 1 + 1, 1, none⟩ = some (.int .i64 y) := bc.at_ 1
  have zbc2 : w4.cell? ⟨w.heap.size + 1 + 1, 2, none⟩ = some (.int .i64 z) := bc.at_ 2
  go_wp2_with fail
  refine (compare_any a b c x y z _ _ HP.out).mono ?_
  rintro e w5 ⟨rfl, hb⟩
  clear zba0 zba1 zba2 zbb0 zbb1 zbb2 zbc0 zbc1 zbc2
  replace B := B.trans (hb.mono B.size)
  replace ba := ba.below' hb
  replace bb := bb.below' hb
  replace bc := bc.below' hb
  clear hb
  have lba := ba.lt
  have zba0 : w5.cell? ⟨w.heap.size, 0, none⟩ = some (.int .i64 a) := ba.at_ 0
  have zba1 : w5.cell? ⟨w.heap.size, 1, none⟩ = some (.int .i64 b) := ba.at_ 1
  have zba2 : w5.cell? ⟨w.heap.size, 2, none⟩ = some (.int .i64 c) := ba.at_ 2
  have lbb := bb.lt
  have zbb0 : w5.cell? ⟨w.heap.size + 1, 0, none⟩ = some (.int .i64 a) := bb.at_ 0
  have zbb1 : w5.cell? ⟨w.heap.size + 1, 1, none⟩ = some (.int .i64 b) := bb.at_ 1
  have zbb2 : w5.cell? ⟨w.heap.size + 1, 2, none⟩ = some (.int .i64 c) := bb.at_ 2
  have lbc := bc.lt
  have zbc0 : w5.cell? ⟨w.heap.size + 1 + 1, 0, none⟩ = some (.int .i64 x) := bc.at_ 0
  have zbc1 : w5.cell? ⟨w.heap.size + 1 + 1, 1, none⟩ = some (.int .i64 y) := bc.at_ 1
  have zbc2 : w5.cell? ⟨w.heap.size + 1 + 1, 2, none⟩ = some (.int .i64 z) := bc.at_ 2
  by_cases hp0 : p ≤ 0
  · have hq0 := HTR.out (by rw [H1.out]; decide) hp0
    have d1 : decide (0 < p) = false := decide_eq_false (by omega)
    have d2 : decide (q ≤ 0) = true := decide_eq_true hq0
    go_wp2_with fail
    refine (compare_any a b c x y z _ _ HQ.out).mono ?_
    rintro e w6 ⟨rfl, hb⟩
    clear zba0 zba1 zba2 zbb0 zbb1 zbb2 zbc0 zbc1 zbc2
    replace B := B.trans (hb.mono B.size)
    replace ba := ba.below' hb
    replace bb := bb.below' hb
    replace bc := bc.below' hb
    clear hb
    have lba := ba.lt
    have zba0 : w6.cell? ⟨w.heap.size, 0, none⟩ = some (.int .i64 a) := ba.at_ 0
    have zba1 : w6.cell? ⟨w.heap.size, 1, none⟩ = some (.int .i64 b) := ba.at_ 1
    have zba2 : w6.cell? ⟨w.heap.size, 2, none⟩ = some (.int .i64 c) := ba.at_ 2
    have lbb := bb.lt
    have zbb0 : w6.cell? ⟨w.heap.size + 1, 0, none⟩ = some (.int .i64 a) := bb.at_ 0
    have zbb1 : w6.cell? ⟨w.heap.size + 1, 1, none⟩ = some (.int .i64 b) := bb.at_ 1
    have zbb2 : w6.cell? ⟨w.heap.size + 1, 2, none⟩ = some (.int .i64 c) := bb.at_ 2
    have lbc := bc.lt
    have zbc0 : w6.cell? ⟨w.heap.size + 1 + 1, 0, none⟩ = some (.int .i64 x) := bc.at_ 0
    have zbc1 : w6.cell? ⟨w.heap.size + 1 + 1, 1, none⟩ = some (.int .i64 y) := bc.at_ 1
    have zbc2 : w6.cell? ⟨w.heap.size + 1 + 1, 2, none⟩ = some (.int .i64 z) := bc.at_ 2
    go_wp2_with fail
    go_ret
    exact ⟨rfl, B⟩
  · have d1 : decide (0 < p) = true := decide_eq_true (by omega)
    go_wp2_with fail
    go_ret
    exact ⟨rfl, B⟩
theorem compares_all (a b c a' b' c' x y z : Int) (w : World) (hT : Lw w) :
    Calls Tryd.prog 5 #[.agg #[.int .i64 a, .int .i64 b, .int .i64 c], .agg #[.int .i64 a', .int .i64 b', .int .i64 c'], .agg #[.int .i64 x, .int .i64 y, .int .i64 z]] w fun e w' => e = .returned (.bool true) ∧ Below w.heap.size w w' := by
  rcases cL_rng a b c a' b' c' with h | h | h
  · exact cmp_lt a b c a' b' c' x y z w hT h
  · exact cmp_eq a b c a' b' c' x y z w hT h
  · exact cmp_gt a b c a' b' c' x y z w hT h
end Go.Proofs.YtdoknlodnpeeoaaDoor
