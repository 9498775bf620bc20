/- Closure, Reduction. -/
import Derived.Test.YtgmdfaamheblmaaPStp
import Derived.Test.YtgmdfaamheblmaaPOrd
namespace Go.Proofs.Ytgmdfaamheblmaa
open Go Go.RowKit PM

/-- a slice of arcs and an error's number -/
def GivesA (ls : List (Nat × Nat)) (er : Int) (w : World) (e : Ending) (w' : World) : Prop :=
  (∃ A c, e = .returned (.tuple #[.slice A ls.length c, .int .i64 er]) ∧ YL w' A ls.length (ls.map zA) ∧ ls.length ≤ c ∧ c ≤ maxLen) ∧ Below w.heap.size w w'
theorem GivesA.nil {w w' : World} {er : Int} (hb : Below w.heap.size w w') : GivesA [] er w (.returned (.tuple #[.slice none 0 0, .int .i64 er])) w' := ⟨⟨none, 0, rfl, yl_nil _ _, Nat.le_refl _, by simp [maxLen]⟩, hb⟩
set_option maxHeartbeats 2000000 in
theorem clo_v (n : Int) (A : Option Addr) (m c : Nat) (l : List (Int × Int)) (w : World) (hx : YL w A m l) (hm : m ≤ maxLen) (hv : vB n l = false) :
    Calls Try.prog 20 #[.int .i64 n, .slice A m c] w (GivesA [] 1 w) := by
  have HX := hide hx
  have HM := hide hm
  have HV := hide hv
  clear hx hm hv
  go_enter Try.func20, Try.ntmps20
  go_wp2_with fail
  refine (valid_any n A m c l _ HX.out HM.out false HV.out).mono ?_
  rintro e w1 ⟨rfl, B⟩
  go_wp2_with fail
  refine bodyPost_ret (v := .tuple #[.slice none 0 0, .int .i64 1]) (by simp [results, Try.results20, go_sem]) rfl ?_
  exact GivesA.nil B
set_option maxHeartbeats 2000000 in
theorem clo_y (N : Nat) (A : Option Addr) (m c : Nat) (bs : List (Nat × Nat)) (w : World) (hx : YL w A m (bs.map zA)) (hd : Dig N bs) (ls : List (Nat × Nat)) (hl : listR N (off (war (adj bs) N)) = ls) :
    Calls Try.prog 20 #[.int .i64 (N : Int), .slice A m c] w (GivesA ls 0 w) := by
  have HX := hide hx
  have HM := hide (dig_max hd hx)
  have HV := hide (vB_of hd)
  have HD := hide hd
  have HL := hide hl
  clear hx hd hl
  go_enter Try.func20, Try.ntmps20
  go_wp2_with fail
  refine (valid_any N A m c _ _ HX.out HM.out true HV.out).mono ?_
  rintro e w1 ⟨rfl, B⟩
  go_wp2_with fail
  refine (reached_any A m c N bs _ HD.out (HX.out.keep B)).mono ?_
  rintro e w2 ⟨rfl, hb⟩
  have B := B.trans (hb.mono B.size)
  clear hb
  go_wp2_with fail
  refine (list_any N (war (adj bs) N) _ HD.out.le).mono ?_
  rintro e w3 ⟨⟨A3, c3, rfl, hr⟩, hb⟩
  rw [HL.out] at hr ⊢
  have B := B.trans (hb.mono B.size)
  clear hb
  go_wp2_with fail
  refine bodyPost_ret (v := .tuple #[.slice A3 ls.length c3, .int .i64 0]) (by simp [results, Try.results20, go_sem]) rfl ?_
  exact ⟨⟨A3, c3, rfl, hr.yl, hr.le.1, hr.le.2⟩, B⟩
/-- what Closure gives -/
def resC (n : Int) (l : List (Int × Int)) : List (Nat × Nat) × Int := if vB n l = true then (listR n.toNat (off (war (adj (l.map nA)) n.toNat)), 0) else ([], 1)
theorem resC_cases (n : Int) (l : List (Int × Int)) : (vB n l = false ∧ resC n l = ([], 1)) ∨ ∃ (N : Nat) (bs : List (Nat × Nat)), n = (N : Int) ∧ l = bs.map zA ∧ Dig N bs ∧ resC n l = (listR N (off (war (adj bs) N)), 0) := by
  unfold resC
  rcases hv : vB n l with _ | _
  · exact .inl ⟨rfl, rfl⟩
  · obtain ⟨N, bs, rfl, rfl, hd⟩ := vB_true hv
    exact .inr ⟨N, bs, rfl, rfl, hd, by rw [if_pos rfl, nA_zA, Int.toNat_natCast]⟩
theorem closure_any (n : Int) (A : Option Addr) (m c : Nat) (l : List (Int × Int)) (w : World) (hx : YL w A m l) (hm : m ≤ maxLen) (ls : List (Nat × Nat)) (er : Int) (hr : resC n l = (ls, er)) :
    Calls Try.prog 20 #[.int .i64 n, .slice A m c] w (GivesA ls er w) := by
  rcases resC_cases n l with ⟨hv, h⟩ | ⟨N, bs, rfl, rfl, hd, h⟩
  · rw [h] at hr
    cases hr
    exact clo_v n A m c l w hx hm hv
  · rw [h] at hr
    cases hr
    exact clo_y N A m c bs w hx hd _ rfl
set_option maxHeartbeats 2000000 in
theorem red_v (n : Int) (A : Option Addr) (m c : Nat) (l : List (Int × Int)) (w : World) (hx : YL w A m l) (hm : m ≤ maxLen) (hv : vB n l = false) :
    Calls Try.prog 21 #[.int .i64 n, .slice A m c] w (GivesA [] 1 w) := by
  have HX := hide hx
  have HM := hide hm
  have HV := hide hv
  clear hx hm hv
  go_enter Try.func21, Try.ntmps21
  go_wp2_with fail
  refine (valid_any n A m c l _ HX.out HM.out false HV.out).mono ?_
  rintro e w1 ⟨rfl, B⟩
  go_wp2_with fail
  refine bodyPost_ret (v := .tuple #[.slice none 0 0, .int .i64 1]) (by simp [results, Try.results21, go_sem]) rfl ?_
  exact GivesA.nil B
set_option maxHeartbeats 2000000 in
theorem red_c (n : Int) (A : Option Addr) (m c : Nat) (l : List (Int × Int)) (w : World) (hx : YL w A m l) (hm : m ≤ maxLen) (hv : vB n l = true) (ha : acB n l = false) :
    Calls Try.prog 21 #[.int .i64 n, .slice A m c] w (GivesA [] 11 w) := by
  have HX := hide hx
  have HM := hide hm
  have HV := hide hv
  have HA := hide ha
  clear hx hm hv ha
  go_enter Try.func21, Try.ntmps21
  go_wp2_with fail
  refine (valid_any n A m c l _ HX.out HM.out true HV.out).mono ?_
  rintro e w1 ⟨rfl, B⟩
  go_wp2_with fail
  refine (acyclic_any n A m c l _ (HX.out.keep B) HM.out false HA.out).mono ?_
  rintro e w2 ⟨rfl, hb⟩
  have B := B.trans (hb.mono B.size)
  go_wp2_with fail
  refine bodyPost_ret (v := .tuple #[.slice none 0 0, .int .i64 11]) (by simp [results, Try.results21, go_sem]) rfl ?_
  exact GivesA.nil B
/-- the rows below i lessened -/
def mnJ (W F : Nat → Nat → Bool) (i : Nat) : Nat → Nat → Bool := fun a b => if a < i then W a b && !F a b else W a b
theorem mnJ_at (W F i b) : mnJ W F i i b = W i b := if_neg (Nat.lt_irrefl i)
theorem mnJ_step (W F i b) : mnJ W F (i + 1) i b = (W i b && !F i b) := if_pos (Nat.lt_succ_self i)
theorem mnJ_next {W F : Nat → Nat → Bool} {i a b : Nat} (h : a ≠ i) : mnJ W F i a b = mnJ W F (i + 1) a b := by
  unfold mnJ
  by_cases h1 : a < i
  · rw [if_pos h1, if_pos (by omega)]
  · rw [if_neg h1, if_neg (by omega)]
theorem mnJ_zero (W F) : mnJ W F 0 = W := by funext a b; exact if_neg (by omega)
theorem mnJ_end {n : Nat} {W : Nat → Nat → Bool} (a b : Nat) (ha : a < n) : mnJ W (stp n W W) n a b = red n W a b := by
  unfold mnJ red stp
  rw [if_pos ha, decide_eq_true ha, Bool.true_and]
set_option maxHeartbeats 8000000 in
theorem red_y (N : Nat) (A : Option Addr) (m c : Nat) (bs : List (Nat × Nat)) (w : World) (hx : YL w A m (bs.map zA)) (hd : Dig N bs) (ha : acB N (bs.map zA) = true) (ls : List (Nat × Nat)) (hl : listR N (off (red N (war (adj bs) N))) = ls) :
    Calls Try.prog 21 #[.int .i64 (N : Int), .slice A m c] w (GivesA ls 0 w) := by
  have HX := hide hx
  have HM := hide (dig_max hd hx)
  have HV := hide (vB_of hd)
  have HD := hide hd
  have HA := hide ha
  have HL := hide hl
  have hn := hd.le
  clear hx hd hl ha
  go_enter Try.func21, Try.ntmps21
  go_wp2_with fail
  refine (valid_any N A m c _ _ HX.out HM.out true HV.out).mono ?_
  rintro e w1 ⟨rfl, B⟩
  go_wp2_with fail
  refine (acyclic_any N A m c _ _ (HX.out.keep B) HM.out true HA.out).mono ?_
  rintro e w2 ⟨rfl, hb⟩
  have B := B.trans (hb.mono B.size)
  clear hb
  go_wp2_with fail
  refine (reached_any A m c N bs _ HD.out (HX.out.keep B)).mono ?_
  rintro e w3 ⟨rfl, hb⟩
  have B := B.trans (hb.mono B.size)
  clear hb
  obtain ⟨U, hU⟩ : ∃ U, war (adj bs) N = U := ⟨_, rfl⟩
  rw [hU] at HL ⊢
  clear hU
  obtain ⟨hb6, o6⟩ := boxO1 (rfl : w3.alloc (.cells _ 54) = _) noR zeros24
  have o6s := o6.setRow U
  have B6 := below_row (B.trans (hb6.mono B.size)) B.size (cR U)
  go_wp2_with (first | (refine wpList_store_row rfl 54 _ _ rfl (w3.heap.size) _ rfl rfl 54 _ o6.row (cR_info _) (by rw [cR_size, cR_size]) (cR_one _) ?_) | (refine wpList_load_row rfl 54 _ rfl (w3.heap.size) rfl 54 _ (0, 0) _ o6s.row Try.underlying54 rfl (cR_info _) ?_))
  generalize World.setRow _ _ _ = W6 at *
  have hge : w.heap.size ≤ w3.heap.size := B.size
  generalize w3.heap.size = g6 at *
  clear o6 B hb6
  refine (steps_any N U U _ hn).mono ?_
  rintro e w4 ⟨rfl, hb⟩
  have B := B6.trans (hb.mono B6.size)
  have o6 := o6s.below' hb
  clear hb o6s B6
  obtain ⟨F, hF⟩ : ∃ F, stp N U U = F := ⟨_, rfl⟩
  have HE := hide (show ∀ a b, a < N → mnJ U F N a b = red N U a b from fun a b h => by rw [← hF]; exact mnJ_end a b h)
  rw [hF]
  clear hF
  obtain ⟨hb7, o7⟩ := boxO1 (rfl : w4.alloc (.cells _ 54) = _) noR zeros24
  have hg6 := o6.lt
  have o6s := (o6.below' hb7).setOther (Nat.ne_of_lt hg6) (cR F)
  have o7s := o7.setRow F
  have B7 := below_row (B.trans (hb7.mono B.size)) B.size (cR F)
  go_wp2_with (first | (refine wpList_store_row rfl 54 _ _ rfl (w4.heap.size) _ rfl rfl 54 _ o7.row (cR_info _) (by rw [cR_size, cR_size]) (cR_one _) ?_))
  generalize World.setRow _ _ _ = W7 at *
  have hne : g6 ≠ w4.heap.size := Nat.ne_of_lt hg6
  generalize w4.heap.size = g7 at *
  clear o6 o7 B hb7 hg6
  rw [← mnJ_zero U F] at o6s
  go_loopw [25] (fun v25 wr => ∃ (i : Nat), i ≤ N ∧ v25 = .int .i64 ((i : Nat) : Int) ∧ Below w.heap.size w wr ∧ OR wr g6 (mnJ U F i) ∧ OR wr g7 F) (fun v25 _ => N - (RowKit.intOf v25).toNat)
  case atStart => exact ⟨0, by omega, rfl, B7, o6s, o7s⟩
  case round =>
    clear B7 o6s o7s
    obtain ⟨i, hi, rfl, B, o6, o7⟩ := hrel
    by_cases hlt : i < N
    · have hi24 : i < 24 := by omega
      have hin : (i : Int) < (N : Int) := by omega
      have i1 : (0 : Int) ≤ (i : Int) := by omega
      have i2 : (i : Int) < 24 := by omega
      have z2 := o6.cell hi24
      have z3 := o6.frozen i
      have z4 := o7.cell hi24
      go_wp2_with fail
      refine wp_region_still_tail 8 (by kernel_rfl) (by kernel_rfl) ?_
      simp only [List.take_succ_cons, List.take_zero, List.drop_succ_cons, List.drop_zero]
      iterate 8 still_step
      refine wpStill_nil ?_
      change wpList _ _ _ _ _ wr.drew
      go_wp2_with fail
      go_roundw
      case measure => simp [RowKit.intOf]; omega
      case rel =>
        exact ⟨i + 1, by omega, by go_num, (B.drew).setCell hge _, OR.put (R := mnJ U F i) o6.drew hi24 (fun a b h => mnJ_next h) (by
          rw [b_not]
          congr 1
          refine msk_ext fun j _ => ?_
          rw [mnJ_step, mnJ_at]), o7.drew.far (fun e => hne e.symm) _⟩
    · obtain rfl : i = N := by omega
      have d2 : decide ((i : Int) < (i : Int)) = false := decide_eq_false (by omega)
      go_wp2_with (first | (refine wpList_load_row rfl 54 _ rfl (g6) rfl 54 _ (0, 0) _ o6.row Try.underlying54 rfl (cR_info _) ?_))
      refine (list_any i (mnJ U F i) _ hn).mono ?_
      rintro e w9 ⟨⟨A3, c3, rfl, hr⟩, hb⟩
      have HLE := hide (show listR i (off (mnJ U F i)) = ls from by
        rw [← HL.out]
        exact listR_ext fun a b ha _ => by unfold off; rw [HE.out a b ha])
      rw [HLE.out] at hr ⊢
      have B := B.trans (hb.mono B.size)
      clear hb
      go_wp2_with fail
      refine bodyPost_ret (v := .tuple #[.slice A3 ls.length c3, .int .i64 0]) (by simp [results, Try.results21, go_sem]) rfl ?_
      exact ⟨⟨A3, c3, rfl, hr.yl, hr.le.1, hr.le.2⟩, B⟩
/-- what Reduction gives -/
def resR (n : Int) (l : List (Int × Int)) : List (Nat × Nat) × Int := if vB n l = true then (if acB n l = true then (listR n.toNat (off (red n.toNat (war (adj (l.map nA)) n.toNat))), 0) else ([], 11)) else ([], 1)
theorem resR_cases (n : Int) (l : List (Int × Int)) : (vB n l = false ∧ resR n l = ([], 1)) ∨ (vB n l = true ∧ acB n l = false ∧ resR n l = ([], 11)) ∨ ∃ (N : Nat) (bs : List (Nat × Nat)), n = (N : Int) ∧ l = bs.map zA ∧ Dig N bs ∧ acB n l = true ∧ resR n l = (listR N (off (red N (war (adj bs) N))), 0) := by
  unfold resR
  rcases hv : vB n l with _ | _
  · exact .inl ⟨rfl, rfl⟩
  · rcases ha : acB n l with _ | _
    · exact .inr (.inl ⟨rfl, rfl, rfl⟩)
    · obtain ⟨N, bs, rfl, rfl, hd⟩ := vB_true hv
      exact .inr (.inr ⟨N, bs, rfl, rfl, hd, rfl, by rw [if_pos rfl, if_pos rfl, nA_zA, Int.toNat_natCast]⟩)
theorem reduction_any (n : Int) (A : Option Addr) (m c : Nat) (l : List (Int × Int)) (w : World) (hx : YL w A m l) (hm : m ≤ maxLen) (ls : List (Nat × Nat)) (er : Int) (hr : resR n l = (ls, er)) :
    Calls Try.prog 21 #[.int .i64 n, .slice A m c] w (GivesA ls er w) := by
  rcases resR_cases n l with ⟨hv, h⟩ | ⟨hv, ha, h⟩ | ⟨N, bs, rfl, rfl, hd, ha, h⟩
  · rw [h] at hr
    cases hr
    exact red_v n A m c l w hx hm hv
  · rw [h] at hr
    cases hr
    exact red_c n A m c l w hx hm hv ha
  · rw [h] at hr
    cases hr
    exact red_y N A m c bs w hx hd ha _ rfl
end Go.Proofs.Ytgmdfaamheblmaa
