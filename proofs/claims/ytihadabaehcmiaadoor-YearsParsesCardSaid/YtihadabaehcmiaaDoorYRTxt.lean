/- The texts of years: the reference's. -/
import Derived.Test.YtihadabaehcmiaaDoorYText
import Derived.Test.YtihadabaehcmiaaDoorYRText
import Derived.Test.YtihadabaehcmiaaDoorYROf
namespace Go.Proofs.YtihadabaehcmiaaDoor
open Go Go.RowKit Go.Lib

theorem asc_dec : ∀ (f u : Nat), u < f → Lib.decDigits u = (asc u).map UInt8.ofNat
  | 0, u, h => by omega
  | f + 1, u, h => by
    by_cases h10 : u < 10
    · rw [Lib.decDigits, dif_pos h10, asc_small h10]
      rfl
    · have ih := asc_dec f (u / 10) (by omega)
      rw [Lib.decDigits, dif_neg h10, ih]
      unfold asc
      rw [show Lib.nDigits u = Lib.nDigits (u / 10) + 1 from by rw [Lib.nDigits, dif_neg h10], dec_succ, List.map_append]
      rfl
theorem str_asc (u : Nat) : strN (asc u) = strB (Lib.decDigits u) := by
  rw [asc_dec (u + 1) u (by omega)]
  rfl
set_option maxHeartbeats 2000000 in
theorem rnumber_pos (m : Nat) (w : World) (h0 : 0 < m) (h2 : m ≤ 9999) (S : ByteArray) (hS : strB (Lib.decDigits m) = S) :
    Calls Tryd.prog 38 #[.int .i64 (m : Int)] w fun e w' => e = .returned (.string S) ∧ Below w.heap.size w w' := by
  have hu : strN (asc m) = S := by rw [str_asc]; exact hS
  have HU := hide hu
  have hd : decide (0 < (m : Int)) = true := decide_eq_true (by omega)
  have hw : IntKind.u64.wrap (m : Int) = (m : Int) := by simp [IntKind.wrap, IntKind.bits, IntKind.signed]; omega
  have hl : (dig B9 m).length ≤ 1 := (dig_length_le B9 (by decide) 1 m).2 (by rw [Nat.pow_one]; show m < 1000000000; clear hw; omega)
  have HL := hide hl
  clear hS hu hl
  go_enter Tryd.func38, Tryd.ntmps38
  go_wp2_with fail
  refine (rof_any m _ (by omega)).mono ?_
  rintro e w1 ⟨A, n, c, rfl, hr, hn, hc, hb⟩
  have hln := hr.len
  go_wp2_with fail
  refine (rtext_g A n c _ _ hr hn hc (by have := HL.out; omega) (fun x hx => Nat.lt_trans (dig_lt B9 (by decide) m x hx) (by decide)) m (val_dig B9 (by decide) m) S HU.out).mono ?_
  rintro e w2 ⟨rfl, hb2⟩
  go_wp2_with fail
  go_ret
  exact ⟨rfl, hb.trans (hb2.mono hb.size)⟩
set_option maxHeartbeats 2000000 in
theorem rnumber_neg (n : Int) (m : Nat) (w : World) (h0 : n ≤ 0) (hm : 1 - n = (m : Int)) (h2 : m ≤ 10000) (S : ByteArray) (hS : strB (Lib.decDigits m) = S) :
    Calls Tryd.prog 38 #[.int .i64 n] w fun e w' => e = .returned (.string S) ∧ Below w.heap.size w w' := by
  obtain rfl : n = 1 - (m : Int) := by omega
  have hu : strN (asc m) = S := by rw [str_asc]; exact hS
  have HU := hide hu
  have hd : decide (0 < 1 - (m : Int)) = false := decide_eq_false (by omega)
  have hd2 : ¬ (0 < 1 - (m : Int)) := by omega
  have he : (1 : Int) - (1 - (m : Int)) = (m : Int) := by omega
  have hw : IntKind.u64.wrap (m : Int) = (m : Int) := by simp [IntKind.wrap, IntKind.bits, IntKind.signed]; omega
  have hl : (dig B9 m).length ≤ 1 := (dig_length_le B9 (by decide) 1 m).2 (by rw [Nat.pow_one]; show m < 1000000000; clear hw; omega)
  have HL := hide hl
  clear hS hu hl hm
  go_enter Tryd.func38, Tryd.ntmps38
  go_wp2_with fail
  refine (rof_any m _ (by omega)).mono ?_
  rintro e w1 ⟨A, n, c, rfl, hr, hn, hc, hb⟩
  have hln := hr.len
  go_wp2_with fail
  refine (rtext_g A n c _ _ hr hn hc (by have := HL.out; omega) (fun x hx => Nat.lt_trans (dig_lt B9 (by decide) m x hx) (by decide)) m (val_dig B9 (by decide) m) S HU.out).mono ?_
  rintro e w2 ⟨rfl, hb2⟩
  go_wp2_with fail
  go_ret
  exact ⟨rfl, hb.trans (hb2.mono hb.size)⟩
theorem rnumber_v (n : Int) (w : World) (h1 : -9999 ≤ n) (h2 : n ≤ 9999) (S : ByteArray) (hS : strB (numL n) = S) :
    Calls Tryd.prog 38 #[.int .i64 n] w fun e w' => e = .returned (.string S) ∧ Below w.heap.size w w' := by
  unfold numL at hS
  by_cases h : 0 < n
  · rw [if_pos h] at hS
    obtain ⟨m, rfl⟩ := Int.eq_ofNat_of_zero_le (show 0 ≤ n by omega)
    exact rnumber_pos m w (by omega) (by omega) S hS
  · rw [if_neg h] at hS
    exact rnumber_neg n (1 - n).toNat w (by omega) (by omega) (by omega) S hS
set_option maxHeartbeats 1000000 in
theorem rera_v (n : Int) (w : World) (E : ByteArray) (hE : strB (eraL n) = E) :
    Calls Tryd.prog 39 #[.int .i64 n] w fun e w' => e = .returned (.string E) ∧ w = w' := by
  subst hE
  unfold eraL
  by_cases h : 0 < n
  · rw [if_pos h]
    go_enter Tryd.func39, Tryd.ntmps39
    go_wp2
    go_ret
    exact ⟨rfl, rfl⟩
  · rw [if_neg h]
    have h : n ≤ 0 := by omega
    go_enter Tryd.func39, Tryd.ntmps39
    go_wp2
    go_ret
    exact ⟨rfl, rfl⟩
set_option maxHeartbeats 8000000 in
theorem rt_one (a : Int) (w : World) (h1 : -9999 ≤ a) (h3 : a ≤ 9999) (EL : ByteArray) (hEL : strB (eraL a) = EL) (S : ByteArray) (hS : strB (nameL a) = S) :
    Calls Tryd.prog 23 #[.agg #[.int .i64 a, .int .i64 a]] w fun e w' => e = .returned (.string S) ∧ Below w.heap.size w w' := by
  have HV := hide (yB_true.2 ⟨h1, Int.le_refl _, h3⟩)
  have s1 := numL_len a h1 h3
  have s2 := eraL_len a
  rw [← strB_size] at s1 s2
  rw [hEL] at s2
  have HS := hide (show strB (numL a) ++ EL = S from by rw [← hEL, strB_app]; exact hS)
  have EA := hide hEL
  have N1 := hide (fun (W : World) => rnumber_v a W h1 h3 _ rfl)
  generalize strB (numL a) = X at *
  have A1 := fun (W : World) => add_run X EL (by omega) W
  clear hS s1 s2 h1 h3 hEL
  go_enter Tryd.func23, Tryd.ntmps23
  go_wp2_with fail
  refine (rvalid_any _ _ _ true HV.out).mono ?_
  rintro e w1 ⟨rfl, hb1⟩
  obtain ⟨hc1, hf1⟩ := bcell hb1
  have z1 : w.heap.size < w1.heap.size := by have := hb1.size; simp at this; omega
  have e1 : w1.cell? ⟨w.heap.size, 0, none⟩ = some (.int .i64 a) := by rw [hc1 _ _ (by simp)]; simp [go_sem]
  have e2 : w1.cell? ⟨w.heap.size, 1, none⟩ = some (.int .i64 a) := by rw [hc1 _ _ (by simp)]; simp [go_sem]
  have hbA : Below w.heap.size w w1 := ((Below.refl _ _).alloc (Nat.le_refl _) _).trans (hb1.mono (by simp))
  clear hc1 hf1 hb1
  go_wp2_with fail
  obtain ⟨w2, hW2⟩ : ∃ w2, w2 = w1 := ⟨_, rfl⟩
  have hb2 : Below w1.heap.size w1 w2 := by rw [hW2]; exact Below.refl _ _
  rw [← hW2]
  clear hW2
  have z2 : w.heap.size < w2.heap.size := by have := hb2.size; omega
  have KS : Hid (∀ w', Below w2.heap.size w2 w' → w'.cell? ⟨w.heap.size, 0, none⟩ = some (.int .i64 a) ∧ w'.cell? ⟨w.heap.size, 1, none⟩ = some (.int .i64 a)) := fun w' h =>
    ⟨((h.cell (p := ⟨w.heap.size, 0, none⟩) z2).trans (hb2.cell (p := ⟨w.heap.size, 0, none⟩) z1)).trans e1, ((h.cell (p := ⟨w.heap.size, 1, none⟩) z2).trans (hb2.cell (p := ⟨w.heap.size, 1, none⟩) z1)).trans e2⟩
  have P0 : Below w2.heap.size w2 w2.drew := (Below.refl _ _).drew
  obtain ⟨k1, k2⟩ := KS.out _ (Below.refl _ _)
  have hbB := hbA.trans (hb2.mono hbA.size)
  clear e1 e2 hb2 hbA
  go_wp2_with fail
  go_region_held3 (fun w' => w'.cell? ⟨w.heap.size, 0, none⟩ = some (.int .i64 a) ∧ w'.cell? ⟨w.heap.size, 1, none⟩ = some (.int .i64 a))
    (first | with_reducible exact KS.out _ Em | with_reducible exact KS.out _ En | with_reducible exact KS.out _ P0 | with_reducible exact KS.out _ (Below.refl _ _))
    (first
      | (go_at_call_of 38 (Value.int .i64 a); (with_reducible refine (N1.out _).mono ?_); rintro e wn ⟨rfl, hxn⟩; have En : Below w2.heap.size w2 wn := (by first | with_reducible exact Em.trans (hxn.mono Em.size) | with_reducible exact P0.trans (hxn.mono P0.size)))
      | (go_at_call_of 39 (Value.int .i64 a); (with_reducible refine (rera_v a _ _ EA.out).mono ?_); rintro e wu ⟨rfl, rfl⟩))
  all_goals
    go_wp2_with fail
    go_ret
    refine ⟨ret_str HS.out, ?_⟩
    first
      | with_reducible exact hbB.trans (Em.mono hbB.size)
      | with_reducible exact hbB.trans (En.mono hbB.size)
set_option maxHeartbeats 8000000 in
theorem rt_ad (a b : Int) (w : World) (h1 : -9999 ≤ a) (h2 : a < b) (h3 : b ≤ 9999) (h5 : 0 < a) (S : ByteArray) (hS : strB (numL a ++ 45 :: nameL b) = S) :
    Calls Tryd.prog 23 #[.agg #[.int .i64 a, .int .i64 b]] w fun e w' => e = .returned (.string S) ∧ Below w.heap.size w w' := by
  have HV := hide (yB_true.2 ⟨h1, by omega, h3⟩)
  have EA := hide (show strB (eraL a) = ⟨#[32, 65, 68]⟩ from by unfold eraL; rw [if_pos (by omega)]; rfl)
  have EB := hide (show strB (eraL b) = ⟨#[32, 65, 68]⟩ from by unfold eraL; rw [if_pos (by omega)]; rfl)
  have s1 := numL_len a h1 (by omega)
  have s2 := numL_len b (by omega) h3
  rw [← strB_size] at s1 s2
  have HS := hide (show ((strB (numL a) ++ ⟨#[45]⟩) ++ strB (numL b)) ++ ⟨#[32, 65, 68]⟩ = S from by rw [← EB.out, show (⟨#[45]⟩ : ByteArray) = strB [45] from rfl]; simp only [strB_app]; rw [← hS]; unfold nameL; simp only [List.append_assoc, List.cons_append, List.nil_append])
  have N1 := hide (fun (W : World) => rnumber_v a W h1 (by omega) _ rfl)
  have N2 := hide (fun (W : World) => rnumber_v b W (by omega) h3 _ rfl)
  generalize strB (numL a) = X at *
  generalize strB (numL b) = Y at *
  have c1 : (⟨#[45]⟩ : ByteArray).size = 1 := rfl
  have c2 : (⟨#[32, 65, 68]⟩ : ByteArray).size = 3 := rfl
  have c3 : (⟨#[32, 66, 67]⟩ : ByteArray).size = 3 := rfl
  have A1 := fun (W : World) => add_run X ⟨#[45]⟩ (by (try simp only [ByteArray.size_append]); omega) W
  have A2 := fun (W : World) => add_run (X ++ ⟨#[45]⟩) Y (by (try simp only [ByteArray.size_append]); omega) W
  have A3 := fun (W : World) => add_run ((X ++ ⟨#[45]⟩) ++ Y) ⟨#[32, 65, 68]⟩ (by (try simp only [ByteArray.size_append]); omega) W
  have ne : (a == b) = false := beq_eq_false_iff_ne.2 (by omega)
  clear hS h5 s1 s2 c1 c2 c3 h1 h2 h3
  go_enter Tryd.func23, Tryd.ntmps23
  go_wp2_with fail
  refine (rvalid_any _ _ _ true HV.out).mono ?_
  rintro e w1 ⟨rfl, hb1⟩
  obtain ⟨hc1, hf1⟩ := bcell hb1
  have z1 : w.heap.size < w1.heap.size := by have := hb1.size; simp at this; omega
  have e1 : w1.cell? ⟨w.heap.size, 0, none⟩ = some (.int .i64 a) := by rw [hc1 _ _ (by simp)]; simp [go_sem]
  have e2 : w1.cell? ⟨w.heap.size, 1, none⟩ = some (.int .i64 b) := by rw [hc1 _ _ (by simp)]; simp [go_sem]
  have hbA : Below w.heap.size w w1 := ((Below.refl _ _).alloc (Nat.le_refl _) _).trans (hb1.mono (by simp))
  clear hc1 hf1 hb1
  go_wp2_with fail
  go_quiet ((first | (go_at_call_of 39 (Value.int .i64 a); exact Calls.quiet_of_same ((rera_v a _ _ EA.out).mono fun _ _ h => ⟨h.1, h.2.symm⟩)) | (go_at_call_of 39 (Value.int .i64 b); exact Calls.quiet_of_same ((rera_v b _ _ EB.out).mono fun _ _ h => ⟨h.1, h.2.symm⟩))))
  generalize hW2 : w1.drewN _ = w2
  have hb2 : Below w1.heap.size w1 w2 := by rw [← hW2]; exact below_drewN (Below.refl _ _) _
  clear hW2
  have z2 : w.heap.size < w2.heap.size := by have := hb2.size; omega
  have KS : Hid (∀ w', Below w2.heap.size w2 w' → w'.cell? ⟨w.heap.size, 0, none⟩ = some (.int .i64 a) ∧ w'.cell? ⟨w.heap.size, 1, none⟩ = some (.int .i64 b)) := fun w' h =>
    ⟨((h.cell (p := ⟨w.heap.size, 0, none⟩) z2).trans (hb2.cell (p := ⟨w.heap.size, 0, none⟩) z1)).trans e1, ((h.cell (p := ⟨w.heap.size, 1, none⟩) z2).trans (hb2.cell (p := ⟨w.heap.size, 1, none⟩) z1)).trans e2⟩
  have P0 : Below w2.heap.size w2 w2.drew := (Below.refl _ _).drew
  obtain ⟨k1, k2⟩ := KS.out _ (Below.refl _ _)
  have hbB := hbA.trans (hb2.mono hbA.size)
  clear e1 e2 hb2 hbA
  go_wp2_with fail
  go_region_held3 (fun w' => w'.cell? ⟨w.heap.size, 0, none⟩ = some (.int .i64 a) ∧ w'.cell? ⟨w.heap.size, 1, none⟩ = some (.int .i64 b))
    (first | with_reducible exact KS.out _ Em | with_reducible exact KS.out _ En | with_reducible exact KS.out _ P0 | with_reducible exact KS.out _ (Below.refl _ _))
    (first
      | (go_at_call_of 38 (Value.int .i64 a); (with_reducible refine (N1.out _).mono ?_); rintro e wn ⟨rfl, hxn⟩; have En : Below w2.heap.size w2 wn := (by first | with_reducible exact Em.trans (hxn.mono Em.size) | with_reducible exact P0.trans (hxn.mono P0.size)))
      | (go_at_call_of 38 (Value.int .i64 b); (with_reducible refine (N2.out _).mono ?_); rintro e wm ⟨rfl, hxm⟩; have Em : Below w2.heap.size w2 wm := (by first | with_reducible exact En.trans (hxm.mono En.size) | with_reducible exact P0.trans (hxm.mono P0.size)))
      | (go_at_call_of 39 (Value.int .i64 b); (with_reducible refine (rera_v b _ _ EB.out).mono ?_); rintro e wu ⟨rfl, rfl⟩)
      | (go_at_call_of 39 (Value.int .i64 a); (with_reducible refine (rera_v a _ _ EA.out).mono ?_); rintro e wu ⟨rfl, rfl⟩))
  all_goals
    go_wp2_with fail
    go_ret
    refine ⟨ret_str HS.out, ?_⟩
    first
      | with_reducible exact hbB.trans (Em.mono hbB.size)
      | with_reducible exact hbB.trans (En.mono hbB.size)
set_option maxHeartbeats 8000000 in
theorem rt_bc (a b : Int) (w : World) (h1 : -9999 ≤ a) (h2 : a < b) (h3 : b ≤ 9999) (h5 : b ≤ 0) (S : ByteArray) (hS : strB (numL a ++ 45 :: nameL b) = S) :
    Calls Tryd.prog 23 #[.agg #[.int .i64 a, .int .i64 b]] w fun e w' => e = .returned (.string S) ∧ Below w.heap.size w w' := by
  have HV := hide (yB_true.2 ⟨h1, by omega, h3⟩)
  have EA := hide (show strB (eraL a) = ⟨#[32, 66, 67]⟩ from by unfold eraL; rw [if_neg (by omega)]; rfl)
  have EB := hide (show strB (eraL b) = ⟨#[32, 66, 67]⟩ from by unfold eraL; rw [if_neg (by omega)]; rfl)
  have s1 := numL_len a h1 (by omega)
  have s2 := numL_len b (by omega) h3
  rw [← strB_size] at s1 s2
  have HS := hide (show ((strB (numL a) ++ ⟨#[45]⟩) ++ strB (numL b)) ++ ⟨#[32, 66, 67]⟩ = S from by rw [← EB.out, show (⟨#[45]⟩ : ByteArray) = strB [45] from rfl]; simp only [strB_app]; rw [← hS]; unfold nameL; simp only [List.append_assoc, List.cons_append, List.nil_append])
  have N1 := hide (fun (W : World) => rnumber_v a W h1 (by omega) _ rfl)
  have N2 := hide (fun (W : World) => rnumber_v b W (by omega) h3 _ rfl)
  generalize strB (numL a) = X at *
  generalize strB (numL b) = Y at *
  have c1 : (⟨#[45]⟩ : ByteArray).size = 1 := rfl
  have c2 : (⟨#[32, 65, 68]⟩ : ByteArray).size = 3 := rfl
  have c3 : (⟨#[32, 66, 67]⟩ : ByteArray).size = 3 := rfl
  have A1 := fun (W : World) => add_run X ⟨#[45]⟩ (by (try simp only [ByteArray.size_append]); omega) W
  have A2 := fun (W : World) => add_run (X ++ ⟨#[45]⟩) Y (by (try simp only [ByteArray.size_append]); omega) W
  have A3 := fun (W : World) => add_run ((X ++ ⟨#[45]⟩) ++ Y) ⟨#[32, 66, 67]⟩ (by (try simp only [ByteArray.size_append]); omega) W
  have ne : (a == b) = false := beq_eq_false_iff_ne.2 (by omega)
  clear hS h5 s1 s2 c1 c2 c3 h1 h2 h3
  go_enter Tryd.func23, Tryd.ntmps23
  go_wp2_with fail
  refine (rvalid_any _ _ _ true HV.out).mono ?_
  rintro e w1 ⟨rfl, hb1⟩
  obtain ⟨hc1, hf1⟩ := bcell hb1
  have z1 : w.heap.size < w1.heap.size := by have := hb1.size; simp at this; omega
  have e1 : w1.cell? ⟨w.heap.size, 0, none⟩ = some (.int .i64 a) := by rw [hc1 _ _ (by simp)]; simp [go_sem]
  have e2 : w1.cell? ⟨w.heap.size, 1, none⟩ = some (.int .i64 b) := by rw [hc1 _ _ (by simp)]; simp [go_sem]
  have hbA : Below w.heap.size w w1 := ((Below.refl _ _).alloc (Nat.le_refl _) _).trans (hb1.mono (by simp))
  clear hc1 hf1 hb1
  go_wp2_with fail
  go_quiet ((first | (go_at_call_of 39 (Value.int .i64 a); exact Calls.quiet_of_same ((rera_v a _ _ EA.out).mono fun _ _ h => ⟨h.1, h.2.symm⟩)) | (go_at_call_of 39 (Value.int .i64 b); exact Calls.quiet_of_same ((rera_v b _ _ EB.out).mono fun _ _ h => ⟨h.1, h.2.symm⟩))))
  generalize hW2 : w1.drewN _ = w2
  have hb2 : Below w1.heap.size w1 w2 := by rw [← hW2]; exact below_drewN (Below.refl _ _) _
  clear hW2
  have z2 : w.heap.size < w2.heap.size := by have := hb2.size; omega
  have KS : Hid (∀ w', Below w2.heap.size w2 w' → w'.cell? ⟨w.heap.size, 0, none⟩ = some (.int .i64 a) ∧ w'.cell? ⟨w.heap.size, 1, none⟩ = some (.int .i64 b)) := fun w' h =>
    ⟨((h.cell (p := ⟨w.heap.size, 0, none⟩) z2).trans (hb2.cell (p := ⟨w.heap.size, 0, none⟩) z1)).trans e1, ((h.cell (p := ⟨w.heap.size, 1, none⟩) z2).trans (hb2.cell (p := ⟨w.heap.size, 1, none⟩) z1)).trans e2⟩
  have P0 : Below w2.heap.size w2 w2.drew := (Below.refl _ _).drew
  obtain ⟨k1, k2⟩ := KS.out _ (Below.refl _ _)
  have hbB := hbA.trans (hb2.mono hbA.size)
  clear e1 e2 hb2 hbA
  go_wp2_with fail
  go_region_held3 (fun w' => w'.cell? ⟨w.heap.size, 0, none⟩ = some (.int .i64 a) ∧ w'.cell? ⟨w.heap.size, 1, none⟩ = some (.int .i64 b))
    (first | with_reducible exact KS.out _ Em | with_reducible exact KS.out _ En | with_reducible exact KS.out _ P0 | with_reducible exact KS.out _ (Below.refl _ _))
    (first
      | (go_at_call_of 38 (Value.int .i64 a); (with_reducible refine (N1.out _).mono ?_); rintro e wn ⟨rfl, hxn⟩; have En : Below w2.heap.size w2 wn := (by first | with_reducible exact Em.trans (hxn.mono Em.size) | with_reducible exact P0.trans (hxn.mono P0.size)))
      | (go_at_call_of 38 (Value.int .i64 b); (with_reducible refine (N2.out _).mono ?_); rintro e wm ⟨rfl, hxm⟩; have Em : Below w2.heap.size w2 wm := (by first | with_reducible exact En.trans (hxm.mono En.size) | with_reducible exact P0.trans (hxm.mono P0.size)))
      | (go_at_call_of 39 (Value.int .i64 b); (with_reducible refine (rera_v b _ _ EB.out).mono ?_); rintro e wu ⟨rfl, rfl⟩)
      | (go_at_call_of 39 (Value.int .i64 a); (with_reducible refine (rera_v a _ _ EA.out).mono ?_); rintro e wu ⟨rfl, rfl⟩))
  all_goals
    go_wp2_with fail
    go_ret
    refine ⟨ret_str HS.out, ?_⟩
    first
      | with_reducible exact hbB.trans (Em.mono hbB.size)
      | with_reducible exact hbB.trans (En.mono hbB.size)
set_option maxHeartbeats 8000000 in
theorem rt_mix (a b : Int) (w : World) (h1 : -9999 ≤ a) (h2 : a < b) (h3 : b ≤ 9999) (h5 : a ≤ 0) (h6 : 0 < b) (S : ByteArray) (hS : strB (nameL a ++ 45 :: nameL b) = S) :
    Calls Tryd.prog 23 #[.agg #[.int .i64 a, .int .i64 b]] w fun e w' => e = .returned (.string S) ∧ Below w.heap.size w w' := by
  have HV := hide (yB_true.2 ⟨h1, by omega, h3⟩)
  have EA := hide (show strB (eraL a) = ⟨#[32, 66, 67]⟩ from by unfold eraL; rw [if_neg (by omega)]; rfl)
  have EB := hide (show strB (eraL b) = ⟨#[32, 65, 68]⟩ from by unfold eraL; rw [if_pos (by omega)]; rfl)
  have s1 := numL_len a h1 (by omega)
  have s2 := numL_len b (by omega) h3
  rw [← strB_size] at s1 s2
  have HS := hide (show (((strB (numL a) ++ ⟨#[32, 66, 67]⟩) ++ ⟨#[45]⟩) ++ strB (numL b)) ++ ⟨#[32, 65, 68]⟩ = S from by rw [← EB.out, ← EA.out, show (⟨#[45]⟩ : ByteArray) = strB [45] from rfl]; simp only [strB_app]; rw [← hS]; unfold nameL; simp only [List.append_assoc, List.cons_append, List.nil_append])
  have N1 := hide (fun (W : World) => rnumber_v a W h1 (by omega) _ rfl)
  have N2 := hide (fun (W : World) => rnumber_v b W (by omega) h3 _ rfl)
  generalize strB (numL a) = X at *
  generalize strB (numL b) = Y at *
  have c1 : (⟨#[45]⟩ : ByteArray).size = 1 := rfl
  have c2 : (⟨#[32, 65, 68]⟩ : ByteArray).size = 3 := rfl
  have c3 : (⟨#[32, 66, 67]⟩ : ByteArray).size = 3 := rfl
  have A1 := fun (W : World) => add_run X ⟨#[32, 66, 67]⟩ (by (try simp only [ByteArray.size_append]); omega) W
  have A2 := fun (W : World) => add_run (X ++ ⟨#[32, 66, 67]⟩) ⟨#[45]⟩ (by (try simp only [ByteArray.size_append]); omega) W
  have A3 := fun (W : World) => add_run ((X ++ ⟨#[32, 66, 67]⟩) ++ ⟨#[45]⟩) Y (by (try simp only [ByteArray.size_append]); omega) W
  have A4 := fun (W : World) => add_run (((X ++ ⟨#[32, 66, 67]⟩) ++ ⟨#[45]⟩) ++ Y) ⟨#[32, 65, 68]⟩ (by (try simp only [ByteArray.size_append]); omega) W
  have ne : (a == b) = false := beq_eq_false_iff_ne.2 (by omega)
  clear hS h5 h6 s1 s2 c1 c2 c3 h1 h2 h3
  go_enter Tryd.func23, Tryd.ntmps23
  go_wp2_with fail
  refine (rvalid_any _ _ _ true HV.out).mono ?_
  rintro e w1 ⟨rfl, hb1⟩
  obtain ⟨hc1, hf1⟩ := bcell hb1
  have z1 : w.heap.size < w1.heap.size := by have := hb1.size; simp at this; omega
  have e1 : w1.cell? ⟨w.heap.size, 0, none⟩ = some (.int .i64 a) := by rw [hc1 _ _ (by simp)]; simp [go_sem]
  have e2 : w1.cell? ⟨w.heap.size, 1, none⟩ = some (.int .i64 b) := by rw [hc1 _ _ (by simp)]; simp [go_sem]
  have hbA : Below w.heap.size w w1 := ((Below.refl _ _).alloc (Nat.le_refl _) _).trans (hb1.mono (by simp))
  clear hc1 hf1 hb1
  go_wp2_with fail
  go_quiet ((first | (go_at_call_of 39 (Value.int .i64 a); exact Calls.quiet_of_same ((rera_v a _ _ EA.out).mono fun _ _ h => ⟨h.1, h.2.symm⟩)) | (go_at_call_of 39 (Value.int .i64 b); exact Calls.quiet_of_same ((rera_v b _ _ EB.out).mono fun _ _ h => ⟨h.1, h.2.symm⟩))))
  generalize hW2 : w1.drewN _ = w2
  have hb2 : Below w1.heap.size w1 w2 := by rw [← hW2]; exact below_drewN (Below.refl _ _) _
  clear hW2
  have z2 : w.heap.size < w2.heap.size := by have := hb2.size; omega
  have KS : Hid (∀ w', Below w2.heap.size w2 w' → w'.cell? ⟨w.heap.size, 0, none⟩ = some (.int .i64 a) ∧ w'.cell? ⟨w.heap.size, 1, none⟩ = some (.int .i64 b)) := fun w' h =>
    ⟨((h.cell (p := ⟨w.heap.size, 0, none⟩) z2).trans (hb2.cell (p := ⟨w.heap.size, 0, none⟩) z1)).trans e1, ((h.cell (p := ⟨w.heap.size, 1, none⟩) z2).trans (hb2.cell (p := ⟨w.heap.size, 1, none⟩) z1)).trans e2⟩
  have P0 : Below w2.heap.size w2 w2.drew := (Below.refl _ _).drew
  obtain ⟨k1, k2⟩ := KS.out _ (Below.refl _ _)
  have hbB := hbA.trans (hb2.mono hbA.size)
  clear e1 e2 hb2 hbA
  go_wp2_with fail
  go_region_held3 (fun w' => w'.cell? ⟨w.heap.size, 0, none⟩ = some (.int .i64 a) ∧ w'.cell? ⟨w.heap.size, 1, none⟩ = some (.int .i64 b))
    (first | with_reducible exact KS.out _ Em | with_reducible exact KS.out _ En | with_reducible exact KS.out _ P0 | with_reducible exact KS.out _ (Below.refl _ _))
    (first
      | (go_at_call_of 38 (Value.int .i64 a); (with_reducible refine (N1.out _).mono ?_); rintro e wn ⟨rfl, hxn⟩; have En : Below w2.heap.size w2 wn := (by first | with_reducible exact Em.trans (hxn.mono Em.size) | with_reducible exact P0.trans (hxn.mono P0.size)))
      | (go_at_call_of 38 (Value.int .i64 b); (with_reducible refine (N2.out _).mono ?_); rintro e wm ⟨rfl, hxm⟩; have Em : Below w2.heap.size w2 wm := (by first | with_reducible exact En.trans (hxm.mono En.size) | with_reducible exact P0.trans (hxm.mono P0.size)))
      | (go_at_call_of 39 (Value.int .i64 b); (with_reducible refine (rera_v b _ _ EB.out).mono ?_); rintro e wu ⟨rfl, rfl⟩)
      | (go_at_call_of 39 (Value.int .i64 a); (with_reducible refine (rera_v a _ _ EA.out).mono ?_); rintro e wu ⟨rfl, rfl⟩))
  all_goals
    go_wp2_with fail
    go_ret
    refine ⟨ret_str HS.out, ?_⟩
    first
      | with_reducible exact hbB.trans (Em.mono hbB.size)
      | with_reducible exact hbB.trans (En.mono hbB.size)
set_option maxHeartbeats 1000000 in
theorem rt_no (a b : Int) (w : World) (h1 : yB a b = false) :
    Calls Tryd.prog 23 #[.agg #[.int .i64 a, .int .i64 b]] w fun e w' => e = .returned (.string ⟨#[]⟩) ∧ Below w.heap.size w w' := by
  have HV := hide h1
  clear h1
  go_enter Tryd.func23, Tryd.ntmps23
  go_wp2_with fail
  refine (rvalid_any _ _ _ false HV.out).mono ?_
  rintro e w1 ⟨rfl, hb1⟩
  go_wp2_with fail
  go_ret
  exact ⟨rfl, ((Below.refl _ _).alloc (Nat.le_refl _) _).trans (hb1.mono (by simp))⟩
theorem rtxt_v (a b : Int) (w : World) (S : ByteArray) (hS : txt a b = S) :
    Calls Tryd.prog 23 #[.agg #[.int .i64 a, .int .i64 b]] w fun e w' => e = .returned (.string S) ∧ Below w.heap.size w w' := by
  subst hS
  unfold txt
  rcases Bool.eq_false_or_eq_true (yB a b) with h | h
  · rw [h]
    obtain ⟨h1, h2, h3⟩ := yB_true.1 h
    show Calls _ _ _ _ fun e w' => e = .returned (.string (strB (textL a b))) ∧ _
    unfold textL
    by_cases hab : a = b
    · subst hab
      rw [if_pos rfl]
      exact rt_one a w h1 h3 _ rfl _ rfl
    · rw [if_neg hab]
      by_cases h5 : 0 < a
      · rw [if_pos (Or.inl h5)]
        exact rt_ad a b w h1 (by omega) h3 h5 _ rfl
      · by_cases h6 : b ≤ 0
        · rw [if_pos (Or.inr h6)]
          exact rt_bc a b w h1 (by omega) h3 h6 _ rfl
        · rw [if_neg (by omega)]
          exact rt_mix a b w h1 (by omega) h3 (by omega) (by omega) _ rfl
  · rw [h]
    exact rt_no a b w h
end Go.Proofs.YtihadabaehcmiaaDoor
