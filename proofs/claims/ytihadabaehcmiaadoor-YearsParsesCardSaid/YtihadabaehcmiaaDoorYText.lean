/- The texts of years: the program's. -/
import Derived.Test.YtihadabaehcmiaaDoorShelf
import Derived.Test.YtihadabaehcmiaaDoorYVal
import Derived.WalkSmall
import Derived.Deep.RegionHeld3
namespace Go.Proofs.YtihadabaehcmiaaDoor
open Go Go.RowKit Go.Lib

theorem gPow : Tryd.prog.globalNamed "internal/strconv.uint64pow10" = some 3 := by kernel_rfl
theorem gSyn : Tryd.prog.globalNamed "strconv.ErrSyntax" = some 1 := by kernel_rfl
theorem gRng : Tryd.prog.globalNamed "strconv.ErrRange" = some 2 := by kernel_rfl
/-- what the row gives of a world: the library's variables -/
structure Lw (w : World) : Prop where
  tab : Lib.TabIs Tryd.prog w "internal/strconv.uint64pow10" .u64 Lib.pow10Tab
  syn : ∃ tp p, w.var? Tryd.prog "strconv.ErrSyntax" = some #[.iface tp p]
  rng : ∃ tp p, w.var? Tryd.prog "strconv.ErrRange" = some #[.iface tp p]
  big : ∃ m : Int, w.cell? ⟨0, 0, none⟩ = some (.int .i64 m)
theorem var_lt {w : World} {n : String} {g : Nat} {cs : Array Value} (hg : Tryd.prog.globalNamed n = some g) (h : w.var? Tryd.prog n = some cs) : g < w.heap.size := by
  unfold World.var? at h
  rw [hg] at h
  rcases Nat.lt_or_ge g w.heap.size with h1 | h1
  · exact h1
  · simp [Array.getElem?_eq_none h1] at h
theorem Lw.below {w w' : World} (h : Lw w) (hb : Below w.heap.size w w') : Lw w' := by
  obtain ⟨h1, ⟨t2, p2, h2⟩, ⟨t3, p3, h3⟩, m, h4⟩ := h
  exact ⟨var?_below hb gPow (var_lt gPow h1) h1, ⟨t2, p2, var?_below hb gSyn (var_lt gSyn h2) h2⟩, ⟨t3, p3, var?_below hb gRng (var_lt gRng h3) h3⟩, ⟨m, (hb.cell (p := ⟨0, 0, none⟩) (World.block_lt_of_cell? w ⟨0, 0, none⟩ h4)).trans h4⟩⟩
theorem grow_below (w : World) (k : Nat) (os : Array Obj) : Below w.heap.size w (Go.Sort.grow (w.drewN k) os) := by
  refine ⟨rfl, rfl, rfl, by simp [Go.Sort.grow], fun i hi => ?_⟩
  exact Go.Sort.heap_grow_old _ _ (by simpa using hi)

def strB (l : List UInt8) : ByteArray := ⟨l.toArray⟩
theorem strB_size (l : List UInt8) : (strB l).size = l.length := by simp [strB, ByteArray.size]
theorem strB_app (l m : List UInt8) : strB l ++ strB m = strB (l ++ m) := by
  unfold strB
  apply ByteArray.ext
  simp
def eraL (n : Int) : List UInt8 := if 0 < n then [32, 65, 68] else [32, 66, 67]
def numL (n : Int) : List UInt8 := Lib.decDigits (if 0 < n then n else 1 - n).toNat
def nameL (n : Int) : List UInt8 := numL n ++ eraL n
def textL (a b : Int) : List UInt8 := if a = b then nameL b else if 0 < a ∨ b ≤ 0 then numL a ++ (45 :: nameL b) else nameL a ++ (45 :: nameL b)
theorem eraL_len (n : Int) : (eraL n).length = 3 := by unfold eraL; split <;> rfl
theorem dec_len4 : ∀ (f u : Nat), u < 10 ^ f → (Lib.decDigits u).length ≤ f + 1
  | 0, u, h => by
    have : u = 0 := by omega
    subst this
    rw [Lib.decDigits]
    simp
  | f + 1, u, h => by
    rw [Lib.decDigits]
    split
    · simp
    · have := dec_len4 f (u / 10) (by rw [Nat.pow_succ] at h; omega)
      simp only [List.length_append, List.length_cons, List.length_nil]
      omega
theorem numL_len (n : Int) (h1 : -9999 ≤ n) (h2 : n ≤ 9999) : (numL n).length ≤ 6 := by
  unfold numL
  exact dec_len4 5 _ (by split <;> omega)
theorem nameL_len (n : Int) (h1 : -9999 ≤ n) (h2 : n ≤ 9999) : (nameL n).length ≤ 9 := by
  unfold nameL
  have := numL_len n h1 h2
  have := eraL_len n
  rw [List.length_append]
  omega

theorem ret_str {a b : ByteArray} (h : a = b) : Ending.returned (.string a) = .returned (.string b) := by rw [h]
theorem add_run (X Y : ByteArray) (h : X.size + Y.size ≤ 1000) (W : World) : (Op.stringOp .add X Y).run Tryd.prog W = .ok (.string (X ++ Y)) W := by
  simp [Op.stringOp, go_sem]
  try omega
set_option maxHeartbeats 1000000 in
theorem era_v (n : Int) (w : World) (E : ByteArray) (hE : strB (eraL n) = E) :
    Calls Tryd.prog 34 #[.int .i64 n] w fun e w' => e = .returned (.string E) ∧ w = w' := by
  subst hE
  unfold eraL
  by_cases h : 0 < n
  · rw [if_pos h]
    go_enter Tryd.func34, Tryd.ntmps34
    go_wp2
    go_ret
    exact ⟨rfl, rfl⟩
  · rw [if_neg h]
    have h : n ≤ 0 := by omega
    go_enter Tryd.func34, Tryd.ntmps34
    go_wp2
    go_ret
    exact ⟨rfl, rfl⟩
set_option maxHeartbeats 1000000 in
theorem number_v (n : Int) (w : World) (hT : Lw w) (h1 : -9999 ≤ n) (h2 : n ≤ 9999) (S : ByteArray) (hS : strB (numL n) = S) :
    Calls Tryd.prog 35 #[.int .i64 n] w fun e w' => e = .returned (.string S) ∧ Below w.heap.size w w' := by
  subst hS
  unfold numL
  by_cases h : 0 < n
  · rw [if_pos h]
    have HC := hide (Tryd.strconv_Itoa n (by omega) (by omega) w hT.tab)
    have e : Lib.itoa n = Lib.decDigits n.toNat := by unfold Lib.itoa; rw [if_neg (by omega)]
    have HE := hide e
    clear hT e
    go_enter Tryd.func35, Tryd.ntmps35
    go_wp2_with fail
    refine HC.out.mono ?_
    rintro e w' ⟨rfl, k, os, rfl⟩
    go_wp2
    go_ret
    exact ⟨by rw [← HE.out]; rfl, grow_below _ _ _⟩
  · rw [if_neg h]
    have h : n ≤ 0 := by omega
    have HC := hide (Tryd.strconv_Itoa (1 - n) (by omega) (by omega) w hT.tab)
    have e : Lib.itoa (1 - n) = Lib.decDigits (1 - n).toNat := by unfold Lib.itoa; rw [if_neg (by omega)]
    have HE := hide e
    clear hT e
    go_enter Tryd.func35, Tryd.ntmps35
    go_wp2_with fail
    refine HC.out.mono ?_
    rintro e w' ⟨rfl, k, os, rfl⟩
    go_wp2
    go_ret
    exact ⟨by rw [← HE.out]; rfl, grow_below _ _ _⟩
set_option maxHeartbeats 1000000 in
theorem name_v (n : Int) (w : World) (hT : Lw w) (h1 : -9999 ≤ n) (h2 : n ≤ 9999) (S : ByteArray) (hS : strB (nameL n) = S) :
    Calls Tryd.prog 33 #[.int .i64 n] w fun e w' => e = .returned (.string S) ∧ Below w.heap.size w w' := by
  have HN := number_v n w hT h1 h2 _ rfl
  have s1 := numL_len n h1 h2
  have s2 := eraL_len n
  rw [← strB_size] at s1 s2
  have HE := hide (fun W => era_v n W _ rfl)
  have HS := hide (show strB (numL n) ++ strB (eraL n) = S from by rw [strB_app]; exact hS)
  generalize strB (numL n) = N at *
  generalize strB (eraL n) = E at *
  have hs : N.size + E.size ≤ 9 := by omega
  have HN := hide HN
  clear hS hT s1 s2
  go_enter Tryd.func33, Tryd.ntmps33
  go_wp2_with fail
  refine HN.out.mono ?_
  rintro e w1 ⟨rfl, hb⟩
  go_wp2_with fail
  refine (HE.out _).mono ?_
  rintro e w2 ⟨rfl, rfl⟩
  go_wp2
  go_ret
  exact ⟨ret_str HS.out, hb⟩
set_option maxHeartbeats 4000000 in
theorem text_ad (a b : Int) (w : World) (hT : Lw w) (h1 : -9999 ≤ a) (h2 : a < b) (h3 : b ≤ 9999) (h5 : 0 < a) (S : ByteArray) (hS : strB (numL a ++ 45 :: nameL b) = S) :
    Calls Tryd.prog 21 #[.agg #[.int .i64 a, .int .i64 b]] w fun e w' => e = .returned (.string S) ∧ Below w.heap.size w w' := by
  have h4 : b ≠ a := by omega
  have HV := hide (yB_true.2 ⟨h1, by omega, h3⟩)
  have HT := hide hT
  have HB1 := hide (show -9999 ≤ a ∧ a ≤ 9999 from by omega)
  have HB2 := hide (show -9999 ≤ b ∧ b ≤ 9999 from by omega)
  have EA := hide (show strB (eraL a) = ⟨#[32, 65, 68]⟩ from by unfold eraL; rw [if_pos h5]; rfl)
  have EB := hide (show strB (eraL b) = ⟨#[32, 65, 68]⟩ from by unfold eraL; rw [if_pos (by omega)]; rfl)
  have s1 := numL_len a h1 (by omega)
  have s2 := nameL_len b (by omega) h3
  rw [← strB_size] at s1 s2
  have HS := hide (show (strB (numL a) ++ ⟨#[45]⟩) ++ strB (nameL b) = S from by rw [show (⟨#[45]⟩ : ByteArray) = strB [45] from rfl, strB_app, strB_app, List.append_assoc]; exact hS)
  have N1 := hide (fun (W : World) (h : Lw W) => number_v a W h h1 (by omega) _ rfl)
  have N2 := hide (fun (W : World) (h : Lw W) => name_v b W h (by omega) h3 _ rfl)
  generalize strB (numL a) = X at *
  generalize strB (nameL b) = Y at *
  have c0 : (⟨#[45]⟩ : ByteArray).size = 1 := rfl
  have c1 : X.size + (⟨#[45]⟩ : ByteArray).size ≤ 20 := by omega
  have c2 : (X ++ (⟨#[45]⟩ : ByteArray)).size ≤ 20 := by rw [ByteArray.size_append]; omega
  have c3 : (X ++ (⟨#[45]⟩ : ByteArray)).size + Y.size ≤ 40 := by omega
  have A1 := fun (W : World) => add_run X ⟨#[45]⟩ (by omega) W
  have A2 := fun (W : World) => add_run (X ++ ⟨#[45]⟩) Y (by omega) W
  have ne : (a == b) = false := beq_eq_false_iff_ne.2 (by omega)
  clear hS hT h4 h5 s1 s2 c0
  go_enter Tryd.func21, Tryd.ntmps21
  go_wp2_with fail
  refine (valid_any _ _ _ true HV.out).mono ?_
  rintro e w1 ⟨rfl, hb1⟩
  obtain ⟨hc1, hf1⟩ := bcell hb1
  have z1 : w.heap.size < w1.heap.size := by have := hb1.size; simp at this; omega
  have e1 : w1.cell? ⟨w.heap.size, 0, none⟩ = some (.int .i64 a) := by rw [hc1 _ _ (by simp)]; simp [go_sem]
  have e2 : w1.cell? ⟨w.heap.size, 1, none⟩ = some (.int .i64 b) := by rw [hc1 _ _ (by simp)]; simp [go_sem]
  have hbA : Below w.heap.size w w1 := ((Below.refl _ _).alloc (Nat.le_refl _) _).trans (hb1.mono (by simp))
  clear hc1 hf1 hb1
  go_wp2_with fail
  go_quiet ((first | (go_at_call_of 34 (Value.int .i64 a); exact Calls.quiet_of_same ((era_v a _ _ EA.out).mono fun _ _ h => ⟨h.1, h.2.symm⟩)) | (go_at_call_of 34 (Value.int .i64 b); exact Calls.quiet_of_same ((era_v b _ _ EB.out).mono fun _ _ h => ⟨h.1, h.2.symm⟩))))
  generalize hW2 : w1.drewN _ = w2
  have hb2 : Below w1.heap.size w1 w2 := by rw [← hW2]; exact below_drewN (Below.refl _ _) _
  clear hW2
  have HT2 := hide (HT.out.below (hbA.trans (hb2.mono hbA.size)))
  have z2 : w.heap.size < w2.heap.size := by have := hb2.size; omega
  have KS : Hid (∀ w', Below w2.heap.size w2 w' → w'.cell? ⟨w.heap.size, 0, none⟩ = some (.int .i64 a) ∧ w'.cell? ⟨w.heap.size, 1, none⟩ = some (.int .i64 b)) := fun w' h =>
    ⟨((h.cell (p := ⟨w.heap.size, 0, none⟩) z2).trans (hb2.cell (p := ⟨w.heap.size, 0, none⟩) z1)).trans e1, ((h.cell (p := ⟨w.heap.size, 1, none⟩) z2).trans (hb2.cell (p := ⟨w.heap.size, 1, none⟩) z1)).trans e2⟩
  have P0 : Below w2.heap.size w2 w2.drew := (Below.refl _ _).drew
  obtain ⟨k1, k2⟩ := KS.out _ (Below.refl _ _)
  have hbB := hbA.trans (hb2.mono hbA.size)
  clear e1 e2 hb2 hbA
  go_wp2_with fail
  go_region_held3 (fun w' => w'.cell? ⟨w.heap.size, 0, none⟩ = some (.int .i64 a) ∧ w'.cell? ⟨w.heap.size, 1, none⟩ = some (.int .i64 b))
    (first | with_reducible exact KS.out _ Em | with_reducible exact KS.out _ En | with_reducible exact KS.out _ P0 | with_reducible exact KS.out _ (Below.refl _ _))
    (first
      | (go_at_call_of 35 (Value.int .i64 a); (with_reducible refine (N1.out _ (by first | with_reducible exact HT2.out.below Em | with_reducible exact HT2.out.below P0)).mono ?_); rintro e wn ⟨rfl, hxn⟩; have En : Below w2.heap.size w2 wn := (by first | with_reducible exact Em.trans (hxn.mono Em.size) | with_reducible exact P0.trans (hxn.mono P0.size)))
      | (go_at_call_of 33 (Value.int .i64 b); (with_reducible refine (N2.out _ (by first | with_reducible exact HT2.out.below En | with_reducible exact HT2.out.below P0)).mono ?_); rintro e wm ⟨rfl, hxm⟩; have Em : Below w2.heap.size w2 wm := (by first | with_reducible exact En.trans (hxm.mono En.size) | with_reducible exact P0.trans (hxm.mono P0.size))))
  all_goals
    go_wp2_with fail
    go_ret
    refine ⟨ret_str HS.out, ?_⟩
    first
      | with_reducible exact hbB.trans (Em.mono hbB.size)
      | with_reducible exact hbB.trans (En.mono hbB.size)
set_option maxHeartbeats 4000000 in
theorem text_bc (a b : Int) (w : World) (hT : Lw w) (h1 : -9999 ≤ a) (h2 : a < b) (h3 : b ≤ 9999) (h5 : b ≤ 0) (S : ByteArray) (hS : strB (numL a ++ 45 :: nameL b) = S) :
    Calls Tryd.prog 21 #[.agg #[.int .i64 a, .int .i64 b]] w fun e w' => e = .returned (.string S) ∧ Below w.heap.size w w' := by
  have h4 : b ≠ a := by omega
  have HV := hide (yB_true.2 ⟨h1, by omega, h3⟩)
  have HT := hide hT
  have HB1 := hide (show -9999 ≤ a ∧ a ≤ 9999 from by omega)
  have HB2 := hide (show -9999 ≤ b ∧ b ≤ 9999 from by omega)
  have EA := hide (show strB (eraL a) = ⟨#[32, 66, 67]⟩ from by unfold eraL; rw [if_neg (by omega)]; rfl)
  have EB := hide (show strB (eraL b) = ⟨#[32, 66, 67]⟩ from by unfold eraL; rw [if_neg (by omega)]; rfl)
  have s1 := numL_len a h1 (by omega)
  have s2 := nameL_len b (by omega) h3
  rw [← strB_size] at s1 s2
  have HS := hide (show (strB (numL a) ++ ⟨#[45]⟩) ++ strB (nameL b) = S from by rw [show (⟨#[45]⟩ : ByteArray) = strB [45] from rfl, strB_app, strB_app, List.append_assoc]; exact hS)
  have N1 := hide (fun (W : World) (h : Lw W) => number_v a W h h1 (by omega) _ rfl)
  have N2 := hide (fun (W : World) (h : Lw W) => name_v b W h (by omega) h3 _ rfl)
  generalize strB (numL a) = X at *
  generalize strB (nameL b) = Y at *
  have c0 : (⟨#[45]⟩ : ByteArray).size = 1 := rfl
  have c1 : X.size + (⟨#[45]⟩ : ByteArray).size ≤ 20 := by omega
  have c2 : (X ++ (⟨#[45]⟩ : ByteArray)).size ≤ 20 := by rw [ByteArray.size_append]; omega
  have c3 : (X ++ (⟨#[45]⟩ : ByteArray)).size + Y.size ≤ 40 := by omega
  have A1 := fun (W : World) => add_run X ⟨#[45]⟩ (by omega) W
  have A2 := fun (W : World) => add_run (X ++ ⟨#[45]⟩) Y (by omega) W
  have ne : (a == b) = false := beq_eq_false_iff_ne.2 (by omega)
  clear hS hT h4 h5 s1 s2 c0
  go_enter Tryd.func21, Tryd.ntmps21
  go_wp2_with fail
  refine (valid_any _ _ _ true HV.out).mono ?_
  rintro e w1 ⟨rfl, hb1⟩
  obtain ⟨hc1, hf1⟩ := bcell hb1
  have z1 : w.heap.size < w1.heap.size := by have := hb1.size; simp at this; omega
  have e1 : w1.cell? ⟨w.heap.size, 0, none⟩ = some (.int .i64 a) := by rw [hc1 _ _ (by simp)]; simp [go_sem]
  have e2 : w1.cell? ⟨w.heap.size, 1, none⟩ = some (.int .i64 b) := by rw [hc1 _ _ (by simp)]; simp [go_sem]
  have hbA : Below w.heap.size w w1 := ((Below.refl _ _).alloc (Nat.le_refl _) _).trans (hb1.mono (by simp))
  clear hc1 hf1 hb1
  go_wp2_with fail
  go_quiet ((first | (go_at_call_of 34 (Value.int .i64 a); exact Calls.quiet_of_same ((era_v a _ _ EA.out).mono fun _ _ h => ⟨h.1, h.2.symm⟩)) | (go_at_call_of 34 (Value.int .i64 b); exact Calls.quiet_of_same ((era_v b _ _ EB.out).mono fun _ _ h => ⟨h.1, h.2.symm⟩))))
  generalize hW2 : w1.drewN _ = w2
  have hb2 : Below w1.heap.size w1 w2 := by rw [← hW2]; exact below_drewN (Below.refl _ _) _
  clear hW2
  have HT2 := hide (HT.out.below (hbA.trans (hb2.mono hbA.size)))
  have z2 : w.heap.size < w2.heap.size := by have := hb2.size; omega
  have KS : Hid (∀ w', Below w2.heap.size w2 w' → w'.cell? ⟨w.heap.size, 0, none⟩ = some (.int .i64 a) ∧ w'.cell? ⟨w.heap.size, 1, none⟩ = some (.int .i64 b)) := fun w' h =>
    ⟨((h.cell (p := ⟨w.heap.size, 0, none⟩) z2).trans (hb2.cell (p := ⟨w.heap.size, 0, none⟩) z1)).trans e1, ((h.cell (p := ⟨w.heap.size, 1, none⟩) z2).trans (hb2.cell (p := ⟨w.heap.size, 1, none⟩) z1)).trans e2⟩
  have P0 : Below w2.heap.size w2 w2.drew := (Below.refl _ _).drew
  obtain ⟨k1, k2⟩ := KS.out _ (Below.refl _ _)
  have hbB := hbA.trans (hb2.mono hbA.size)
  clear e1 e2 hb2 hbA
  go_wp2_with fail
  go_region_held3 (fun w' => w'.cell? ⟨w.heap.size, 0, none⟩ = some (.int .i64 a) ∧ w'.cell? ⟨w.heap.size, 1, none⟩ = some (.int .i64 b))
    (first | with_reducible exact KS.out _ Em | with_reducible exact KS.out _ En | with_reducible exact KS.out _ P0 | with_reducible exact KS.out _ (Below.refl _ _))
    (first
      | (go_at_call_of 35 (Value.int .i64 a); (with_reducible refine (N1.out _ (by first | with_reducible exact HT2.out.below Em | with_reducible exact HT2.out.below P0)).mono ?_); rintro e wn ⟨rfl, hxn⟩; have En : Below w2.heap.size w2 wn := (by first | with_reducible exact Em.trans (hxn.mono Em.size) | with_reducible exact P0.trans (hxn.mono P0.size)))
      | (go_at_call_of 33 (Value.int .i64 b); (with_reducible refine (N2.out _ (by first | with_reducible exact HT2.out.below En | with_reducible exact HT2.out.below P0)).mono ?_); rintro e wm ⟨rfl, hxm⟩; have Em : Below w2.heap.size w2 wm := (by first | with_reducible exact En.trans (hxm.mono En.size) | with_reducible exact P0.trans (hxm.mono P0.size))))
  all_goals
    go_wp2_with fail
    go_ret
    refine ⟨ret_str HS.out, ?_⟩
    first
      | with_reducible exact hbB.trans (Em.mono hbB.size)
      | with_reducible exact hbB.trans (En.mono hbB.size)
set_option maxHeartbeats 4000000 in
theorem text_mix (a b : Int) (w : World) (hT : Lw w) (h1 : -9999 ≤ a) (h2 : a < b) (h3 : b ≤ 9999) (h5 : a ≤ 0) (h6 : 0 < b) (S : ByteArray) (hS : strB (nameL a ++ 45 :: nameL b) = S) :
    Calls Tryd.prog 21 #[.agg #[.int .i64 a, .int .i64 b]] w fun e w' => e = .returned (.string S) ∧ Below w.heap.size w w' := by
  have h4 : b ≠ a := by omega
  have HV := hide (yB_true.2 ⟨h1, by omega, h3⟩)
  have HT := hide hT
  have HB1 := hide (show -9999 ≤ a ∧ a ≤ 9999 from by omega)
  have HB2 := hide (show -9999 ≤ b ∧ b ≤ 9999 from by omega)
  have EA := hide (show strB (eraL a) = ⟨#[32, 66, 67]⟩ from by unfold eraL; rw [if_neg (by omega)]; rfl)
  have EB := hide (show strB (eraL b) = ⟨#[32, 65, 68]⟩ from by unfold eraL; rw [if_pos (by omega)]; rfl)
  have s1 := nameL_len a h1 (by omega)
  have s2 := nameL_len b (by omega) h3
  rw [← strB_size] at s1 s2
  have HS := hide (show (strB (nameL a) ++ ⟨#[45]⟩) ++ strB (nameL b) = S from by rw [show (⟨#[45]⟩ : ByteArray) = strB [45] from rfl, strB_app, strB_app, List.append_assoc]; exact hS)
  have N1 := hide (fun (W : World) (h : Lw W) => name_v a W h h1 (by omega) _ rfl)
  have N2 := hide (fun (W : World) (h : Lw W) => name_v b W h (by omega) h3 _ rfl)
  generalize strB (nameL a) = X at *
  generalize strB (nameL b) = Y at *
  have c0 : (⟨#[45]⟩ : ByteArray).size = 1 := rfl
  have c1 : X.size + (⟨#[45]⟩ : ByteArray).size ≤ 20 := by omega
  have c2 : (X ++ (⟨#[45]⟩ : ByteArray)).size ≤ 20 := by rw [ByteArray.size_append]; omega
  have c3 : (X ++ (⟨#[45]⟩ : ByteArray)).size + Y.size ≤ 40 := by omega
  have A1 := fun (W : World) => add_run X ⟨#[45]⟩ (by omega) W
  have A2 := fun (W : World) => add_run (X ++ ⟨#[45]⟩) Y (by omega) W
  have ne : (a == b) = false := beq_eq_false_iff_ne.2 (by omega)
  clear hS hT h4 h5 h6 s1 s2 c0
  go_enter Tryd.func21, Tryd.ntmps21
  go_wp2_with fail
  refine (valid_any _ _ _ true HV.out).mono ?_
  rintro e w1 ⟨rfl, hb1⟩
  obtain ⟨hc1, hf1⟩ := bcell hb1
  have z1 : w.heap.size < w1.heap.size := by have := hb1.size; simp at this; omega
  have e1 : w1.cell? ⟨w.heap.size, 0, none⟩ = some (.int .i64 a) := by rw [hc1 _ _ (by simp)]; simp [go_sem]
  have e2 : w1.cell? ⟨w.heap.size, 1, none⟩ = some (.int .i64 b) := by rw [hc1 _ _ (by simp)]; simp [go_sem]
  have hbA : Below w.heap.size w w1 := ((Below.refl _ _).alloc (Nat.le_refl _) _).trans (hb1.mono (by simp))
  clear hc1 hf1 hb1
  go_wp2_with fail
  go_quiet ((first | (go_at_call_of 34 (Value.int .i64 a); exact Calls.quiet_of_same ((era_v a _ _ EA.out).mono fun _ _ h => ⟨h.1, h.2.symm⟩)) | (go_at_call_of 34 (Value.int .i64 b); exact Calls.quiet_of_same ((era_v b _ _ EB.out).mono fun _ _ h => ⟨h.1, h.2.symm⟩))))
  generalize hW2 : w1.drewN _ = w2
  have hb2 : Below w1.heap.size w1 w2 := by rw [← hW2]; exact below_drewN (Below.refl _ _) _
  clear hW2
  have HT2 := hide (HT.out.below (hbA.trans (hb2.mono hbA.size)))
  have z2 : w.heap.size < w2.heap.size := by have := hb2.size; omega
  have KS : Hid (∀ w', Below w2.heap.size w2 w' → w'.cell? ⟨w.heap.size, 0, none⟩ = some (.int .i64 a) ∧ w'.cell? ⟨w.heap.size, 1, none⟩ = some (.int .i64 b)) := fun w' h =>
    ⟨((h.cell (p := ⟨w.heap.size, 0, none⟩) z2).trans (hb2.cell (p := ⟨w.heap.size, 0, none⟩) z1)).trans e1, ((h.cell (p := ⟨w.heap.size, 1, none⟩) z2).trans (hb2.cell (p := ⟨w.heap.size, 1, none⟩) z1)).trans e2⟩
  have P0 : Below w2.heap.size w2 w2.drew := (Below.refl _ _).drew
  obtain ⟨k1, k2⟩ := KS.out _ (Below.refl _ _)
  have hbB := hbA.trans (hb2.mono hbA.size)
  clear e1 e2 hb2 hbA
  go_wp2_with fail
  go_region_held3 (fun w' => w'.cell? ⟨w.heap.size, 0, none⟩ = some (.int .i64 a) ∧ w'.cell? ⟨w.heap.size, 1, none⟩ = some (.int .i64 b))
    (first | with_reducible exact KS.out _ Em | with_reducible exact KS.out _ En | with_reducible exact KS.out _ P0 | with_reducible exact KS.out _ (Below.refl _ _))
    (first
      | (go_at_call_of 33 (Value.int .i64 a); (with_reducible refine (N1.out _ (by first | with_reducible exact HT2.out.below Em | with_reducible exact HT2.out.below P0)).mono ?_); rintro e wn ⟨rfl, hxn⟩; have En : Below w2.heap.size w2 wn := (by first | with_reducible exact Em.trans (hxn.mono Em.size) | with_reducible exact P0.trans (hxn.mono P0.size)))
      | (go_at_call_of 33 (Value.int .i64 b); (with_reducible refine (N2.out _ (by first | with_reducible exact HT2.out.below En | with_reducible exact HT2.out.below P0)).mono ?_); rintro e wm ⟨rfl, hxm⟩; have Em : Below w2.heap.size w2 wm := (by first | with_reducible exact En.trans (hxm.mono En.size) | with_reducible exact P0.trans (hxm.mono P0.size))))
  all_goals
    go_wp2_with fail
    go_ret
    refine ⟨ret_str HS.out, ?_⟩
    first
      | with_reducible exact hbB.trans (Em.mono hbB.size)
      | with_reducible exact hbB.trans (En.mono hbB.size)
set_option maxHeartbeats 1000000 in
theorem text_no (a b : Int) (w : World) (h1 : yB a b = false) :
    Calls Tryd.prog 21 #[.agg #[.int .i64 a, .int .i64 b]] w fun e w' => e = .returned (.string ⟨#[]⟩) ∧ Below w.heap.size w w' := by
  have HV := hide h1
  clear h1
  go_enter Tryd.func21, Tryd.ntmps21
  go_wp2_with fail
  refine (valid_any _ _ _ false HV.out).mono ?_
  rintro e w1 ⟨rfl, hb1⟩
  go_wp2_with fail
  go_ret
  exact ⟨rfl, ((Below.refl _ _).alloc (Nat.le_refl _) _).trans (hb1.mono (by simp))⟩
set_option maxHeartbeats 1000000 in
theorem text_one (a : Int) (w : World) (hT : Lw w) (h1 : -9999 ≤ a) (h3 : a ≤ 9999) (S : ByteArray) (hS : strB (nameL a) = S) :
    Calls Tryd.prog 21 #[.agg #[.int .i64 a, .int .i64 a]] w fun e w' => e = .returned (.string S) ∧ Below w.heap.size w w' := by
  have HV := hide (yB_true.2 ⟨h1, Int.le_refl _, h3⟩)
  have HT := hide hT
  have HS := hide hS
  clear hS hT
  go_enter Tryd.func21, Tryd.ntmps21
  go_wp2_with fail
  refine (valid_any _ _ _ true HV.out).mono ?_
  rintro e w1 ⟨rfl, hb1⟩
  obtain ⟨hc1, hf1⟩ := bcell hb1
  have hbA : Below w.heap.size w w1 := ((Below.refl _ _).alloc (Nat.le_refl _) _).trans (hb1.mono (by simp))
  go_wp2_with fail
  refine (name_v a _ (HT.out.below hbA) h1 h3 _ HS.out).mono ?_
  rintro e w2 ⟨rfl, hb2⟩
  go_wp2_with fail
  go_ret
  exact ⟨rfl, hbA.trans (hb2.mono hbA.size)⟩
/-- what Text returns -/
def txt (a b : Int) : ByteArray := if yB a b then strB (textL a b) else ⟨#[]⟩
theorem text_v (a b : Int) (w : World) (hT : Lw w) (S : ByteArray) (hS : txt a b = S) :
    Calls Tryd.prog 21 #[.agg #[.int .i64 a, .int .i64 b]] w fun e w' => e = .returned (.string S) ∧ Below w.heap.size w w' := by
  subst hS
  unfold txt
  rcases Bool.eq_false_or_eq_true (yB a b) with h | h
  · rw [h]
    obtain ⟨h1, h2, h3⟩ := yB_true.1 h
    show Calls _ _ _ _ fun e w' => e = .returned (.string (strB (textL a b))) ∧ _
    unfold textL
    by_cases hab : a = b
    · subst hab
      rw [if_pos rfl]
      exact text_one a w hT h1 h3 _ rfl
    · rw [if_neg hab]
      by_cases h5 : 0 < a
      · rw [if_pos (Or.inl h5)]
        exact text_ad a b w hT h1 (by omega) h3 h5 _ rfl
      · by_cases h6 : b ≤ 0
        · rw [if_pos (Or.inr h6)]
          exact text_bc a b w hT h1 (by omega) h3 h6 _ rfl
        · rw [if_neg (by omega)]
          exact text_mix a b w hT h1 (by omega) h3 (by omega) (by omega) _ rfl
  · rw [h]
    exact text_no a b w h
end Go.Proofs.YtihadabaehcmiaaDoor
