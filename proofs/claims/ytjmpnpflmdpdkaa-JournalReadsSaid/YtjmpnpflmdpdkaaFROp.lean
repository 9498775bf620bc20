/- Open of the reference. -/
import Derived.Test.YtjmpnpflmdpdkaaFApp
namespace Go.Proofs.Ytjmpnpflmdpdkaa
open Go Go.RowKit FM

set_option maxHeartbeats 4000000 in
theorem ropen_short (A : Option Addr) (n c : Nat) (xs : List Nat) (w : World) (hx : BR w A n xs) (hc : n ≤ c) (hm : c ≤ maxLen) (E : Nat) (hE : deE xs = E) (h0 : E ≠ 0) :
    Calls Try.prog 36 #[.slice A n c] w (OpenedR 0 [] [] E w) := by
  have HL := hide hx.len
  have hlen := hx.len
  unfold maxLen at hm
  by_cases h1 : n = 0
  · have e1 := de1 (b := xs) (by omega)
    obtain rfl : 4 = E := by omega
    clear hE e1 hlen h0
    subst h1
    go_enter Try.func36, Try.ntmps36
    go_wp2_with fail
    exact bodyPost_ret (v := .tuple #[.int .u8 0, .slice none 0 0, .slice none 0 0, .int .i64 4]) (by simp [results, Try.results36, go_sem]) rfl (openedR_no (E := 4) (Below.refl _ _))
  have n1 : ¬ xs.length = 0 := by omega
  have z1 : ((n : Int) == 0) = false := beq_eq_false_iff_ne.2 (by omega)
  obtain ⟨b, o, x0, rfl, hx0, hxb0, hcell⟩ := hx.at_ (j := 0) (by omega)
  have g0 := getD_of hx0
  rw [Nat.add_zero] at hcell
  clear hx0
  by_cases h2 : x0 = 209
  · subst h2
    by_cases h3 : n < 5
    · have e1 := de3 (b := xs) n1 g0 (by omega)
      obtain rfl : 4 = E := by omega
      clear hE e1 hlen g0 n1 h0
      go_enter Try.func36, Try.ntmps36
      go_wp2_with fail
      exact bodyPost_ret (v := .tuple #[.int .u8 0, .slice none 0 0, .slice none 0 0, .int .i64 4]) (by simp [results, Try.results36, go_sem]) rfl (openedR_no (E := 4) (Below.refl _ _))
    obtain ⟨L, hL⟩ := (⟨_, rfl⟩ : ∃ L, len3 xs = L)
    have hLb : L < 16777216 := by rw [← hL]; exact len3_lt hx.2
    have n3 : ¬ xs.length < 5 := by omega
    have HM := hide (hx.mid (i := 2) (j := 3) (by omega))
    have HLL := hide (show num ((xs.drop 2).take 3) = L from hL)
    by_cases h4 : 8192 < L
    · have e1 := de4 (b := xs) g0 n3 (by omega)
      obtain rfl : 6 = E := by omega
      clear hE e1 hlen g0 n1 n3 hL hx h0
      go_enter Try.func36, Try.ntmps36
      go_wp2_with fail
      (with_reducible refine (rnumber_any _ 3 _ _ _ HM.out (by omega) L HLL.out).mono ?_)
      rintro e w' ⟨rfl, rfl⟩
      go_wp2_with fail
      exact bodyPost_ret (v := .tuple #[.int .u8 0, .slice none 0 0, .slice none 0 0, .int .i64 6]) (by simp [results, Try.results36, go_sem]) rfl (openedR_no (E := 6) (Below.refl _ _))
    by_cases h5 : n < L + 9
    · have e1 := de5 (b := xs) g0 n3 (by omega) (by omega)
      obtain rfl : 4 = E := by omega
      clear hE e1 hlen g0 n1 n3 hL hx h0
      go_enter Try.func36, Try.ntmps36
      go_wp2_with fail
      (with_reducible refine (rnumber_any _ 3 _ _ _ HM.out (by omega) L HLL.out).mono ?_)
      rintro e w' ⟨rfl, rfl⟩
      go_wp2_with fail
      exact bodyPost_ret (v := .tuple #[.int .u8 0, .slice none 0 0, .slice none 0 0, .int .i64 4]) (by simp [results, Try.results36, go_sem]) rfl (openedR_no (E := 4) (Below.refl _ _))
    · have e1 := de6 (b := xs) g0 n3 (by omega) (by omega)
      exact absurd (hE.symm.trans e1) h0
  · have e1 := de2 (b := xs) n1 (by omega)
    obtain rfl : 3 = E := by omega
    have z2 : ((x0 : Int) == 209) = false := beq_eq_false_iff_ne.2 (by omega)
    have z3 : ((x0 : Int) != 209) = true := by simp only [bne, z2]; rfl
    clear hE e1 hlen g0 n1 h0
    go_enter Try.func36, Try.ntmps36
    go_wp2_with fail
    exact bodyPost_ret (v := .tuple #[.int .u8 0, .slice none 0 0, .slice none 0 0, .int .i64 3]) (by simp [results, Try.results36, go_sem]) rfl (openedR_no (E := 3) (Below.refl _ _))
set_option maxHeartbeats 8000000 in
set_option maxRecDepth 100000 in
theorem ropen_sum (b o n c L : Nat) (xs : List Nat) (w : World) (hx : BR w (some ⟨b, o, none⟩) n xs) (hc : n ≤ c) (hm : c ≤ maxLen) (g0 : xs.getD 0 0 = 209) (hL : len3 xs = L) (hLb : L ≤ 8192) (hL9 : L + 9 ≤ n) (S s : Nat) (hS : num ((xs.drop (L + 5)).take 4) = S) (hs : adler (xs.take (L + 5)) = s) (hSs : S ≠ s) (_hn : n ≤ 100000) :
    Calls Try.prog 36 #[.slice (some ⟨b, o, none⟩) n c] w (OpenedR 0 [] [] 5 w) := by
  have HX := hide hx
  have HS := hide hS
  have Hs := hide hs
  have hsb : s < 4294967296 := by rw [← hs]; exact adler_lt _
  obtain ⟨b1, o1, x0, eA, h00, -, hcell⟩ := hx.at_ (j := 0) (by omega)
  injection eA with eA
  injection eA with eA1 eA2
  subst eA1
  subst eA2
  rw [Nat.add_zero] at hcell
  obtain rfl : x0 = 209 := by rw [← g0]; exact (getD_of h00).symm
  have w5 : IntKind.i64.wrap ((L : Int) + 5) = (L : Int) + 5 := IntWalk.i64_in _ (by omega)
  have p5 : (0 : Int) ≤ (L : Int) + 5 := by omega
  have t5 : ((L : Int) + 5).toNat = L + 5 := by omega
  have w9 : IntKind.i64.wrap ((L : Int) + 9) = (L : Int) + 9 := IntWalk.i64_in _ (by omega)
  have p9 : (0 : Int) ≤ (L : Int) + 9 := by omega
  have t9 : ((L : Int) + 9).toNat = L + 9 := by omega
  have HM := hide (hx.mid (i := 2) (j := 3) (by omega))
  have HLL := hide (show num ((xs.drop 2).take 3) = L from hL)
  have HR1 := hide (hx.take_ (m := L + 5) (by omega))
  have HR2 := hide (hx.mid (i := L + 5) (j := 4) (by omega))
  have HR3 := hide (hx.drop_ (m := L + 9) (by omega))
  have HRD := hide ((hx.take_ (m := L + 5) (by omega)).drop_ (m := 5) (by omega))
  unfold maxLen at hm
  clear hx hL hS hs h00 g0
  go_enter Try.func36, Try.ntmps36
  go_wp2_with fail
  (with_reducible refine (rnumber_any _ 3 _ _ _ HM.out (by omega) L HLL.out).mono ?_)
  rintro e w' ⟨rfl, rfl⟩
  go_wp2_with fail
  go_quiet (first
    | (go_at_call 46; (with_reducible exact Calls.quiet_of_same ((rnumber_any _ 4 _ _ _ (HR2.out.drewN _) (by omega) S HS.out).mono fun e w' h => ⟨h.1, h.2.symm⟩)))
    | (go_at_call 44; (with_reducible exact Calls.quiet_of_same ((radler_any _ (L + 5) _ _ _ (HR1.out.drewN _) (by unfold maxLen; omega) s Hs.out).mono fun e w' h => ⟨h.1, h.2.symm⟩))))
  have z1 : ((S : Int) == (s : Int)) = false := beq_eq_false_iff_ne.2 (by omega)
  have z2 : ((S : Int) != (s : Int)) = true := by simp only [bne, z1]; rfl
  have z3 : ¬ ((S : Int) = (s : Int)) := by omega
  have z4 : ¬ S = s := hSs
  go_wp2_with fail
  exact bodyPost_ret (v := .tuple #[.int .u8 0, .slice none 0 0, .slice none 0 0, .int .i64 5]) (by simp [results, Try.results36, go_sem]) rfl (openedR_no (E := 5) (below_drewN (Below.refl _ _) _))
set_option maxHeartbeats 8000000 in
set_option maxRecDepth 100000 in
theorem ropen_eq (b o n c L : Nat) (xs : List Nat) (w : World) (hx : BR w (some ⟨b, o, none⟩) n xs) (hc : n ≤ c) (hm : c ≤ maxLen) (g0 : xs.getD 0 0 = 209) (hL : len3 xs = L) (hLb : L ≤ 8192) (hL9 : L + 9 ≤ n) (S s : Nat) (hS : num ((xs.drop (L + 5)).take 4) = S) (hs : adler (xs.take (L + 5)) = s) (hSs : S = s) (hck : c = L + 9) (hn : n ≤ 100000) :
    Calls Try.prog 36 #[.slice (some ⟨b, o, none⟩) n c] w (OpenedR (xs.getD 1 0) ((xs.take (L + 5)).drop 5) (xs.drop (L + 9)) 0 w) := by
  have HX := hide hx
  have HS := hide hS
  have Hs := hide hs
  have hsb : s < 4294967296 := by rw [← hs]; exact adler_lt _
  obtain ⟨b1, o1, x0, eA, h00, -, hcell⟩ := hx.at_ (j := 0) (by omega)
  injection eA with eA
  injection eA with eA1 eA2
  subst eA1
  subst eA2
  rw [Nat.add_zero] at hcell
  obtain rfl : x0 = 209 := by rw [← g0]; exact (getD_of h00).symm
  have w5 : IntKind.i64.wrap ((L : Int) + 5) = (L : Int) + 5 := IntWalk.i64_in _ (by omega)
  have p5 : (0 : Int) ≤ (L : Int) + 5 := by omega
  have t5 : ((L : Int) + 5).toNat = L + 5 := by omega
  have w9 : IntKind.i64.wrap ((L : Int) + 9) = (L : Int) + 9 := IntWalk.i64_in _ (by omega)
  have p9 : (0 : Int) ≤ (L : Int) + 9 := by omega
  have t9 : ((L : Int) + 9).toNat = L + 9 := by omega
  have HM := hide (hx.mid (i := 2) (j := 3) (by omega))
  have HLL := hide (show num ((xs.drop 2).take 3) = L from hL)
  have HR1 := hide (hx.take_ (m := L + 5) (by omega))
  have HR2 := hide (hx.mid (i := L + 5) (j := 4) (by omega))
  have HR3 := hide (hx.drop_ (m := L + 9) (by omega))
  have HRD := hide ((hx.take_ (m := L + 5) (by omega)).drop_ (m := 5) (by omega))
  unfold maxLen at hm
  clear hx hL hS hs h00 g0
  subst hck
  obtain rfl : n = L + 9 := by omega
  go_enter Try.func36, Try.ntmps36
  go_wp2_with fail
  (with_reducible refine (rnumber_any _ 3 _ _ _ HM.out (by omega) L HLL.out).mono ?_)
  rintro e w' ⟨rfl, rfl⟩
  subst hSs
  obtain ⟨b1, o1, K, eA, hK, hKb, hcK⟩ := HX.out.at_ (j := 1) (by omega)
  injection eA with eA
  injection eA with eA1 eA2
  subst eA1
  subst eA2
  have HKK := hide (show xs.getD 1 0 = K from getD_of hK)
  have z1 : ((S : Int) != (S : Int)) = false := by simp
  clear hK
  go_wp2_with fail
  go_quiet (first
    | (go_at_call 46; (with_reducible exact Calls.quiet_of_same ((rnumber_any _ 4 _ _ _ (HR2.out.drewN _) (by omega) S HS.out).mono fun e w' h => ⟨h.1, h.2.symm⟩)))
    | (go_at_call 44; (with_reducible exact Calls.quiet_of_same ((radler_any _ (L + 5) _ _ _ (HR1.out.drewN _) (by unfold maxLen; omega) S Hs.out).mono fun e w' h => ⟨h.1, h.2.symm⟩))))
  go_wp2_with fail
  have HBW := hide (below_drewN (Below.refl w.heap.size w) nq)
  generalize w.drewN nq = W at *
  have hsW : w.heap.size ≤ W.heap.size := HBW.out.size
  have KS : Hid (∀ w', Below W.heap.size W w' → w'.cell? ⟨b, o + 1, none⟩ = some (.int .u8 (K : Int))) := fun w' h => ((HBW.out.trans (h.mono hsW)).cell (p := ⟨b, o + 1, none⟩) (World.block_lt_of_cell? w ⟨b, o + 1, none⟩ hcK)).trans hcK
  have KD : Hid (∀ w', Below W.heap.size W w' → BR w' (some ⟨b, o + 5, none⟩) L ((xs.take (L + 5)).drop 5)) := fun w' h => HRD.out.below (HBW.out.trans (h.mono hsW))
  have KR : Hid (∀ w', Below W.heap.size W w' → BR w' (some ⟨b, o, none⟩) 0 (xs.drop (L + 9))) := fun w' h => by rw [List.drop_eq_nil_of_le (by rw [HX.out.len]; exact Nat.le_refl _)]; exact BR.nil_
  have i1 : (1 : Int) < (L : Int) + 9 := by omega
  have i2 : (5 : Int) ≤ (L : Int) + 5 := by omega
  have i3 : (0 : Int) ≤ 1 := by omega
  have i4 : (L : Int) + 5 ≤ (L : Int) + 9 := by omega
  go_region_held3 (fun w' => w'.cell? ⟨b, o + 1, none⟩ = some (.int .u8 (K : Int)))
    (exact KS.out _ (by ((repeat (first | (with_reducible assumption) | (with_reducible exact Below.refl _ _) | (with_reducible refine Below.drewS ?_) | (with_reducible refine Below.allocS ?_ _) | (with_reducible refine Below.setS ?_ (by first | omega | (simp; omega)) _))); (first | done | fail))))
    (first
      | (refine step_append_e (by rfl) _ _ (by rfl) _ (by rfl) (some ⟨b, o + 5, none⟩) L _ ((xs.take (L + 5)).drop 5) (by rfl) (KD.out _ (by ((repeat (first | (with_reducible assumption) | (with_reducible exact Below.refl _ _) | (with_reducible refine Below.drewS ?_) | (with_reducible refine Below.allocS ?_ _) | (with_reducible refine Below.setS ?_ (by first | omega | (simp; omega)) _))); (first | done | fail)))) (by omega) ?_; intro A1 c1 wa hr1 hb1; have E1 : Below W.heap.size W wa := Below.next (by ((repeat (first | (with_reducible assumption) | (with_reducible exact Below.refl _ _) | (with_reducible refine Below.drewS ?_) | (with_reducible refine Below.allocS ?_ _) | (with_reducible refine Below.setS ?_ (by first | omega | (simp; omega)) _))); (first | done | fail))) hb1; try (have G2 := BR.below hr2 (Below.next (by ((repeat (first | (with_reducible assumption) | (with_reducible exact Below.refl _ _) | (with_reducible refine Below.drewS ?_) | (with_reducible refine Below.allocS ?_ _) | (with_reducible refine Below.setS ?_ (by first | omega | (simp; omega)) _))); (first | done | fail))) hb1)))
      | (refine step_append_e (by rfl) _ _ (by rfl) _ (by rfl) (some ⟨b, o, none⟩) 0 _ (xs.drop (L + 9)) (by rfl) (KR.out _ (by ((repeat (first | (with_reducible assumption) | (with_reducible exact Below.refl _ _) | (with_reducible refine Below.drewS ?_) | (with_reducible refine Below.allocS ?_ _) | (with_reducible refine Below.setS ?_ (by first | omega | (simp; omega)) _))); (first | done | fail)))) (by omega) ?_; intro A2 c2 wb hr2 hb2; have E2 : Below W.heap.size W wb := Below.next (by ((repeat (first | (with_reducible assumption) | (with_reducible exact Below.refl _ _) | (with_reducible refine Below.drewS ?_) | (with_reducible refine Below.allocS ?_ _) | (with_reducible refine Below.setS ?_ (by first | omega | (simp; omega)) _))); (first | done | fail))) hb2; try (have G1 := BR.below hr1 (Below.next (by ((repeat (first | (with_reducible assumption) | (with_reducible exact Below.refl _ _) | (with_reducible refine Below.drewS ?_) | (with_reducible refine Below.allocS ?_ _) | (with_reducible refine Below.setS ?_ (by first | omega | (simp; omega)) _))); (first | done | fail))) hb2))))
  all_goals
    go_wp2_with fail
    refine bodyPost_ret (v := .tuple #[.int .u8 (K : Int), .slice A1 L c1, .slice A2 0 c2, .int .i64 0]) (by simp [results, Try.results36, go_sem]) rfl ?_
    rw [HKK.out]
    exact ⟨A1, _, c1, A2, _, c2, rfl, by first | exact G1 | exact hr1, by first | exact G2 | exact hr2, HBW.out.trans (Below.mono (by ((repeat (first | (with_reducible assumption) | (with_reducible exact Below.refl _ _) | (with_reducible refine Below.drewS ?_) | (with_reducible refine Below.allocS ?_ _) | (with_reducible refine Below.setS ?_ (by first | omega | (simp; omega)) _))); (first | done | fail))) hsW)⟩
set_option maxHeartbeats 8000000 in
set_option maxRecDepth 100000 in
theorem ropen_gt (b o n c L : Nat) (xs : List Nat) (w : World) (hx : BR w (some ⟨b, o, none⟩) n xs) (hc : n ≤ c) (hm : c ≤ maxLen) (g0 : xs.getD 0 0 = 209) (hL : len3 xs = L) (hLb : L ≤ 8192) (hL9 : L + 9 ≤ n) (S s : Nat) (hS : num ((xs.drop (L + 5)).take 4) = S) (hs : adler (xs.take (L + 5)) = s) (hSs : S = s) (hck : L + 9 < c) (hn : n ≤ 100000) :
    Calls Try.prog 36 #[.slice (some ⟨b, o, none⟩) n c] w (OpenedR (xs.getD 1 0) ((xs.take (L + 5)).drop 5) (xs.drop (L + 9)) 0 w) := by
  have HX := hide hx
  have HS := hide hS
  have Hs := hide hs
  have hsb : s < 4294967296 := by rw [← hs]; exact adler_lt _
  obtain ⟨b1, o1, x0, eA, h00, -, hcell⟩ := hx.at_ (j := 0) (by omega)
  injection eA with eA
  injection eA with eA1 eA2
  subst eA1
  subst eA2
  rw [Nat.add_zero] at hcell
  obtain rfl : x0 = 209 := by rw [← g0]; exact (getD_of h00).symm
  have w5 : IntKind.i64.wrap ((L : Int) + 5) = (L : Int) + 5 := IntWalk.i64_in _ (by omega)
  have p5 : (0 : Int) ≤ (L : Int) + 5 := by omega
  have t5 : ((L : Int) + 5).toNat = L + 5 := by omega
  have w9 : IntKind.i64.wrap ((L : Int) + 9) = (L : Int) + 9 := IntWalk.i64_in _ (by omega)
  have p9 : (0 : Int) ≤ (L : Int) + 9 := by omega
  have t9 : ((L : Int) + 9).toNat = L + 9 := by omega
  have HM := hide (hx.mid (i := 2) (j := 3) (by omega))
  have HLL := hide (show num ((xs.drop 2).take 3) = L from hL)
  have HR1 := hide (hx.take_ (m := L + 5) (by omega))
  have HR2 := hide (hx.mid (i := L + 5) (j := 4) (by omega))
  have HR3 := hide (hx.drop_ (m := L + 9) (by omega))
  have HRD := hide ((hx.take_ (m := L + 5) (by omega)).drop_ (m := 5) (by omega))
  unfold maxLen at hm
  clear hx hL hS hs h00 g0
  go_enter Try.func36, Try.ntmps36
  go_wp2_with fail
  (with_reducible refine (rnumber_any _ 3 _ _ _ HM.out (by omega) L HLL.out).mono ?_)
  rintro e w' ⟨rfl, rfl⟩
  subst hSs
  obtain ⟨b1, o1, K, eA, hK, hKb, hcK⟩ := HX.out.at_ (j := 1) (by omega)
  injection eA with eA
  injection eA with eA1 eA2
  subst eA1
  subst eA2
  have HKK := hide (show xs.getD 1 0 = K from getD_of hK)
  have z1 : ((S : Int) != (S : Int)) = false := by simp
  clear hK
  go_wp2_with fail
  go_quiet (first
    | (go_at_call 46; (with_reducible exact Calls.quiet_of_same ((rnumber_any _ 4 _ _ _ (HR2.out.drewN _) (by omega) S HS.out).mono fun e w' h => ⟨h.1, h.2.symm⟩)))
    | (go_at_call 44; (with_reducible exact Calls.quiet_of_same ((radler_any _ (L + 5) _ _ _ (HR1.out.drewN _) (by unfold maxLen; omega) S Hs.out).mono fun e w' h => ⟨h.1, h.2.symm⟩))))
  go_wp2_with fail
  have HBW := hide (below_drewN (Below.refl w.heap.size w) nq)
  generalize w.drewN nq = W at *
  have hsW : w.heap.size ≤ W.heap.size := HBW.out.size
  have KS : Hid (∀ w', Below W.heap.size W w' → w'.cell? ⟨b, o + 1, none⟩ = some (.int .u8 (K : Int))) := fun w' h => ((HBW.out.trans (h.mono hsW)).cell (p := ⟨b, o + 1, none⟩) (World.block_lt_of_cell? w ⟨b, o + 1, none⟩ hcK)).trans hcK
  have KD : Hid (∀ w', Below W.heap.size W w' → BR w' (some ⟨b, o + 5, none⟩) L ((xs.take (L + 5)).drop 5)) := fun w' h => HRD.out.below (HBW.out.trans (h.mono hsW))
  have KR : Hid (∀ w', Below W.heap.size W w' → BR w' (some ⟨b, o + (L + 9), none⟩) (n - (L + 9)) (xs.drop (L + 9))) := fun w' h => HR3.out.below (HBW.out.trans (h.mono hsW))
  have i1 : (1 : Int) < (n : Int) := by omega
  have i2 : (5 : Int) ≤ (L : Int) + 5 := by omega
  have i3 : (0 : Int) ≤ 1 := by omega
  have i4 : (L : Int) + 5 ≤ (c : Int) := by omega
  have i8 : ¬ c = 5 := by omega
  have i5 : ¬ c = L + 9 := by omega
  have i6 : (L : Int) + 9 ≤ (n : Int) := by omega
  have i7 : (n : Int) ≤ (c : Int) := by omega
  go_region_held3 (fun w' => w'.cell? ⟨b, o + 1, none⟩ = some (.int .u8 (K : Int)))
    (exact KS.out _ (by ((repeat (first | (with_reducible assumption) | (with_reducible exact Below.refl _ _) | (with_reducible refine Below.drewS ?_) | (with_reducible refine Below.allocS ?_ _) | (with_reducible refine Below.setS ?_ (by first | omega | (simp; omega)) _))); (first | done | fail))))
    (first
      | (refine step_append_e (by rfl) _ _ (by rfl) _ (by rfl) (some ⟨b, o + 5, none⟩) L _ ((xs.take (L + 5)).drop 5) (by rfl) (KD.out _ (by ((repeat (first | (with_reducible assumption) | (with_reducible exact Below.refl _ _) | (with_reducible refine Below.drewS ?_) | (with_reducible refine Below.allocS ?_ _) | (with_reducible refine Below.setS ?_ (by first | omega | (simp; omega)) _))); (first | done | fail)))) (by omega) ?_; intro A1 c1 wa hr1 hb1; have E1 : Below W.heap.size W wa := Below.next (by ((repeat (first | (with_reducible assumption) | (with_reducible exact Below.refl _ _) | (with_reducible refine Below.drewS ?_) | (with_reducible refine Below.allocS ?_ _) | (with_reducible refine Below.setS ?_ (by first | omega | (simp; omega)) _))); (first | done | fail))) hb1; try (have G2 := BR.below hr2 (Below.next (by ((repeat (first | (with_reducible assumption) | (with_reducible exact Below.refl _ _) | (with_reducible refine Below.drewS ?_) | (with_reducible refine Below.allocS ?_ _) | (with_reducible refine Below.setS ?_ (by first | omega | (simp; omega)) _))); (first | done | fail))) hb1)))
      | (refine step_append_e (by rfl) _ _ (by rfl) _ (by rfl) (some ⟨b, o + (L + 9), none⟩) (n - (L + 9)) _ (xs.drop (L + 9)) (by rfl) (KR.out _ (by ((repeat (first | (with_reducible assumption) | (with_reducible exact Below.refl _ _) | (with_reducible refine Below.drewS ?_) | (with_reducible refine Below.allocS ?_ _) | (with_reducible refine Below.setS ?_ (by first | omega | (simp; omega)) _))); (first | done | fail)))) (by omega) ?_; intro A2 c2 wb hr2 hb2; have E2 : Below W.heap.size W wb := Below.next (by ((repeat (first | (with_reducible assumption) | (with_reducible exact Below.refl _ _) | (with_reducible refine Below.drewS ?_) | (with_reducible refine Below.allocS ?_ _) | (with_reducible refine Below.setS ?_ (by first | omega | (simp; omega)) _))); (first | done | fail))) hb2; try (have G1 := BR.below hr1 (Below.next (by ((repeat (first | (with_reducible assumption) | (with_reducible exact Below.refl _ _) | (with_reducible refine Below.drewS ?_) | (with_reducible refine Below.allocS ?_ _) | (with_reducible refine Below.setS ?_ (by first | omega | (simp; omega)) _))); (first | done | fail))) hb2))))
  all_goals
    go_wp2_with fail
    refine bodyPost_ret (v := .tuple #[.int .u8 (K : Int), .slice A1 L c1, .slice A2 (n - (L + 9)) c2, .int .i64 0]) (by simp [results, Try.results36, go_sem]) rfl ?_
    rw [HKK.out]
    exact ⟨A1, _, c1, A2, _, c2, rfl, by first | exact G1 | exact hr1, by first | exact G2 | exact hr2, HBW.out.trans (Below.mono (by ((repeat (first | (with_reducible assumption) | (with_reducible exact Below.refl _ _) | (with_reducible refine Below.drewS ?_) | (with_reducible refine Below.allocS ?_ _) | (with_reducible refine Below.setS ?_ (by first | omega | (simp; omega)) _))); (first | done | fail))) hsW)⟩
theorem ropen_any (A : Option Addr) (n c : Nat) (xs : List Nat) (w : World) (hx : BR w A n xs) (hc : n ≤ c) (hm : c ≤ maxLen) (hn : n ≤ 100000) (K : Nat) (D R : List Nat) (E : Nat) (hK : oK xs = K) (hD : oD xs = D) (hR : oR xs = R) (hE : opE xs = E) :
    Calls Try.prog 36 #[.slice A n c] w (OpenedR K D R E w) := by
  subst hK hD hR hE
  have hde := opE_de xs
  by_cases h0 : deE xs = 0
  · obtain ⟨g0, g1, g2⟩ := deE_zero h0
    have hl := hx.len
    obtain ⟨b, o, x, rfl, -⟩ := hx.at_ (j := 0) (by omega)
    rw [if_neg (by omega)] at hde
    by_cases hs : sum4 xs (len3 xs) = adler (xs.take (len3 xs + 5))
    · rw [if_neg (by omega)] at hde
      have e1 : oK xs = xs.getD 1 0 := by unfold oK; rw [if_pos hde]; rfl
      have e2 : oD xs = (xs.take (len3 xs + 5)).drop 5 := by unfold oD; rw [if_pos hde]; rfl
      have e3 : oR xs = xs.drop (len3 xs + 9) := by unfold oR; rw [if_pos hde]; rfl
      rw [hde, e1, e2, e3]
      rcases Nat.lt_or_ge (len3 xs + 9) c with hck | hck
      · exact ropen_gt b o n c _ xs w hx hc hm g0 rfl g1 (by omega) _ _ rfl rfl hs hck hn
      · exact ropen_eq b o n c _ xs w hx hc hm g0 rfl g1 (by omega) _ _ rfl rfl hs (by omega) hn
    · rw [if_pos hs] at hde
      have e1 : oK xs = 0 := by unfold oK; rw [if_neg (by omega)]
      have e2 : oD xs = [] := by unfold oD; rw [if_neg (by omega)]
      have e3 : oR xs = [] := by unfold oR; rw [if_neg (by omega)]
      rw [hde, e1, e2, e3]
      exact ropen_sum b o n c _ xs w hx hc hm g0 rfl g1 (by omega) _ _ rfl rfl hs hn
  · rw [if_pos h0] at hde
    have e1 : oK xs = 0 := by unfold oK; rw [if_neg (by omega)]
    have e2 : oD xs = [] := by unfold oD; rw [if_neg (by omega)]
    have e3 : oR xs = [] := by unfold oR; rw [if_neg (by omega)]
    rw [e1, e2, e3]
    exact ropen_short A n c xs w hx hc hm _ hde.symm (by omega)
end Go.Proofs.Ytjmpnpflmdpdkaa
