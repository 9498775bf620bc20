/- Open of the program. -/
import Derived.Test.YtjmpnpflmdpdkaaFDat
import Derived.Test.YtjmpnpflmdpdkaaFSam
namespace Go.Proofs.Ytjmpnpflmdpdkaa
open Go Go.RowKit FM

theorem Below.drewS {w W : World} (h : Below w.heap.size w W) : Below w.heap.size w W.drew := h.drew
theorem Below.allocS {w W : World} (h : Below w.heap.size w W) (o : Obj) : Below w.heap.size w (W.alloc o) := h.alloc h.size o
theorem Below.setS {w W : World} (h : Below w.heap.size w W) {g i : Nat} (hg : w.heap.size ≤ g) (v : Value) : Below w.heap.size w (W.setCell ⟨g, i, none⟩ v) := h.setCell hg v
theorem Below.next {w W W' : World} (h : Below w.heap.size w W) (hx : Below W.heap.size W W') : Below w.heap.size w W' := h.trans (hx.mono h.size)
theorem RB.lowB {w W wx wa : World} {A : Option Addr} {n c : Nat} {xs : List Nat} (h : RB wa wx.heap.size A n c xs) (h1 : w.heap.size ≤ W.heap.size) (h2 : Below W.heap.size W wx) : RB wa w.heap.size A n c xs := h.low (Nat.le_trans h1 h2.size)
/-- what Open gives -/
def Opened (K : Nat) (D R : List Nat) (E : Nat) (w : World) (e : Ending) (w' : World) : Prop :=
  ∃ A1 n1 c1 A2 n2 c2, e = .returned (.tuple #[.int .u8 (K : Int), .slice A1 n1 c1, .slice A2 n2 c2, .int .i64 (E : Int)]) ∧ RB w' w.heap.size A1 n1 c1 D ∧ RB w' w.heap.size A2 n2 c2 R ∧ Below w.heap.size w w'
theorem opened_no {E : Nat} {w w' : World} (h : Below w.heap.size w w') : Opened 0 [] [] E w (.returned (.tuple #[.int .u8 0, .slice none 0 0, .slice none 0 0, .int .i64 (E : Int)])) w' :=
  ⟨none, 0, 0, none, 0, 0, rfl, Row.nil_, Row.nil_, h⟩
theorem de_cases (xs : List Nat) : deE xs = 0 ∨ deE xs = 3 ∨ deE xs = 4 ∨ deE xs = 6 := by
  unfold deE
  repeat' split
  all_goals simp
set_option maxHeartbeats 4000000 in
theorem open_short (A : Option Addr) (n c : Nat) (xs : List Nat) (w : World) (hx : BR w A n xs) (hc : n ≤ c) (hm : c ≤ maxLen) (E : Nat) (hE : deE xs = E) (h0 : E ≠ 0) :
    Calls Try.prog 39 #[.slice A n c] w (Opened 0 [] [] E w) := by
  have HX := hide hx
  have HM := hide hm
  have HC := hide hc
  have HN := hide (show deN xs = 0 from by unfold deN; rw [if_neg (by omega)])
  have hcs := de_cases xs
  rw [hE] at hcs
  have HE := hide hE
  clear hx hm hc hE
  rcases hcs with hE | hE | hE | hE
  · exact absurd hE h0
  all_goals
    clear h0
    subst hE
    go_enter Try.func39, Try.ntmps39
    go_wp2_with fail
    (with_reducible refine (dataEnd_any A n c xs _ HX.out HC.out HM.out 0 _ HN.out HE.out).mono ?_)
    rintro e w' ⟨rfl, rfl⟩
    go_wp2_with fail
    exact bodyPost_ret (v := .tuple #[.int .u8 0, .slice none 0 0, .slice none 0 0, .int .i64 _]) (by simp [results, Try.results39, go_sem]) rfl (opened_no (Below.refl _ _))
theorem info_u8 : ∃ i, Try.prog.info? 5 = some i ∧ i.size = 1 := by
  obtain ⟨i, hi, _, hs, _⟩ := info_parts u8_info
  exact ⟨i, hi, hs⟩
set_option maxHeartbeats 4000000 in
set_option maxRecDepth 100000 in
theorem open_ok_eq (b o n c N : Nat) (xs : List Nat) (w : World) (hx : BR w (some ⟨b, o, none⟩) n xs) (hc : n ≤ c) (hm : c ≤ maxLen) (hE : deE xs = 0) (hN : deN xs = N) (hN5 : 5 ≤ N) (hN4 : N + 4 ≤ n) (hNb : N ≤ 8197) (S s : Nat) (hS : num ((xs.drop N).take 4) = S) (hs : adler (xs.take N) = s) (hSs : S = s) (hck : c = N + 4) (hn : n ≤ 100000) :
    Calls Try.prog 39 #[.slice (some ⟨b, o, none⟩) n c] w (Opened (xs.getD 1 0) ((xs.take N).drop 5) (xs.drop (N + 4)) 0 w) := by
  have HX := hide hx
  have HS := hide hS
  have Hs := hide hs
  have HM := hide hm
  have HC := hide hc
  have HE := hide hE
  have HN := hide hN
  have hsb : s < 4294967296 := by rw [← hs]; exact adler_lt _
  have w1 : IntKind.i64.wrap ((N : Int) + 4) = (N : Int) + 4 := IntWalk.i64_in _ (by omega)
  have p1 : (0 : Int) ≤ (N : Int) + 4 := by omega
  have t1 : ((N : Int) + 4).toNat = N + 4 := by omega
  have HR1 := hide (hx.take_ (m := N) (by omega))
  have HR2 := hide (hx.mid (i := N) (j := 4) (by omega))
  have HR3 := hide (hx.drop_ (m := N + 4) (by omega))
  have HRD := hide ((hx.take_ (m := N) (by omega)).drop_ (m := 5) (by omega))
  unfold maxLen at hm
  clear hx hE hN hS hs
  subst hck
  obtain rfl : n = N + 4 := by omega
  go_enter Try.func39, Try.ntmps39
  go_wp2_with fail
  (with_reducible refine (dataEnd_any (some ⟨b, o, none⟩) _ _ xs _ HX.out HC.out HM.out N 0 HN.out HE.out).mono ?_)
  rintro e w' ⟨rfl, rfl⟩
  go_wp2_with fail
  go_quiet (fail)
  subst hSs
  obtain ⟨b1, o1, K, eA, hK, hKb, hcK⟩ := HX.out.at_ (j := 1) (by omega)
  injection eA with eA
  injection eA with eA1 eA2
  subst eA1
  subst eA2
  have HKK := hide (show xs.getD 1 0 = K from getD_of hK)
  have z1 : ((S : Int) != (S : Int)) = false := by simp
  clear hK
  go_wp2_with fail
  (with_reducible refine (number_any _ 4 _ _ _ (HR2.out.drewN _) (by omega) S HS.out).mono ?_)
  rintro e w2 ⟨rfl, rfl⟩
  go_wp2_with fail
  (with_reducible refine (adler_any _ N _ _ _ (HR1.out.drewN _) (by unfold maxLen; omega) S Hs.out).mono ?_)
  rintro e w2 ⟨rfl, rfl⟩
  clear w1 p1 t1
  go_wp2_with fail
  have HBW := hide (below_drewN (Below.refl w.heap.size w) nq)
  generalize w.drewN nq = W at *
  have hsW : w.heap.size ≤ W.heap.size := HBW.out.size
  have KS : Hid (∀ w', Below W.heap.size W w' → w'.cell? ⟨b, o + 1, none⟩ = some (.int .u8 (K : Int))) := fun w' h => ((HBW.out.trans (h.mono hsW)).cell (p := ⟨b, o + 1, none⟩) (World.block_lt_of_cell? w ⟨b, o + 1, none⟩ hcK)).trans hcK
  have KD : Hid (∀ w', Below W.heap.size W w' → BR w' (some ⟨b, o + 5, none⟩) (N - 5) ((xs.take N).drop 5)) := fun w' h => HRD.out.below (HBW.out.trans (h.mono hsW))
  have KR : Hid (∀ w', Below W.heap.size W w' → BR w' (some ⟨b, o, none⟩) 0 (xs.drop (N + 4))) := fun w' h => by rw [List.drop_eq_nil_of_le (by rw [HX.out.len]; exact Nat.le_refl _)]; exact BR.nil_
  have i1 : (1 : Int) < (N : Int) + 4 := by omega
  have i2 : (5 : Int) ≤ (N : Int) := by omega
  have i3 : (0 : Int) ≤ 1 := by omega
  have i4 : (N : Int) ≤ (N : Int) + 4 := by omega
  have i5 : ¬ N + 4 = 5 := by omega
  go_region_held3 (fun w' => w'.cell? ⟨b, o + 1, none⟩ = some (.int .u8 (K : Int)))
    (exact KS.out _ (by ((repeat (first | (with_reducible assumption) | (with_reducible exact Below.refl _ _) | (with_reducible refine Below.drewS ?_) | (with_reducible refine Below.allocS ?_ _) | (with_reducible refine Below.setS ?_ (by first | omega | (simp; omega)) _))); (first | done | fail))))
    (first
      | (go_at_call 33; (with_reducible refine (clone_any ⟨b, o + 5, none⟩ (N - 5) _ _ _ (KD.out _ (by ((repeat (first | (with_reducible assumption) | (with_reducible exact Below.refl _ _) | (with_reducible refine Below.drewS ?_) | (with_reducible refine Below.allocS ?_ _) | (with_reducible refine Below.setS ?_ (by first | omega | (simp; omega)) _))); (first | done | fail)))) (by omega)).mono ?_); rintro e wa ⟨A1, c1, rfl, ha, hb1⟩; have hr1 := RB.lowB ha hsW (by ((repeat (first | (with_reducible assumption) | (with_reducible exact Below.refl _ _) | (with_reducible refine Below.drewS ?_) | (with_reducible refine Below.allocS ?_ _) | (with_reducible refine Below.setS ?_ (by first | omega | (simp; omega)) _))); (first | done | fail))); have E1 : Below W.heap.size W wa := Below.next (by ((repeat (first | (with_reducible assumption) | (with_reducible exact Below.refl _ _) | (with_reducible refine Below.drewS ?_) | (with_reducible refine Below.allocS ?_ _) | (with_reducible refine Below.setS ?_ (by first | omega | (simp; omega)) _))); (first | done | fail))) hb1; try (have G2 := RB.below hr2 (Below.next (by ((repeat (first | (with_reducible assumption) | (with_reducible exact Below.refl _ _) | (with_reducible refine Below.drewS ?_) | (with_reducible refine Below.allocS ?_ _) | (with_reducible refine Below.setS ?_ (by first | omega | (simp; omega)) _))); (first | done | fail))) hb1)))
      | (go_at_call 33; (with_reducible refine (clone_any ⟨b, o, none⟩ _ _ _ _ (KR.out _ (by ((repeat (first | (with_reducible assumption) | (with_reducible exact Below.refl _ _) | (with_reducible refine Below.drewS ?_) | (with_reducible refine Below.allocS ?_ _) | (with_reducible refine Below.setS ?_ (by first | omega | (simp; omega)) _))); (first | done | fail)))) (by omega)).mono ?_); rintro e wb ⟨A2, c2, rfl, hb, hb2⟩; have hr2 := RB.lowB hb hsW (by ((repeat (first | (with_reducible assumption) | (with_reducible exact Below.refl _ _) | (with_reducible refine Below.drewS ?_) | (with_reducible refine Below.allocS ?_ _) | (with_reducible refine Below.setS ?_ (by first | omega | (simp; omega)) _))); (first | done | fail))); have E2 : Below W.heap.size W wb := Below.next (by ((repeat (first | (with_reducible assumption) | (with_reducible exact Below.refl _ _) | (with_reducible refine Below.drewS ?_) | (with_reducible refine Below.allocS ?_ _) | (with_reducible refine Below.setS ?_ (by first | omega | (simp; omega)) _))); (first | done | fail))) hb2; try (have G1 := RB.below hr1 (Below.next (by ((repeat (first | (with_reducible assumption) | (with_reducible exact Below.refl _ _) | (with_reducible refine Below.drewS ?_) | (with_reducible refine Below.allocS ?_ _) | (with_reducible refine Below.setS ?_ (by first | omega | (simp; omega)) _))); (first | done | fail))) hb2))))
  all_goals
    go_wp2_with fail
    refine bodyPost_ret (v := .tuple #[.int .u8 (K : Int), .slice A1 (N - 5) c1, .slice A2 0 c2, .int .i64 0]) (by simp [results, Try.results39, go_sem]) rfl ?_
    rw [HKK.out]
    exact ⟨A1, _, c1, A2, _, c2, rfl, by first | exact G1 | exact hr1, by first | exact G2 | exact hr2, HBW.out.trans (Below.mono (by ((repeat (first | (with_reducible assumption) | (with_reducible exact Below.refl _ _) | (with_reducible refine Below.drewS ?_) | (with_reducible refine Below.allocS ?_ _) | (with_reducible refine Below.setS ?_ (by first | omega | (simp; omega)) _))); (first | done | fail))) hsW)⟩
set_option maxHeartbeats 4000000 in
set_option maxRecDepth 100000 in
theorem open_ok_gt (b o n c N : Nat) (xs : List Nat) (w : World) (hx : BR w (some ⟨b, o, none⟩) n xs) (hc : n ≤ c) (hm : c ≤ maxLen) (hE : deE xs = 0) (hN : deN xs = N) (hN5 : 5 ≤ N) (hN4 : N + 4 ≤ n) (hNb : N ≤ 8197) (S s : Nat) (hS : num ((xs.drop N).take 4) = S) (hs : adler (xs.take N) = s) (hSs : S = s) (hck : N + 4 < c) (hn : n ≤ 100000) :
    Calls Try.prog 39 #[.slice (some ⟨b, o, none⟩) n c] w (Opened (xs.getD 1 0) ((xs.take N).drop 5) (xs.drop (N + 4)) 0 w) := by
  have HX := hide hx
  have HS := hide hS
  have Hs := hide hs
  have HM := hide hm
  have HC := hide hc
  have HE := hide hE
  have HN := hide hN
  have hsb : s < 4294967296 := by rw [← hs]; exact adler_lt _
  have w1 : IntKind.i64.wrap ((N : Int) + 4) = (N : Int) + 4 := IntWalk.i64_in _ (by omega)
  have p1 : (0 : Int) ≤ (N : Int) + 4 := by omega
  have t1 : ((N : Int) + 4).toNat = N + 4 := by omega
  have HR1 := hide (hx.take_ (m := N) (by omega))
  have HR2 := hide (hx.mid (i := N) (j := 4) (by omega))
  have HR3 := hide (hx.drop_ (m := N + 4) (by omega))
  have HRD := hide ((hx.take_ (m := N) (by omega)).drop_ (m := 5) (by omega))
  unfold maxLen at hm
  clear hx hE hN hS hs
  go_enter Try.func39, Try.ntmps39
  go_wp2_with fail
  (with_reducible refine (dataEnd_any (some ⟨b, o, none⟩) _ _ xs _ HX.out HC.out HM.out N 0 HN.out HE.out).mono ?_)
  rintro e w' ⟨rfl, rfl⟩
  go_wp2_with fail
  go_quiet (fail)
  subst hSs
  obtain ⟨b1, o1, K, eA, hK, hKb, hcK⟩ := HX.out.at_ (j := 1) (by omega)
  injection eA with eA
  injection eA with eA1 eA2
  subst eA1
  subst eA2
  have HKK := hide (show xs.getD 1 0 = K from getD_of hK)
  have z1 : ((S : Int) != (S : Int)) = false := by simp
  clear hK
  go_wp2_with fail
  (with_reducible refine (number_any _ 4 _ _ _ (HR2.out.drewN _) (by omega) S HS.out).mono ?_)
  rintro e w2 ⟨rfl, rfl⟩
  go_wp2_with fail
  (with_reducible refine (adler_any _ N _ _ _ (HR1.out.drewN _) (by unfold maxLen; omega) S Hs.out).mono ?_)
  rintro e w2 ⟨rfl, rfl⟩
  clear w1 p1 t1
  go_wp2_with fail
  have HBW := hide (below_drewN (Below.refl w.heap.size w) nq)
  generalize w.drewN nq = W at *
  have hsW : w.heap.size ≤ W.heap.size := HBW.out.size
  have KS : Hid (∀ w', Below W.heap.size W w' → w'.cell? ⟨b, o + 1, none⟩ = some (.int .u8 (K : Int))) := fun w' h => ((HBW.out.trans (h.mono hsW)).cell (p := ⟨b, o + 1, none⟩) (World.block_lt_of_cell? w ⟨b, o + 1, none⟩ hcK)).trans hcK
  have KD : Hid (∀ w', Below W.heap.size W w' → BR w' (some ⟨b, o + 5, none⟩) (N - 5) ((xs.take N).drop 5)) := fun w' h => HRD.out.below (HBW.out.trans (h.mono hsW))
  have KR : Hid (∀ w', Below W.heap.size W w' → BR w' (some ⟨b, o + (N + 4), none⟩) (n - (N + 4)) (xs.drop (N + 4))) := fun w' h => HR3.out.below (HBW.out.trans (h.mono hsW))
  have i1 : (1 : Int) < (n : Int) := by omega
  have i2 : (5 : Int) ≤ (N : Int) := by omega
  have i3 : (0 : Int) ≤ 1 := by omega
  have i4 : (N : Int) ≤ (c : Int) := by omega
  have i5 : ¬ c = 5 := by omega
  go_region_held3 (fun w' => w'.cell? ⟨b, o + 1, none⟩ = some (.int .u8 (K : Int)))
    (exact KS.out _ (by ((repeat (first | (with_reducible assumption) | (with_reducible exact Below.refl _ _) | (with_reducible refine Below.drewS ?_) | (with_reducible refine Below.allocS ?_ _) | (with_reducible refine Below.setS ?_ (by first | omega | (simp; omega)) _))); (first | done | fail))))
    (first
      | (go_at_call 33; (with_reducible refine (clone_any ⟨b, o + 5, none⟩ (N - 5) _ _ _ (KD.out _ (by ((repeat (first | (with_reducible assumption) | (with_reducible exact Below.refl _ _) | (with_reducible refine Below.drewS ?_) | (with_reducible refine Below.allocS ?_ _) | (with_reducible refine Below.setS ?_ (by first | omega | (simp; omega)) _))); (first | done | fail)))) (by omega)).mono ?_); rintro e wa ⟨A1, c1, rfl, ha, hb1⟩; have hr1 := RB.lowB ha hsW (by ((repeat (first | (with_reducible assumption) | (with_reducible exact Below.refl _ _) | (with_reducible refine Below.drewS ?_) | (with_reducible refine Below.allocS ?_ _) | (with_reducible refine Below.setS ?_ (by first | omega | (simp; omega)) _))); (first | done | fail))); have E1 : Below W.heap.size W wa := Below.next (by ((repeat (first | (with_reducible assumption) | (with_reducible exact Below.refl _ _) | (with_reducible refine Below.drewS ?_) | (with_reducible refine Below.allocS ?_ _) | (with_reducible refine Below.setS ?_ (by first | omega | (simp; omega)) _))); (first | done | fail))) hb1; try (have G2 := RB.below hr2 (Below.next (by ((repeat (first | (with_reducible assumption) | (with_reducible exact Below.refl _ _) | (with_reducible refine Below.drewS ?_) | (with_reducible refine Below.allocS ?_ _) | (with_reducible refine Below.setS ?_ (by first | omega | (simp; omega)) _))); (first | done | fail))) hb1)))
      | (go_at_call 33; (with_reducible refine (clone_any ⟨b, o + (N + 4), none⟩ _ _ _ _ (KR.out _ (by ((repeat (first | (with_reducible assumption) | (with_reducible exact Below.refl _ _) | (with_reducible refine Below.drewS ?_) | (with_reducible refine Below.allocS ?_ _) | (with_reducible refine Below.setS ?_ (by first | omega | (simp; omega)) _))); (first | done | fail)))) (by omega)).mono ?_); rintro e wb ⟨A2, c2, rfl, hb, hb2⟩; have hr2 := RB.lowB hb hsW (by ((repeat (first | (with_reducible assumption) | (with_reducible exact Below.refl _ _) | (with_reducible refine Below.drewS ?_) | (with_reducible refine Below.allocS ?_ _) | (with_reducible refine Below.setS ?_ (by first | omega | (simp; omega)) _))); (first | done | fail))); have E2 : Below W.heap.size W wb := Below.next (by ((repeat (first | (with_reducible assumption) | (with_reducible exact Below.refl _ _) | (with_reducible refine Below.drewS ?_) | (with_reducible refine Below.allocS ?_ _) | (with_reducible refine Below.setS ?_ (by first | omega | (simp; omega)) _))); (first | done | fail))) hb2; try (have G1 := RB.below hr1 (Below.next (by ((repeat (first | (with_reducible assumption) | (with_reducible exact Below.refl _ _) | (with_reducible refine Below.drewS ?_) | (with_reducible refine Below.allocS ?_ _) | (with_reducible refine Below.setS ?_ (by first | omega | (simp; omega)) _))); (first | done | fail))) hb2))))
  all_goals
    go_wp2_with fail
    refine bodyPost_ret (v := .tuple #[.int .u8 (K : Int), .slice A1 (N - 5) c1, .slice A2 (n - (N + 4)) c2, .int .i64 0]) (by simp [results, Try.results39, go_sem]) rfl ?_
    rw [HKK.out]
    exact ⟨A1, _, c1, A2, _, c2, rfl, by first | exact G1 | exact hr1, by first | exact G2 | exact hr2, HBW.out.trans (Below.mono (by ((repeat (first | (with_reducible assumption) | (with_reducible exact Below.refl _ _) | (with_reducible refine Below.drewS ?_) | (with_reducible refine Below.allocS ?_ _) | (with_reducible refine Below.setS ?_ (by first | omega | (simp; omega)) _))); (first | done | fail))) hsW)⟩
set_option maxHeartbeats 4000000 in
set_option maxRecDepth 100000 in
theorem open_sum_eq (b o n c N : Nat) (xs : List Nat) (w : World) (hx : BR w (some ⟨b, o, none⟩) n xs) (hc : n ≤ c) (hm : c ≤ maxLen) (hE : deE xs = 0) (hN : deN xs = N) (hN5 : 5 ≤ N) (hN4 : N + 4 ≤ n) (hNb : N ≤ 8197) (S s : Nat) (hS : num ((xs.drop N).take 4) = S) (hs : adler (xs.take N) = s) (hSs : S ≠ s) (hck : c = N + 4) (_hn : n ≤ 100000) :
    Calls Try.prog 39 #[.slice (some ⟨b, o, none⟩) n c] w (Opened 0 [] [] 5 w) := by
  have HX := hide hx
  have HS := hide hS
  have Hs := hide hs
  have HM := hide hm
  have HC := hide hc
  have HE := hide hE
  have HN := hide hN
  have hsb : s < 4294967296 := by rw [← hs]; exact adler_lt _
  have w1 : IntKind.i64.wrap ((N : Int) + 4) = (N : Int) + 4 := IntWalk.i64_in _ (by omega)
  have p1 : (0 : Int) ≤ (N : Int) + 4 := by omega
  have t1 : ((N : Int) + 4).toNat = N + 4 := by omega
  have HR1 := hide (hx.take_ (m := N) (by omega))
  have HR2 := hide (hx.mid (i := N) (j := 4) (by omega))
  have HR3 := hide (hx.drop_ (m := N + 4) (by omega))
  have HRD := hide ((hx.take_ (m := N) (by omega)).drop_ (m := 5) (by omega))
  unfold maxLen at hm
  clear hx hE hN hS hs
  subst hck
  obtain rfl : n = N + 4 := by omega
  go_enter Try.func39, Try.ntmps39
  go_wp2_with fail
  (with_reducible refine (dataEnd_any (some ⟨b, o, none⟩) _ _ xs _ HX.out HC.out HM.out N 0 HN.out HE.out).mono ?_)
  rintro e w' ⟨rfl, rfl⟩
  go_wp2_with fail
  go_quiet (fail)
  go_wp2_with fail
  (with_reducible refine (number_any _ 4 _ _ _ (HR2.out.drewN _) (by omega) S HS.out).mono ?_)
  rintro e w2 ⟨rfl, rfl⟩
  go_wp2_with fail
  (with_reducible refine (adler_any _ N _ _ _ (HR1.out.drewN _) (by unfold maxLen; omega) s Hs.out).mono ?_)
  rintro e w2 ⟨rfl, rfl⟩
  have z1 : ((S : Int) == (s : Int)) = false := beq_eq_false_iff_ne.2 (by omega)
  have z2 : ((S : Int) != (s : Int)) = true := by simp only [bne, z1]; rfl
  have z3 : ¬ ((S : Int) = (s : Int)) := by omega
  have z4 : ¬ S = s := hSs
  go_wp2_with fail
  exact bodyPost_ret (v := .tuple #[.int .u8 0, .slice none 0 0, .slice none 0 0, .int .i64 5]) (by simp [results, Try.results39, go_sem]) rfl (opened_no (E := 5) (below_drewN (Below.refl _ _) _))
set_option maxHeartbeats 4000000 in
set_option maxRecDepth 100000 in
theorem open_sum_gt (b o n c N : Nat) (xs : List Nat) (w : World) (hx : BR w (some ⟨b, o, none⟩) n xs) (hc : n ≤ c) (hm : c ≤ maxLen) (hE : deE xs = 0) (hN : deN xs = N) (hN5 : 5 ≤ N) (hN4 : N + 4 ≤ n) (hNb : N ≤ 8197) (S s : Nat) (hS : num ((xs.drop N).take 4) = S) (hs : adler (xs.take N) = s) (hSs : S ≠ s) (hck : N + 4 < c) (_hn : n ≤ 100000) :
    Calls Try.prog 39 #[.slice (some ⟨b, o, none⟩) n c] w (Opened 0 [] [] 5 w) := by
  have HX := hide hx
  have HS := hide hS
  have Hs := hide hs
  have HM := hide hm
  have HC := hide hc
  have HE := hide hE
  have HN := hide hN
  have hsb : s < 4294967296 := by rw [← hs]; exact adler_lt _
  have w1 : IntKind.i64.wrap ((N : Int) + 4) = (N : Int) + 4 := IntWalk.i64_in _ (by omega)
  have p1 : (0 : Int) ≤ (N : Int) + 4 := by omega
  have t1 : ((N : Int) + 4).toNat = N + 4 := by omega
  have HR1 := hide (hx.take_ (m := N) (by omega))
  have HR2 := hide (hx.mid (i := N) (j := 4) (by omega))
  have HR3 := hide (hx.drop_ (m := N + 4) (by omega))
  have HRD := hide ((hx.take_ (m := N) (by omega)).drop_ (m := 5) (by omega))
  unfold maxLen at hm
  clear hx hE hN hS hs
  go_enter Try.func39, Try.ntmps39
  go_wp2_with fail
  (with_reducible refine (dataEnd_any (some ⟨b, o, none⟩) _ _ xs _ HX.out HC.out HM.out N 0 HN.out HE.out).mono ?_)
  rintro e w' ⟨rfl, rfl⟩
  go_wp2_with fail
  go_quiet (fail)
  go_wp2_with fail
  (with_reducible refine (number_any _ 4 _ _ _ (HR2.out.drewN _) (by omega) S HS.out).mono ?_)
  rintro e w2 ⟨rfl, rfl⟩
  go_wp2_with fail
  (with_reducible refine (adler_any _ N _ _ _ (HR1.out.drewN _) (by unfold maxLen; omega) s Hs.out).mono ?_)
  rintro e w2 ⟨rfl, rfl⟩
  have z1 : ((S : Int) == (s : Int)) = false := beq_eq_false_iff_ne.2 (by omega)
  have z2 : ((S : Int) != (s : Int)) = true := by simp only [bne, z1]; rfl
  have z3 : ¬ ((S : Int) = (s : Int)) := by omega
  have z4 : ¬ S = s := hSs
  go_wp2_with fail
  exact bodyPost_ret (v := .tuple #[.int .u8 0, .slice none 0 0, .slice none 0 0, .int .i64 5]) (by simp [results, Try.results39, go_sem]) rfl (opened_no (E := 5) (below_drewN (Below.refl _ _) _))
theorem open_any (A : Option Addr) (n c : Nat) (xs : List Nat) (w : World) (hx : BR w A n xs) (hc : n ≤ c) (hm : c ≤ maxLen) (hn : n ≤ 100000) (K : Nat) (D R : List Nat) (E : Nat) (hK : oK xs = K) (hD : oD xs = D) (hR : oR xs = R) (hE : opE xs = E) :
    Calls Try.prog 39 #[.slice A n c] w (Opened K D R E w) := by
  subst hK hD hR hE
  have hde := opE_de xs
  by_cases h0 : deE xs = 0
  · obtain ⟨g0, g1, g2⟩ := deE_zero h0
    have hl := hx.len
    have hN : deN xs = len3 xs + 5 := by unfold deN; rw [if_pos h0]
    obtain ⟨b, o, x, rfl, -⟩ := hx.at_ (j := 0) (by omega)
    rw [if_neg (by omega)] at hde
    by_cases hs : sum4 xs (len3 xs) = adler (xs.take (len3 xs + 5))
    · rw [if_neg (by omega)] at hde
      have e1 : oK xs = xs.getD 1 0 := by unfold oK; rw [if_pos hde]; rfl
      have e2 : oD xs = (xs.take (len3 xs + 5)).drop 5 := by unfold oD; rw [if_pos hde]; rfl
      have e3 : oR xs = xs.drop (len3 xs + 5 + 4) := by unfold oR; rw [if_pos hde]; rfl
      rw [hde, e1, e2, e3]
      rcases Nat.lt_or_ge (len3 xs + 5 + 4) c with hck | hck
      · exact open_ok_gt b o n c _ xs w hx hc hm h0 hN (by omega) (by omega) (by omega) _ _ rfl rfl hs hck hn
      · exact open_ok_eq b o n c _ xs w hx hc hm h0 hN (by omega) (by omega) (by omega) _ _ rfl rfl hs (by omega) hn
    · rw [if_pos hs] at hde
      have e1 : oK xs = 0 := by unfold oK; rw [if_neg (by omega)]
      have e2 : oD xs = [] := by unfold oD; rw [if_neg (by omega)]
      have e3 : oR xs = [] := by unfold oR; rw [if_neg (by omega)]
      rw [hde, e1, e2, e3]
      rcases Nat.lt_or_ge (len3 xs + 5 + 4) c with hck | hck
      · exact open_sum_gt b o n c _ xs w hx hc hm h0 hN (by omega) (by omega) (by omega) _ _ rfl rfl hs hck hn
      · exact open_sum_eq b o n c _ xs w hx hc hm h0 hN (by omega) (by omega) (by omega) _ _ rfl rfl hs (by omega) hn
  · rw [if_pos h0] at hde
    have e1 : oK xs = 0 := by unfold oK; rw [if_neg (by omega)]
    have e2 : oD xs = [] := by unfold oD; rw [if_neg (by omega)]
    have e3 : oR xs = [] := by unfold oR; rw [if_neg (by omega)]
    rw [e1, e2, e3]
    exact open_short A n c xs w hx hc hm _ hde.symm (by omega)
end Go.Proofs.Ytjmpnpflmdpdkaa
