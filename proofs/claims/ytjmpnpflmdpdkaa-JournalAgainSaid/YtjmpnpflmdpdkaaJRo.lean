/- The reference's Open of a frame, and where its results lie. -/
import Derived.Test.YtjmpnpflmdpdkaaJRb
namespace Go.Proofs.Ytjmpnpflmdpdkaa
open Go Go.RowKit FM

/-- 'append([]byte{}, xs...)': the new slice lies in a new block -/
theorem run_append_e3 (w : World) (ty : TypeId) (S : Addr) (A : Option Addr) (m c : Nat) (news : List Nat) (hr : BR w A m news) (hN : m ≤ 1000000) :
    ∃ A' c' w', (Builtin.append_ #[31, 31] ty #[.slice (some S) 0 0, .slice A m c]).run Try.prog w = .ok (.slice A' m c') w' ∧ BR w' A' m news ∧ Below w.heap.size w w' ∧ (0 < m → ∀ g, Blk A' g → w.heap.size ≤ g) ∧ m ≤ c' ∧ c' ≤ maxLen := by
  obtain ⟨i, hi, hz, hs, hb⟩ := info_parts u8_info
  have ht := Try.underlying31
  by_cases hm : m = 0
  · subst hm
    have hn : news = [] := List.eq_nil_of_length_eq_zero hr.len
    subst hn
    cases A with
    | none => exact ⟨some S, 0, w, by simp [Builtin.append_, run_underlying ht, sizeOf, typeInfo, hi, Builtin.lenOf, Builtin.firstCells, storeCells], BR.nil_, Below.refl _ _, fun h => absurd h (by omega), Nat.le_refl _, Nat.zero_le _⟩
    | some a =>
      have h2 := run_firstCells_some (P := Try.prog) w i.size 0 a 0 c ([] : List Value) (by simp) (fun j v e => by simp at e)
      exact ⟨some S, 0, w, by simp [Builtin.append_, run_underlying ht, sizeOf, typeInfo, hi, Builtin.lenOf, h2, storeCells], BR.nil_, Below.refl _ _, fun h => absurd h (by omega), Nat.le_refl _, Nat.zero_le _⟩
  · obtain ⟨b, o, e', hc⟩ := hr.1.2 (by omega)
    subst e'
    have hnews : ∀ j u, (cells .u8 news)[j]? = some u → w.cell? ((⟨b, o, none⟩ : Addr).add j) = some u := by
      intro j u hu
      rw [cells_getElem?] at hu
      obtain ⟨x, hx, rfl⟩ := Option.map_eq_some_iff.1 hu
      have ea : (⟨b, o, none⟩ : Addr).add j = ⟨b, o + j, none⟩ := by unfold Addr.add; split <;> simp_all
      rw [ea]
      exact hc j x hx
    have hr2 := run_append_grow (P := Try.prog) w 31 ty 5 i (.int .u8 0) ht hi hz S 0 0 [] (by simp) (fun j v e => by simp at e) ⟨b, o, none⟩ m c (cells .u8 news) (by rw [cells_length, hr.len, hs]; omega) hnews (by omega) (by omega) (growslice_fits (by omega) (by rw [hb]; omega))
    simp only [Nat.zero_add] at hr2
    refine ⟨_, _, _, hr2, ⟨⟨hr.len, fun _ => ⟨w.heap.size, 0, rfl, fun j x hx => ?_⟩⟩, hr.2⟩, (Below.refl _ _).drew.alloc (Nat.le_refl _) _, fun _ g hg => by rw [blk_some.1 hg]; exact Nat.le_refl _, grownCap_ge w m 0 5, grownCap_le_maxLen w m 0 5 (by unfold maxLen; omega)⟩
    rw [Nat.zero_add, cell_of_row _ w.heap.size j _ _ (0, 0) (heap_alloc_new w.drew _)]
    have hj : j < news.length := (List.getElem?_eq_some_iff.1 hx).1
    rw [Array.getElem?_append_left (by simp [cells_length]; exact hj)]
    simp [cells_getElem?, hx]
theorem step_append_e3 {w : World} {ops : Array Oper} {o : Oper} {a : Act} {K : Act → World → Prop} {Q : Exit → Act → World → Prop} {E : Prop} (hgd : o.guard = none) (s x : Operand)
    (ho : o.op = .call { callee := .builtin .append, args := #[s, x], argTypes := #[31, 31] })
    (S : Addr) (hs : a.eval s = .slice (some S) 0 0) (A : Option Addr) (m c : Nat) (news : List Nat) (hx : a.eval x = .slice A m c) (hr : BR w A m news) (hN : m ≤ 1000000) (base : Nat) (hbase : base ≤ w.heap.size)
    (h : ∀ A' c' w', BR w' A' m news → Below w.heap.size w w' → (0 < m → ∀ g, Blk A' g → base ≤ g) → m ≤ c' ∧ c' ≤ maxLen → K (a.put o.dst (.slice A' m c')) w') :
    if Region.wanted o (yielded ops a.tmps) = true then Oper.wp Try.prog o a w K Q else E := by
  have hw : Region.wanted o (yielded ops a.tmps) = true := by simp [Region.wanted, hgd]
  rw [if_pos hw]
  obtain ⟨A', c', w', hrun, h3, h4, h5, h6⟩ := run_append_e3 w o.type S A m c news hr hN
  unfold Oper.wp execOp
  simp only [ho, resolve, invoke, builtin, Sem.run_bind, Sem.run_pure, Result.andThen_ok, List.map_toArray, List.map_cons, List.map_nil, hs, hx, hrun]
  exact h A' c' w' h3 h4 (fun h0 g hg => Nat.le_trans hbase (h5 h0 g hg)) h6
/-- what a reader gives, and where it lies -/
def OpenedQ (K : Nat) (D R : List Nat) (E : Nat) (w : World) (e : Ending) (w' : World) : Prop :=
  ∃ A1 n1 c1 A2 n2 c2, e = .returned (.tuple #[.int .u8 (K : Int), .slice A1 n1 c1, .slice A2 n2 c2, .int .i64 (E : Int)]) ∧ BR w' A1 n1 D ∧ BR w' A2 n2 R ∧ Below w.heap.size w w' ∧ (0 < n1 → ∀ g, Blk A1 g → w.heap.size ≤ g) ∧ (0 < n2 → ∀ g, Blk A2 g → w.heap.size ≤ g) ∧ (E = 0 → n2 ≤ c2 ∧ c2 ≤ maxLen)
theorem openedq_no {E : Nat} {w w' : World} {e : Ending} (h0 : E ≠ 0) (h : OpenedR 0 [] [] E w e w') : OpenedQ 0 [] [] E w e w' := by
  obtain ⟨A1, n1, c1, A2, n2, c2, he, h1, h2, h3⟩ := h
  exact ⟨A1, n1, c1, A2, n2, c2, he, h1, h2, h3, fun h => by have := h1.len; simp at this; omega, fun h => by have := h2.len; simp at this; omega, fun h => absurd h h0⟩
set_option maxHeartbeats 8000000 in
set_option maxRecDepth 100000 in
theorem ropenq_eq (b o n c L : Nat) (xs : List Nat) (w : World) (hx : BR w (some ⟨b, o, none⟩) n xs) (hc : n ≤ c) (hm : c ≤ maxLen) (g0 : xs.getD 0 0 = 209) (hL : len3 xs = L) (hLb : L ≤ 8192) (hL9 : L + 9 ≤ n) (S s : Nat) (hS : num ((xs.drop (L + 5)).take 4) = S) (hs : adler (xs.take (L + 5)) = s) (hSs : S = s) (hck : c = L + 9) (hn : n ≤ 100000) :
    Calls Try.prog 36 #[.slice (some ⟨b, o, none⟩) n c] w (OpenedQ (xs.getD 1 0) ((xs.take (L + 5)).drop 5) (xs.drop (L + 9)) 0 w) := by
  have HX := hide hx
  have HS := hide hS
  have Hs := hide hs
  have hsb : s < 4294967296 := by rw [← hs]; exact adler_lt _
  obtain ⟨b1, o1, x0, eA, h00, -, hcell⟩ := hx.at_ (j := 0) (by omega)
  injection eA with eA
  injection eA with eA1 eA2
  subst eA1
  subst eA2
  rw [Nat.add_zero] at hcell
  obtain rfl : x0 = 209 := by rw [← g0]; exact (getD_of h00).symm
  have w5 : IntKind.i64.wrap ((L : Int) + 5) = (L : Int) + 5 := IntWalk.i64_in _ (by omega)
  have p5 : (0 : Int) ≤ (L : Int) + 5 := by omega
  have t5 : ((L : Int) + 5).toNat = L + 5 := by omega
  have w9 : IntKind.i64.wrap ((L : Int) + 9) = (L : Int) + 9 := IntWalk.i64_in _ (by omega)
  have p9 : (0 : Int) ≤ (L : Int) + 9 := by omega
  have t9 : ((L : Int) + 9).toNat = L + 9 := by omega
  have HM := hide (hx.mid (i := 2) (j := 3) (by omega))
  have HLL := hide (show num ((xs.drop 2).take 3) = L from hL)
  have HR1 := hide (hx.take_ (m := L + 5) (by omega))
  have HR2 := hide (hx.mid (i := L + 5) (j := 4) (by omega))
  have HR3 := hide (hx.drop_ (m := L + 9) (by omega))
  have HRD := hide ((hx.take_ (m := L + 5) (by omega)).drop_ (m := 5) (by omega))
  unfold maxLen at hm
  clear hx hL hS hs h00 g0
  subst hck
  obtain rfl : n = L + 9 := by omega
  go_enter Try.func36, Try.ntmps36
  go_wp2_with fail
  (with_reducible refine (rnumber_any _ 3 _ _ _ HM.out (by omega) L HLL.out).mono ?_)
  rintro e w' ⟨rfl, rfl⟩
  subst hSs
  obtain ⟨b1, o1, K, eA, hK, hKb, hcK⟩ := HX.out.at_ (j := 1) (by omega)
  injection eA with eA
  injection eA with eA1 eA2
  subst eA1
  subst eA2
  have HKK := hide (show xs.getD 1 0 = K from getD_of hK)
  have z1 : ((S : Int) != (S : Int)) = false := by simp
  clear hK
  go_wp2_with fail
  go_quiet (first
    | (go_at_call 46; (with_reducible exact Calls.quiet_of_same ((rnumber_any _ 4 _ _ _ (HR2.out.drewN _) (by omega) S HS.out).mono fun e w' h => ⟨h.1, h.2.symm⟩)))
    | (go_at_call 44; (with_reducible exact Calls.quiet_of_same ((radler_any _ (L + 5) _ _ _ (HR1.out.drewN _) (by unfold maxLen; omega) S Hs.out).mono fun e w' h => ⟨h.1, h.2.symm⟩))))
  go_wp2_with fail
  have HBW := hide (below_drewN (Below.refl w.heap.size w) nq)
  generalize w.drewN nq = W at *
  have hsW : w.heap.size ≤ W.heap.size := HBW.out.size
  have KS : Hid (∀ w', Below W.heap.size W w' → w'.cell? ⟨b, o + 1, none⟩ = some (.int .u8 (K : Int))) := fun w' h => ((HBW.out.trans (h.mono hsW)).cell (p := ⟨b, o + 1, none⟩) (World.block_lt_of_cell? w ⟨b, o + 1, none⟩ hcK)).trans hcK
  have KD : Hid (∀ w', Below W.heap.size W w' → BR w' (some ⟨b, o + 5, none⟩) L ((xs.take (L + 5)).drop 5)) := fun w' h => HRD.out.below (HBW.out.trans (h.mono hsW))
  have KR : Hid (∀ w', Below W.heap.size W w' → BR w' (some ⟨b, o, none⟩) 0 (xs.drop (L + 9))) := fun w' h => by rw [List.drop_eq_nil_of_le (by rw [HX.out.len]; exact Nat.le_refl _)]; exact BR.nil_
  have i1 : (1 : Int) < (L : Int) + 9 := by omega
  have i2 : (5 : Int) ≤ (L : Int) + 5 := by omega
  have i3 : (0 : Int) ≤ 1 := by omega
  have i4 : (L : Int) + 5 ≤ (L : Int) + 9 := by omega
  go_region_held3 (fun w' => w'.cell? ⟨b, o + 1, none⟩ = some (.int .u8 (K : Int)))
    (exact KS.out _ (by ((repeat (first | (with_reducible assumption) | (with_reducible exact Below.refl _ _) | (with_reducible refine Below.drewS ?_) | (with_reducible refine Below.allocS ?_ _) | (with_reducible refine Below.setS ?_ (by first | omega | (simp; omega)) _))); (first | done | fail))))
    (first
      | (refine step_append_e3 (by rfl) _ _ (by rfl) _ (by rfl) (some ⟨b, o + 5, none⟩) L _ ((xs.take (L + 5)).drop 5) (by rfl) (KD.out _ (by ((repeat (first | (with_reducible assumption) | (with_reducible exact Below.refl _ _) | (with_reducible refine Below.drewS ?_) | (with_reducible refine Below.allocS ?_ _) | (with_reducible refine Below.setS ?_ (by first | omega | (simp; omega)) _))); (first | done | fail)))) (by omega) W.heap.size (szB (by ((repeat (first | (with_reducible assumption) | (with_reducible exact Below.refl _ _) | (with_reducible refine Below.drewS ?_) | (with_reducible refine Below.allocS ?_ _) | (with_reducible refine Below.setS ?_ (by first | omega | (simp; omega)) _))); (first | done | fail)))) ?_; intro A1 c1 wa hr1 hb1 hs1 hc1; have E1 : Below W.heap.size W wa := Below.next (by ((repeat (first | (with_reducible assumption) | (with_reducible exact Below.refl _ _) | (with_reducible refine Below.drewS ?_) | (with_reducible refine Below.allocS ?_ _) | (with_reducible refine Below.setS ?_ (by first | omega | (simp; omega)) _))); (first | done | fail))) hb1; try (have G2 := BR.below hr2 (Below.next (by ((repeat (first | (with_reducible assumption) | (with_reducible exact Below.refl _ _) | (with_reducible refine Below.drewS ?_) | (with_reducible refine Below.allocS ?_ _) | (with_reducible refine Below.setS ?_ (by first | omega | (simp; omega)) _))); (first | done | fail))) hb1)))
      | (refine step_append_e3 (by rfl) _ _ (by rfl) _ (by rfl) (some ⟨b, o, none⟩) 0 _ (xs.drop (L + 9)) (by rfl) (KR.out _ (by ((repeat (first | (with_reducible assumption) | (with_reducible exact Below.refl _ _) | (with_reducible refine Below.drewS ?_) | (with_reducible refine Below.allocS ?_ _) | (with_reducible refine Below.setS ?_ (by first | omega | (simp; omega)) _))); (first | done | fail)))) (by omega) W.heap.size (szB (by ((repeat (first | (with_reducible assumption) | (with_reducible exact Below.refl _ _) | (with_reducible refine Below.drewS ?_) | (with_reducible refine Below.allocS ?_ _) | (with_reducible refine Below.setS ?_ (by first | omega | (simp; omega)) _))); (first | done | fail)))) ?_; intro A2 c2 wb hr2 hb2 hs2 hc2; have E2 : Below W.heap.size W wb := Below.next (by ((repeat (first | (with_reducible assumption) | (with_reducible exact Below.refl _ _) | (with_reducible refine Below.drewS ?_) | (with_reducible refine Below.allocS ?_ _) | (with_reducible refine Below.setS ?_ (by first | omega | (simp; omega)) _))); (first | done | fail))) hb2; try (have G1 := BR.below hr1 (Below.next (by ((repeat (first | (with_reducible assumption) | (with_reducible exact Below.refl _ _) | (with_reducible refine Below.drewS ?_) | (with_reducible refine Below.allocS ?_ _) | (with_reducible refine Below.setS ?_ (by first | omega | (simp; omega)) _))); (first | done | fail))) hb2))))
  all_goals
    go_wp2_with fail
    refine bodyPost_ret (v := .tuple #[.int .u8 (K : Int), .slice A1 L c1, .slice A2 0 c2, .int .i64 0]) (by simp [results, Try.results36, go_sem]) rfl ?_
    rw [HKK.out]
    exact ⟨A1, _, c1, A2, _, c2, rfl, by first | exact G1 | exact hr1, by first | exact G2 | exact hr2, HBW.out.trans (Below.mono (by ((repeat (first | (with_reducible assumption) | (with_reducible exact Below.refl _ _) | (with_reducible refine Below.drewS ?_) | (with_reducible refine Below.allocS ?_ _) | (with_reducible refine Below.setS ?_ (by first | omega | (simp; omega)) _))); (first | done | fail))) hsW), fun h0 g hg => Nat.le_trans hsW (hs1 h0 g hg), fun h0 g hg => Nat.le_trans hsW (hs2 h0 g hg), fun _ => hc2⟩
set_option maxHeartbeats 8000000 in
set_option maxRecDepth 100000 in
theorem ropenq_gt (b o n c L : Nat) (xs : List Nat) (w : World) (hx : BR w (some ⟨b, o, none⟩) n xs) (hc : n ≤ c) (hm : c ≤ maxLen) (g0 : xs.getD 0 0 = 209) (hL : len3 xs = L) (hLb : L ≤ 8192) (hL9 : L + 9 ≤ n) (S s : Nat) (hS : num ((xs.drop (L + 5)).take 4) = S) (hs : adler (xs.take (L + 5)) = s) (hSs : S = s) (hck : L + 9 < c) (hn : n ≤ 100000) :
    Calls Try.prog 36 #[.slice (some ⟨b, o, none⟩) n c] w (OpenedQ (xs.getD 1 0) ((xs.take (L + 5)).drop 5) (xs.drop (L + 9)) 0 w) := by
  have HX := hide hx
  have HS := hide hS
  have Hs := hide hs
  have hsb : s < 4294967296 := by rw [← hs]; exact adler_lt _
  obtain ⟨b1, o1, x0, eA, h00, -, hcell⟩ := hx.at_ (j := 0) (by omega)
  injection eA with eA
  injection eA with eA1 eA2
  subst eA1
  subst eA2
  rw [Nat.add_zero] at hcell
  obtain rfl : x0 = 209 := by rw [← g0]; exact (getD_of h00).symm
  have w5 : IntKind.i64.wrap ((L : Int) + 5) = (L : Int) + 5 := IntWalk.i64_in _ (by omega)
  have p5 : (0 : Int) ≤ (L : Int) + 5 := by omega
  have t5 : ((L : Int) + 5).toNat = L + 5 := by omega
  have w9 : IntKind.i64.wrap ((L : Int) + 9) = (L : Int) + 9 := IntWalk.i64_in _ (by omega)
  have p9 : (0 : Int) ≤ (L : Int) + 9 := by omega
  have t9 : ((L : Int) + 9).toNat = L + 9 := by omega
  have HM := hide (hx.mid (i := 2) (j := 3) (by omega))
  have HLL := hide (show num ((xs.drop 2).take 3) = L from hL)
  have HR1 := hide (hx.take_ (m := L + 5) (by omega))
  have HR2 := hide (hx.mid (i := L + 5) (j := 4) (by omega))
  have HR3 := hide (hx.drop_ (m := L + 9) (by omega))
  have HRD := hide ((hx.take_ (m := L + 5) (by omega)).drop_ (m := 5) (by omega))
  unfold maxLen at hm
  clear hx hL hS hs h00 g0
  go_enter Try.func36, Try.ntmps36
  go_wp2_with fail
  (with_reducible refine (rnumber_any _ 3 _ _ _ HM.out (by omega) L HLL.out).mono ?_)
  rintro e w' ⟨rfl, rfl⟩
  subst hSs
  obtain ⟨b1, o1, K, eA, hK, hKb, hcK⟩ := HX.out.at_ (j := 1) (by omega)
  injection eA with eA
  injection eA with eA1 eA2
  subst eA1
  subst eA2
  have HKK := hide (show xs.getD 1 0 = K from getD_of hK)
  have z1 : ((S : Int) != (S : Int)) = false := by simp
  clear hK
  go_wp2_with fail
  go_quiet (first
    | (go_at_call 46; (with_reducible exact Calls.quiet_of_same ((rnumber_any _ 4 _ _ _ (HR2.out.drewN _) (by omega) S HS.out).mono fun e w' h => ⟨h.1, h.2.symm⟩)))
    | (go_at_call 44; (with_reducible exact Calls.quiet_of_same ((radler_any _ (L + 5) _ _ _ (HR1.out.drewN _) (by unfold maxLen; omega) S Hs.out).mono fun e w' h => ⟨h.1, h.2.symm⟩))))
  go_wp2_with fail
  have HBW := hide (below_drewN (Below.refl w.heap.size w) nq)
  generalize w.drewN nq = W at *
  have hsW : w.heap.size ≤ W.heap.size := HBW.out.size
  have KS : Hid (∀ w', Below W.heap.size W w' → w'.cell? ⟨b, o + 1, none⟩ = some (.int .u8 (K : Int))) := fun w' h => ((HBW.out.trans (h.mono hsW)).cell (p := ⟨b, o + 1, none⟩) (World.block_lt_of_cell? w ⟨b, o + 1, none⟩ hcK)).trans hcK
  have KD : Hid (∀ w', Below W.heap.size W w' → BR w' (some ⟨b, o + 5, none⟩) L ((xs.take (L + 5)).drop 5)) := fun w' h => HRD.out.below (HBW.out.trans (h.mono hsW))
  have KR : Hid (∀ w', Below W.heap.size W w' → BR w' (some ⟨b, o + (L + 9), none⟩) (n - (L + 9)) (xs.drop (L + 9))) := fun w' h => HR3.out.below (HBW.out.trans (h.mono hsW))
  have i1 : (1 : Int) < (n : Int) := by omega
  have i2 : (5 : Int) ≤ (L : Int) + 5 := by omega
  have i3 : (0 : Int) ≤ 1 := by omega
  have i4 : (L : Int) + 5 ≤ (c : Int) := by omega
  have i8 : ¬ c = 5 := by omega
  have i5 : ¬ c = L + 9 := by omega
  have i6 : (L : Int) + 9 ≤ (n : Int) := by omega
  have i7 : (n : Int) ≤ (c : Int) := by omega
  go_region_held3 (fun w' => w'.cell? ⟨b, o + 1, none⟩ = some (.int .u8 (K : Int)))
    (exact KS.out _ (by ((repeat (first | (with_reducible assumption) | (with_reducible exact Below.refl _ _) | (with_reducible refine Below.drewS ?_) | (with_reducible refine Below.allocS ?_ _) | (with_reducible refine Below.setS ?_ (by first | omega | (simp; omega)) _))); (first | done | fail))))
    (first
      | (refine step_append_e3 (by rfl) _ _ (by rfl) _ (by rfl) (some ⟨b, o + 5, none⟩) L _ ((xs.take (L + 5)).drop 5) (by rfl) (KD.out _ (by ((repeat (first | (with_reducible assumption) | (with_reducible exact Below.refl _ _) | (with_reducible refine Below.drewS ?_) | (with_reducible refine Below.allocS ?_ _) | (with_reducible refine Below.setS ?_ (by first | omega | (simp; omega)) _))); (first | done | fail)))) (by omega) W.heap.size (szB (by ((repeat (first | (with_reducible assumption) | (with_reducible exact Below.refl _ _) | (with_reducible refine Below.drewS ?_) | (with_reducible refine Below.allocS ?_ _) | (with_reducible refine Below.setS ?_ (by first | omega | (simp; omega)) _))); (first | done | fail)))) ?_; intro A1 c1 wa hr1 hb1 hs1 hc1; have E1 : Below W.heap.size W wa := Below.next (by ((repeat (first | (with_reducible assumption) | (with_reducible exact Below.refl _ _) | (with_reducible refine Below.drewS ?_) | (with_reducible refine Below.allocS ?_ _) | (with_reducible refine Below.setS ?_ (by first | omega | (simp; omega)) _))); (first | done | fail))) hb1; try (have G2 := BR.below hr2 (Below.next (by ((repeat (first | (with_reducible assumption) | (with_reducible exact Below.refl _ _) | (with_reducible refine Below.drewS ?_) | (with_reducible refine Below.allocS ?_ _) | (with_reducible refine Below.setS ?_ (by first | omega | (simp; omega)) _))); (first | done | fail))) hb1)))
      | (refine step_append_e3 (by rfl) _ _ (by rfl) _ (by rfl) (some ⟨b, o + (L + 9), none⟩) (n - (L + 9)) _ (xs.drop (L + 9)) (by rfl) (KR.out _ (by ((repeat (first | (with_reducible assumption) | (with_reducible exact Below.refl _ _) | (with_reducible refine Below.drewS ?_) | (with_reducible refine Below.allocS ?_ _) | (with_reducible refine Below.setS ?_ (by first | omega | (simp; omega)) _))); (first | done | fail)))) (by omega) W.heap.size (szB (by ((repeat (first | (with_reducible assumption) | (with_reducible exact Below.refl _ _) | (with_reducible refine Below.drewS ?_) | (with_reducible refine Below.allocS ?_ _) | (with_reducible refine Below.setS ?_ (by first | omega | (simp; omega)) _))); (first | done | fail)))) ?_; intro A2 c2 wb hr2 hb2 hs2 hc2; have E2 : Below W.heap.size W wb := Below.next (by ((repeat (first | (with_reducible assumption) | (with_reducible exact Below.refl _ _) | (with_reducible refine Below.drewS ?_) | (with_reducible refine Below.allocS ?_ _) | (with_reducible refine Below.setS ?_ (by first | omega | (simp; omega)) _))); (first | done | fail))) hb2; try (have G1 := BR.below hr1 (Below.next (by ((repeat (first | (with_reducible assumption) | (with_reducible exact Below.refl _ _) | (with_reducible refine Below.drewS ?_) | (with_reducible refine Below.allocS ?_ _) | (with_reducible refine Below.setS ?_ (by first | omega | (simp; omega)) _))); (first | done | fail))) hb2))))
  all_goals
    go_wp2_with fail
    refine bodyPost_ret (v := .tuple #[.int .u8 (K : Int), .slice A1 L c1, .slice A2 (n - (L + 9)) c2, .int .i64 0]) (by simp [results, Try.results36, go_sem]) rfl ?_
    rw [HKK.out]
    exact ⟨A1, _, c1, A2, _, c2, rfl, by first | exact G1 | exact hr1, by first | exact G2 | exact hr2, HBW.out.trans (Below.mono (by ((repeat (first | (with_reducible assumption) | (with_reducible exact Below.refl _ _) | (with_reducible refine Below.drewS ?_) | (with_reducible refine Below.allocS ?_ _) | (with_reducible refine Below.setS ?_ (by first | omega | (simp; omega)) _))); (first | done | fail))) hsW), fun h0 g hg => Nat.le_trans hsW (hs1 h0 g hg), fun h0 g hg => Nat.le_trans hsW (hs2 h0 g hg), fun _ => hc2⟩
theorem ropenq_any (A : Option Addr) (n c : Nat) (xs : List Nat) (w : World) (hx : BR w A n xs) (hc : n ≤ c) (hm : c ≤ maxLen) (hn : n ≤ 100000) (K : Nat) (D R : List Nat) (E : Nat) (hK : oK xs = K) (hD : oD xs = D) (hR : oR xs = R) (hE : opE xs = E) :
    Calls Try.prog 36 #[.slice A n c] w (OpenedQ K D R E w) := by
  subst hK hD hR hE
  have hde := opE_de xs
  by_cases h0 : deE xs = 0
  · obtain ⟨g0, g1, g2⟩ := deE_zero h0
    have hl := hx.len
    obtain ⟨b, o, x, rfl, -⟩ := hx.at_ (j := 0) (by omega)
    rw [if_neg (by omega)] at hde
    by_cases hs : sum4 xs (len3 xs) = adler (xs.take (len3 xs + 5))
    · rw [if_neg (by omega)] at hde
      have e1 : oK xs = xs.getD 1 0 := by unfold oK; rw [if_pos hde]; rfl
      have e2 : oD xs = (xs.take (len3 xs + 5)).drop 5 := by unfold oD; rw [if_pos hde]; rfl
      have e3 : oR xs = xs.drop (len3 xs + 9) := by unfold oR; rw [if_pos hde]; rfl
      rw [hde, e1, e2, e3]
      rcases Nat.lt_or_ge (len3 xs + 9) c with hck | hck
      · exact ropenq_gt b o n c _ xs w hx hc hm g0 rfl g1 (by omega) _ _ rfl rfl hs hck hn
      · exact ropenq_eq b o n c _ xs w hx hc hm g0 rfl g1 (by omega) _ _ rfl rfl hs (by omega) hn
    · rw [if_pos hs] at hde
      have e1 : oK xs = 0 := by unfold oK; rw [if_neg (by omega)]
      have e2 : oD xs = [] := by unfold oD; rw [if_neg (by omega)]
      have e3 : oR xs = [] := by unfold oR; rw [if_neg (by omega)]
      rw [hde, e1, e2, e3]
      exact (ropen_sum b o n c _ xs w hx hc hm g0 rfl g1 (by omega) _ _ rfl rfl hs hn).mono fun e w' h => openedq_no (by omega) h
  · rw [if_pos h0] at hde
    have e1 : oK xs = 0 := by unfold oK; rw [if_neg (by omega)]
    have e2 : oD xs = [] := by unfold oD; rw [if_neg (by omega)]
    have e3 : oR xs = [] := by unfold oR; rw [if_neg (by omega)]
    rw [e1, e2, e3]
    exact (ropen_short A n c xs w hx hc hm _ hde.symm (by omega)).mono fun e w' h => openedq_no (by omega) h
end Go.Proofs.Ytjmpnpflmdpdkaa
