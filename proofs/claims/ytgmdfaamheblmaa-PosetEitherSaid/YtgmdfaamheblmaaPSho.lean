/- The shortest cycle from a vertex. -/
import Derived.Test.YtgmdfaamheblmaaPEnd
import Derived.StillTailTactics
namespace Go.Proofs.Ytgmdfaamheblmaa
open Go Go.RowKit PM

theorem ir_lit1 (w : World) (base x : Nat) (hb : base ≤ w.heap.size) : IR (w.alloc (.cells #[.int .i64 (x : Int)] 3)) base (some ⟨w.heap.size, 0, none⟩) 1 1 [x] :=
  ⟨rfl, .inr ⟨w.heap.size, #[.int .i64 (x : Int)], rfl, hb, heap_alloc_new w _, Nat.le_refl _, by simp [maxLen], rfl, fun j v hj => by
    rcases j with _ | j
    · simp at hj; exact ⟨_, hj.symm⟩
    · simp at hj, fun j u hj => by
    rcases j with _ | j
    · simp at hj; subst hj; rfl
    · simp at hj⟩⟩
section
variable {w : World} {ops : Array Oper} {rest : List Oper} {o : Oper} {a : Act} {Q : Act → Prop}
theorem still_mid (hgd : o.guard = none) (x : Operand) (ho : o.op = .load 54 x) (g k : Nat) (hx : a.eval x = .pointer (some ⟨g, k, none⟩)) (R : Nat → Nat → Bool) (hr : w.rangeAt g k (cells .u32 (rowsR R)))
    (h : wpStill Try.prog ops w Q rest (a.put o.dst (.agg (cR R)))) : wpStill Try.prog ops w Q (o :: rest) a := by
  refine wpStill_step fun K hK => ?_
  have hw : Region.wanted o (yielded ops a.tmps) = true := by simp [Region.wanted, hgd]
  rw [if_pos hw]
  have hl := run_loadVar_mid (P := Try.prog) w g k 54 _ _ hr Try.underlying54 rfl (by rw [cellsR_len]; kernel_rfl)
  unfold Oper.still execOp
  simp only [ho, hx, Instr.loadAt, Instr.sureAddr, Sem.run_bind, Sem.run_pure, Result.andThen_ok, hl, Oper.stillUpon]
  exact ⟨trivial, hK _ h⟩
end
theorem ir_or_ne {w : World} {base n c g : Nat} {A : Option Addr} {us : List Nat} {R : Nat → Nat → Bool} (h : IR w base A n c us) (h2 : OR w g R) : ∀ b o, A = some ⟨b, o, none⟩ → b ≠ g := by
  rintro b o e rfl
  rcases h.2 with ⟨h0, _⟩ | ⟨g', cur, h0, _, hg, _⟩
  · rw [h0] at e; cases e
  · rw [h0] at e; injection e with e; injection e with e1 e2
    subst e1
    have h3 := h2.row
    rw [hg] at h3
    injection h3 with h3
    injection h3 with _ h4 _
    exact absurd h4 (by decide)
set_option maxHeartbeats 8000000 in
theorem shortest_any (n : Nat) (T : Nat → Nat → Bool) (K s : Nat) (Es : List (Nat → Nat → Bool)) (b0 q c : Nat) (A : Option Addr) (w : World) (hn : n ≤ 24) (hT : Fits n T) (hF : Fewest T K s) (hK : K < n) (hs : s < n)
    (hq : q = K + 2) (hE : ∀ k, k ≤ K → Es[k + 1]? = some (we n T k)) (he : ER w b0 A q c Es) (whole : List Nat) (hw : s :: pathP n T s K s = whole) :
    Calls Try.prog 46 #[.int .i64 (n : Int), .agg (cR T), .slice A q c, .int .i64 (s : Int)] w fun e w' => (∃ A' c', e = .returned (.slice A' whole.length c') ∧ IR w' w.heap.size A' whole.length c' whole) ∧ Below w.heap.size w w' := by
  have HT := hide hT
  have HE := hide hE
  have HW := hide hw
  have HR := hide he
  have HF := hide hF.at_
  obtain ⟨g, rfl, hg0, hg⟩ := he.head (by omega)
  subst hq
  clear hT hF hE he hw
  go_enter Try.func46, Try.ntmps46
  go_wp2_with fail
  generalize hW : w.alloc _ = W at *
  obtain ⟨B, o5⟩ := boxO1 hW T rfl
  have hsz : W.heap.size = w.heap.size + 1 := by rw [← hW]; simp
  clear hW
  have F0 : Below w.heap.size w (W.alloc (.cells #[.int .i64 (s : Int)] 3)) := B.alloc (by omega) _
  have r0 := ir_lit1 W w.heap.size s B.size
  have o0 := o5.below' ((Below.refl _ _).alloc (Nat.le_refl _) (.cells #[.int .i64 (s : Int)] 3))
  rw [hsz] at r0
  go_loopw [9, 10, 11] (fun v9 v10 v11 wr => ∃ (k a x q9 : Nat) (A9 : Option Addr) (c9 : Nat) (row : List Nat), v9 = .slice A9 q9 c9 ∧ v10 = .int .i64 (x : Int) ∧ v11 = .int .i64 (k : Int) ∧ IR wr w.heap.size A9 q9 c9 row ∧ Hid (q9 = a + 1) ∧ a + k = K ∧ x < n ∧ Hid (Wn T (k + 1) x s) ∧ Hid (row ++ pathP n T s k x = whole) ∧ Below w.heap.size w wr ∧ OR wr w.heap.size T ∧ (∀ b o, A9 = some ⟨b, o, none⟩ → b ≠ w.heap.size)) (fun _ _ v11 _ => (RowKit.intOf v11).toNat)
  case atStart => exact ⟨K, 0, s, 1, _, 1, [s], rfl, rfl, rfl, r0, hide rfl, by omega, hs, HF, HW, F0, o0, fun b o e => by injection e with e; injection e with e; omega⟩
  case round =>
    clear B o5 F0 r0 o0
    obtain ⟨k, a, x, q9, A9, c9, row, rfl, rfl, rfl, r9, hq9, hak, hx, HN, HP, B, o5, hne⟩ := hrel
    rcases k with _ | k
    · have d2 : decide ((1 : Int) ≤ ((0 : Nat) : Int)) = false := rfl
      have hl : row = whole := by have := HP.out; rwa [show pathP n T s 0 x = [] from rfl, List.append_nil] at this
      clear HP
      obtain rfl := hl
      obtain rfl := r9.len
      go_wp2_with fail
      go_ret
      exact ⟨⟨_, _, rfl, r9⟩, B⟩
    · obtain ⟨y, hy, hyn, hty, hwy⟩ := path_next HT.out HN.out
      have HP2 := hide (show (row ++ [y]) ++ pathP n T s k y = whole from by
        have h1 := HP.out
        rw [show pathP n T s (k + 1) x = least n (fun i => T x i && we n T k i s) :: pathP n T s k (least n fun i => T x i && we n T k i s) from rfl, hy] at h1
        rw [List.append_assoc]; exact h1)
      have HY := hide hy
      have HW2 := hide hwy
      clear hy hwy hty HP HN
      have hx24 : x < 24 := by omega
      have i1 : (0 : Int) ≤ (x : Int) := by omega
      have i2 : (x : Int) < 24 := by omega
      have k1 : (1 : Int) ≤ ((k + 1 : Nat) : Int) := by omega
      have k2 : (0 : Int) ≤ ((k + 1 : Nat) : Int) := by omega
      have k3 : (k : Int) + 1 < (K : Int) + 2 := by omega
      have k4 : (0 : Int) ≤ (k : Int) + 1 := by omega
      have k5 : (1 : Int) ≤ (k : Int) + 1 := by omega
      have z2 := o5.cell hx24
      go_wp2_with fail
      refine wp_region_still_tail 9 (by kernel_rfl) (by kernel_rfl) ?_
      simp only [List.take_succ_cons, List.take_zero, List.drop_succ_cons, List.drop_zero]
      iterate 7 still_step
      refine still_mid rfl _ rfl g ((k + 1) * 24) rfl (we n T k) ((HR.out.below B.drew).range (HE.out k (by omega))) ?_
      still_step
      refine wpStill_nil ?_
      change wpList _ _ _ _ _ wr.drew
      have hgo := r9.below (Below.refl _ _).drew
      go_wp2_with fail
      refine (firstRet_any n (T x) (we n T k) s _ hn (by omega) y HY.out).mono ?_
      rintro e w7 ⟨rfl, hb⟩
      have B7 := B.drew.trans (hb.mono B.size)
      have hb' := (Below.refl wr.heap.size wr).drew.trans hb
      have o7 := o5.below' hb'
      have r7 := r9.below hb'
      have hs7 := B7.size
      have hg7 := o7.lt
      have HBF := hide hs7
      clear hb hb' o5 r9 B z2
      have F : Below w7.heap.size w7 (w7.alloc (.cells #[.int .i64 (y : Int)] 3)) := (Below.refl _ _).alloc (Nat.le_refl _) _
      go_wp2_with (at_builtin; refine wpList_append_ir rfl _ _ 33 rfl 8 Try.underlying33 int_info w.heap.size _ q9 c9 row rfl (r7.below F) w7.heap.size 0 1 y rfl (Box.new w7 #[.int .i64 (y : Int)] 3).cell (by omega) (q9 + 1) rfl (by have := hq9.out; omega) (by have := HBF.out; simp; omega) ?_; intro A10 c10 w10 hr10 hG10)
      have o10 := hG10.or (o7.below' F) hne
      have B10 := (B7.trans (F.mono B7.size)).trans hG10.1
      go_roundw
      case measure => simp [RowKit.intOf]
      case rel => exact ⟨k, a + 1, y, q9 + 1, A10, c10, row ++ [y], rfl, rfl, by go_num, hr10, hide (by have := hq9.out; omega), by omega, hyn, HW2, HP2, B10, o10, ir_or_ne hr10 o10⟩
end Go.Proofs.Ytgmdfaamheblmaa
