/- Valid digraphs. -/
import Derived.Test.YtgmdfaamheblmaaPCmp
namespace Go.Proofs.Ytgmdfaamheblmaa
open Go Go.RowKit PM

theorem drop_atA {xs : List (Int × Int)} {j : Nat} {x : Int × Int} (h : xs[j]? = some x) : xs.drop j = x :: xs.drop (j + 1) := by
  obtain ⟨hj, e⟩ := List.getElem?_eq_some_iff.1 h
  rw [List.drop_eq_getElem_cons hj, e]
theorem vL_bad {n : Int} {q : Option (Int × Int)} {x y : Int} {l : List (Int × Int)} (h : ¬((0 ≤ x ∧ x < n) ∧ (0 ≤ y ∧ y < n) ∧ x ≠ y)) : vL n q ((x, y) :: l) = false := by
  unfold vL
  rw [show okA n (x, y) = false from decide_eq_false h]
  rfl
theorem vL_good {n : Int} {q : Option (Int × Int)} {x y : Int} {l : List (Int × Int)} (h : (0 ≤ x ∧ x < n) ∧ (0 ≤ y ∧ y < n) ∧ x ≠ y) (h2 : ∀ p, q = some p → ltA p (x, y) = true) : vL n q ((x, y) :: l) = vL n (some (x, y)) l := by
  conv => lhs; unfold vL
  rw [show okA n (x, y) = true from decide_eq_true h]
  cases q with
  | none => rfl
  | some p => simp only; rw [h2 p rfl]; rfl
theorem vL_bad2 {n : Int} {p : Int × Int} {x y : Int} {l : List (Int × Int)} (h2 : ltA p (x, y) = false) : vL n (some p) ((x, y) :: l) = false := by
  unfold vL
  simp only
  rw [h2]
  simp
set_option maxHeartbeats 4000000 in
theorem valid_loop (n : Int) (A : Option Addr) (m c : Nat) (l : List (Int × Int)) (w : World) (hx : YL w A m l) (hm : m ≤ maxLen) (hn : 0 ≤ n) (hn' : n ≤ 24) (r : Bool) (hr : vL n none l = r) :
    Calls Try.prog 13 #[.int .i64 n, .slice A m c] w fun e w' => e = .returned (.bool r) ∧ Below w.heap.size w w' := by
  unfold maxLen at hm
  have HX := hide hx
  have HR := hide hr
  clear hx hr
  have d0 : decide (n < 0) = false := decide_eq_false (by omega)
  have d1 : decide (24 < n) = false := decide_eq_false (by omega)
  go_enter Try.func13, Try.ntmps13
  go_wp2_with fail
  go_loopw [15] (fun v15 wr => ∃ (k : Nat), k ≤ m ∧ v15 = .int .i64 ((k : Nat) : Int) ∧ Below w.heap.size w wr ∧ Hid (vL n (befA l k) (l.drop k) = r)) (fun v15 _ => m - (RowKit.intOf v15).toNat)
  case atStart => exact ⟨0, by omega, rfl, Below.refl _ _, hide (by rw [List.drop_zero]; exact HR.out)⟩
  case round =>
    obtain ⟨k, hk, rfl, B, HS⟩ := hrel
    by_cases hlt : k < m
    · obtain ⟨b, o, y, rfl, hbl, hy, k0, k1⟩ := (HX.out.keep B).at_ hlt
      have HD := hide (show vL n (befA l k) (y :: l.drop (k + 1)) = r from by rw [← drop_atA hy]; exact HS.out)
      obtain ⟨x, y⟩ := y
      simp only at k0 k1
      have HY := hide hy
      clear hy HS
      have i1 : (0 : Int) ≤ (k : Int) := by omega
      have i2 : (k : Int) < (m : Int) := by omega
      go_wp2_with fail
      generalize hW : wr.alloc _ = W
      obtain ⟨hb, bx, -⟩ := boxC hW
      clear hW
      have B := B.trans (hb.mono B.size)
      have z0 : W.cell? ⟨wr.heap.size, 0, none⟩ = some (.int .i64 x) := bx.at_ 0
      have z1 : W.cell? ⟨wr.heap.size, 1, none⟩ = some (.int .i64 y) := bx.at_ 1
      have lx := bx.lt
      clear k0 k1
      by_cases h1 : 0 ≤ x ∧ x < n
      · have H1 := hide (show decide (0 ≤ x ∧ x < n) = true from decide_eq_true h1)
        by_cases h2 : 0 ≤ y ∧ y < n
        · have H2 := hide (show decide (0 ≤ y ∧ y < n) = true from decide_eq_true h2)
          by_cases h3 : x = y
          · have e3 : (x == y) = true := beq_iff_eq.2 h3
            obtain rfl : r = false := by rw [← HD.out]; exact vL_bad fun h => h.2.2 h3
            clear h1 h2 h3 HY HD
            refine (isv_any n x _ true H1.out).mono ?_
            rintro e w1 ⟨rfl, rfl⟩
            go_wp2_with fail
            refine (isv_any n y _ true H2.out).mono ?_
            rintro e w1 ⟨rfl, rfl⟩
            go_wp2_with fail
            go_ret
            exact ⟨rfl, B⟩
          · have e3 : (x == y) = false := beq_eq_false_iff_ne.2 h3
            rcases Nat.eq_zero_or_pos k with hk0 | hk0
            · subst hk0
              have HN := hide (show vL n (befA l (0 + 1)) (l.drop (0 + 1)) = r from by
                rw [← HD.out, vL_good ⟨h1, h2, h3⟩ (fun p e => by cases (show none = some p from e))]
                show vL n (l[0]?) _ = _
                rw [HY.out])
              clear h1 h2 h3 HD
              refine (isv_any n x _ true H1.out).mono ?_
              rintro e w1 ⟨rfl, rfl⟩
              go_wp2_with fail
              refine (isv_any n y _ true H2.out).mono ?_
              rintro e w1 ⟨rfl, rfl⟩
              go_wp2_with fail
              go_quiet (fail)
              go_wp2_with fail
              go_roundw
              case measure => simp [RowKit.intOf]; omega
              case rel => exact ⟨0 + 1, by omega, by go_num, below_drewN B _, HN⟩
            · obtain ⟨f, rfl⟩ : ∃ f, k = f + 1 := ⟨k - 1, by omega⟩
              obtain ⟨b2, o2, p, he, hbl2, hp, k2, k3⟩ := (HX.out.keep B).at_ (show f < m by omega)
              obtain ⟨rfl, rfl⟩ : b = b2 ∧ o = o2 := by injection he with he; injection he with e1 e2; exact ⟨e1, e2⟩
              obtain ⟨u, v⟩ := p
              simp only at k2 k3
              have hq : befA l (f + 1) = some (u, v) := hp
              obtain ⟨cr, hcr⟩ : ∃ cr, or2 (cI u x) (cI v y) = cr := ⟨_, rfl⟩
              have hlt2 := cmp_lt u v x y
              rw [hcr] at hlt2
              have HC := hide hcr
              have i0 : decide ((0 : Int) < ((f + 1 : Nat) : Int)) = true := decide_eq_true (by omega)
              have i0' : decide ((0 : Int) < (f : Int) + 1) = true := decide_eq_true (by omega)
              have i3 : (0 : Int) ≤ (f : Int) := by omega
              have i4 : (f : Int) < (m : Int) := by omega
              have W1 : IntKind.i64.wrap (((f + 1 : Nat) : Int) - 1) = (f : Int) := by rw [show ((f + 1 : Nat) : Int) - 1 = (f : Int) by omega]; exact IntWalk.i64_in _ (by omega)
              have W2 : IntKind.i64.wrap ((f : Int) + 1 - 1) = (f : Int) := by rw [show (f : Int) + 1 - 1 = (f : Int) by omega]; exact IntWalk.i64_in _ (by omega)
              have W3 : IntKind.i64.wrap (f : Int) = (f : Int) := IntWalk.i64_in _ (by omega)
              have KF : Hid (∀ w', Below W.heap.size W w' → w'.cell? ⟨b, o + f * 2, none⟩ = some (.int .i64 u) ∧ w'.cell? ⟨b, o + f * 2 + 1, none⟩ = some (.int .i64 v) ∧ w'.cell? ⟨wr.heap.size, 0, none⟩ = some (.int .i64 x) ∧ w'.cell? ⟨wr.heap.size, 1, none⟩ = some (.int .i64 y)) := fun w' h => ⟨(h.cell (p := ⟨b, o + f * 2, none⟩) hbl2).trans k2, (h.cell (p := ⟨b, o + f * 2 + 1, none⟩) hbl2).trans k3, (h.cell (p := ⟨wr.heap.size, 0, none⟩) lx).trans z0, (h.cell (p := ⟨wr.heap.size, 1, none⟩) lx).trans z1⟩
              clear hcr hp he
              by_cases hl : cr < 0
              · have d2 : decide (0 ≤ cr) = false := decide_eq_false (by omega)
                have HN := hide (show vL n (befA l (f + 1 + 1)) (l.drop (f + 1 + 1)) = r from by
                  rw [← HD.out, vL_good ⟨h1, h2, h3⟩ (fun p e => by rw [hq] at e; cases e; rw [hlt2]; exact decide_eq_true hl)]
                  show vL n (l[f + 1]?) _ = _
                  rw [HY.out])
                clear h1 h2 h3 HD hlt2 hq HX HR
                refine (isv_any n x _ true H1.out).mono ?_
                rintro e w1 ⟨rfl, rfl⟩
                go_wp2_with fail
                refine (isv_any n y _ true H2.out).mono ?_
                rintro e w1 ⟨rfl, rfl⟩
                go_wp2_with fail
                go_region_held3 (fun w' => w'.cell? ⟨b, o + f * 2, none⟩ = some (.int .i64 u) ∧ w'.cell? ⟨b, o + f * 2 + 1, none⟩ = some (.int .i64 v) ∧ w'.cell? ⟨wr.heap.size, 0, none⟩ = some (.int .i64 x) ∧ w'.cell? ⟨wr.heap.size, 1, none⟩ = some (.int .i64 y))
                  (exact KF.out _ (by ((repeat (first | (with_reducible assumption) | (with_reducible exact Below.refl _ _) | (with_reducible refine Below.drewS ?_) | (with_reducible refine Below.allocS ?_ _) | (with_reducible refine Below.setS ?_ (by first | omega | (simp; omega)) _))); (first | done | fail))))
                  (first
                    | (go_at_call 35; (with_reducible refine (compare_any u v x y _ cr HC.out).mono ?_); rintro e w9 ⟨rfl, hb9⟩; have E9 : Below W.heap.size W w9 := Below.next (by ((repeat (first | (with_reducible assumption) | (with_reducible exact Below.refl _ _) | (with_reducible refine Below.drewS ?_) | (with_reducible refine Below.allocS ?_ _) | (with_reducible refine Below.setS ?_ (by first | omega | (simp; omega)) _))); (first | done | fail))) hb9))
                all_goals
                  have B := B.trans (Below.mono (by ((repeat (first | (with_reducible assumption) | (with_reducible exact Below.refl _ _) | (with_reducible refine Below.drewS ?_) | (with_reducible refine Below.allocS ?_ _) | (with_reducible refine Below.setS ?_ (by first | omega | (simp; omega)) _))); (first | done | fail))) B.size)
                  go_wp2_with fail
                  go_roundw
                  case measure => simp [RowKit.intOf]; omega
                  case rel => exact ⟨f + 1 + 1, by omega, by go_num, B, HN⟩
              · have d2 : decide (0 ≤ cr) = true := decide_eq_true (by omega)
                obtain rfl : r = false := by rw [← HD.out, hq]; exact vL_bad2 (by rw [hlt2]; exact decide_eq_false hl)
                clear h1 h2 h3 HD hlt2 hq HX HR
                refine (isv_any n x _ true H1.out).mono ?_
                rintro e w1 ⟨rfl, rfl⟩
                go_wp2_with fail
                refine (isv_any n y _ true H2.out).mono ?_
                rintro e w1 ⟨rfl, rfl⟩
                go_wp2_with fail
                go_region_held3 (fun w' => w'.cell? ⟨b, o + f * 2, none⟩ = some (.int .i64 u) ∧ w'.cell? ⟨b, o + f * 2 + 1, none⟩ = some (.int .i64 v) ∧ w'.cell? ⟨wr.heap.size, 0, none⟩ = some (.int .i64 x) ∧ w'.cell? ⟨wr.heap.size, 1, none⟩ = some (.int .i64 y))
                  (exact KF.out _ (by ((repeat (first | (with_reducible assumption) | (with_reducible exact Below.refl _ _) | (with_reducible refine Below.drewS ?_) | (with_reducible refine Below.allocS ?_ _) | (with_reducible refine Below.setS ?_ (by first | omega | (simp; omega)) _))); (first | done | fail))))
                  (first
                    | (go_at_call 35; (with_reducible refine (compare_any u v x y _ cr HC.out).mono ?_); rintro e w9 ⟨rfl, hb9⟩; have E9 : Below W.heap.size W w9 := Below.next (by ((repeat (first | (with_reducible assumption) | (with_reducible exact Below.refl _ _) | (with_reducible refine Below.drewS ?_) | (with_reducible refine Below.allocS ?_ _) | (with_reducible refine Below.setS ?_ (by first | omega | (simp; omega)) _))); (first | done | fail))) hb9))
                all_goals
                  have B := B.trans (Below.mono (by ((repeat (first | (with_reducible assumption) | (with_reducible exact Below.refl _ _) | (with_reducible refine Below.drewS ?_) | (with_reducible refine Below.allocS ?_ _) | (with_reducible refine Below.setS ?_ (by first | omega | (simp; omega)) _))); (first | done | fail))) B.size)
                  go_wp2_with fail
                  go_ret
                  exact ⟨rfl, B⟩
        · have H2 := hide (show decide (0 ≤ y ∧ y < n) = false from decide_eq_false h2)
          obtain rfl : r = false := by rw [← HD.out]; exact vL_bad fun h => h2 h.2.1
          clear h1 h2 HY HD
          refine (isv_any n x _ true H1.out).mono ?_
          rintro e w1 ⟨rfl, rfl⟩
          go_wp2_with fail
          refine (isv_any n y _ false H2.out).mono ?_
          rintro e w1 ⟨rfl, rfl⟩
          go_wp2_with fail
          go_ret
          exact ⟨rfl, B⟩
      · have H1 := hide (show decide (0 ≤ x ∧ x < n) = false from decide_eq_false h1)
        obtain rfl : r = false := by rw [← HD.out]; exact vL_bad fun h => h1 h.1
        clear h1 HY HD
        refine (isv_any n x _ false H1.out).mono ?_
        rintro e w1 ⟨rfl, rfl⟩
        go_wp2_with fail
        go_ret
        exact ⟨rfl, B⟩
    · obtain rfl : r = true := by
        rw [← HS.out, List.drop_of_length_le (by rw [HX.out.1]; omega)]; rfl
      have d2 : decide ((k : Int) < (m : Int)) = false := decide_eq_false (by omega)
      have d3 : decide (k < m) = false := decide_eq_false hlt
      clear HS
      go_wp2_with fail
      go_ret
      exact ⟨rfl, B⟩
theorem valid_any (n : Int) (A : Option Addr) (m c : Nat) (l : List (Int × Int)) (w : World) (hx : YL w A m l) (hm : m ≤ maxLen) (r : Bool) (hr : vB n l = r) :
    Calls Try.prog 13 #[.int .i64 n, .slice A m c] w fun e w' => e = .returned (.bool r) ∧ Below w.heap.size w w' := by
  unfold vB at hr
  by_cases h0 : n < 0
  · have d0 : decide (n < 0) = true := decide_eq_true h0
    rw [decide_eq_false (by omega), Bool.false_and] at hr
    subst hr
    clear hx hm
    go_enter Try.func13, Try.ntmps13
    go_wp2_with fail
    go_ret
    exact ⟨rfl, Below.refl _ _⟩
  · by_cases h1 : 24 < n
    · have d0 : decide (n < 0) = false := decide_eq_false h0
      have d1 : decide (24 < n) = true := decide_eq_true h1
      rw [decide_eq_false (by omega), Bool.false_and] at hr
      subst hr
      clear hx hm
      go_enter Try.func13, Try.ntmps13
      go_wp2_with fail
      go_ret
      exact ⟨rfl, Below.refl _ _⟩
    · rw [decide_eq_true (by omega), Bool.true_and] at hr
      exact valid_loop n A m c l w hx hm (by omega) (by omega) r hr
end Go.Proofs.Ytgmdfaamheblmaa
