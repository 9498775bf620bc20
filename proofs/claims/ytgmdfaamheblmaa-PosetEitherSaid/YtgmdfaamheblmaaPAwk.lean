/- awake, few; PosetTransitive. -/
import Derived.Test.YtgmdfaamheblmaaPEqs
namespace Go.Proofs.Ytgmdfaamheblmaa
open Go Go.RowKit PM

/-- what Levels gives -/
def resV (n : Int) (l : List (Int × Int)) : List Nat × Int :=
  if (resO n l).2 = 0 then (lvL n.toNat (lvS n.toNat (adj (l.map nA)) (resO n l).1), 0) else ([], (resO n l).2)
theorem resO_cases (n : Int) (l : List (Int × Int)) : (∃ er, er ≠ 0 ∧ resO n l = ([], er)) ∨ ∃ (N : Nat) (bs : List (Nat × Nat)), n = (N : Int) ∧ l = bs.map zA ∧ Dig N bs ∧ (ord N (adj bs)).length = N ∧ resO n l = (ord N (adj bs), 0) := by
  unfold resO
  rcases hv : vB n l with _ | _
  · exact .inl ⟨1, by decide, by rw [if_neg (by decide)]⟩
  · obtain ⟨N, bs, rfl, rfl, hd⟩ := vB_true hv
    rw [if_pos rfl, nA_zA, Int.toNat_natCast]
    by_cases h : (ord N (adj bs)).length < N
    · exact .inl ⟨11, by decide, by rw [if_pos h]⟩
    · exact .inr ⟨N, bs, rfl, rfl, hd, by have := (ord_beg N (adj bs)).len; omega, by rw [if_neg h]⟩
theorem levels_any (n : Int) (A : Option Addr) (m c : Nat) (l : List (Int × Int)) (w : World) (hx : YL w A m l) (hm : m ≤ maxLen) (xs : List Nat) (er : Int) (hr : resV n l = (xs, er)) :
    Calls Try.prog 25 #[.int .i64 n, .slice A m c] w (GivesL xs er w) := by
  unfold resV at hr
  rcases resO_cases n l with ⟨e, he, h⟩ | ⟨N, bs, rfl, rfl, hd, hl, h⟩
  · rw [h, if_neg he] at hr
    cases hr
    exact lev_e n A m c l w hx hm _ he h
  · rw [h, if_pos rfl, nA_zA, Int.toNat_natCast] at hr
    cases hr
    exact lev_y N A m c bs w hx hd _ rfl hl _ rfl
set_option maxHeartbeats 1000000 in
theorem few_any (A : Option Addr) (m c : Nat) (w : World) (hm : m ≤ maxLen) (r : Bool) (hr : decide (m ≤ 150) = r) :
    Calls Try.prog 12 #[.slice A m c] w fun e w' => e = .returned (.bool r) ∧ w = w' := by
  unfold maxLen at hm
  cases r with
  | true =>
    have h := of_decide_eq_true hr
    have d0 : decide ((m : Int) ≤ 150) = true := decide_eq_true (by omega)
    clear hr
    go_enter Try.func12, Try.ntmps12
    go_wp2
    go_ret
    exact ⟨rfl, rfl⟩
  | false =>
    have h := of_decide_eq_false hr
    have d0 : decide ((m : Int) ≤ 150) = false := decide_eq_false (by omega)
    have d1 : decide (m ≤ 150) = false := decide_eq_false (by omega)
    clear hr
    go_enter Try.func12, Try.ntmps12
    go_wp2
    go_ret
    exact ⟨rfl, rfl⟩
def arcsW : List (Int × Int) := [(0, 2), (1, 2), (2, 3)]
theorem resO_W : resO 4 arcsW = ([0, 1, 2, 3], 0) := by decide
theorem resV_W : resV 4 arcsW = ([0, 0, 1, 2], 0) := by decide
theorem rl_lit {w : World} {g : Nat} {t : TypeId} (a b c d : Nat) (hg : Box w g #[.int .i64 (a : Int), .int .i64 (b : Int), .int .i64 (c : Int), .int .i64 (d : Int)] t) : RL w .i64 (some ⟨g, 0, none⟩) 4 [a, b, c, d] := by
  refine ⟨rfl, fun _ => ⟨g, 0, rfl, fun j x hx => ?_⟩⟩
  rw [Nat.zero_add, hg.at_]
  match j, hx with
  | 0, hx => simp at hx; subst hx; rfl
  | 1, hx => simp at hx; subst hx; rfl
  | 2, hx => simp at hx; subst hx; rfl
  | 3, hx => simp at hx; subst hx; rfl
  | j + 4, hx => simp at hx
theorem yl_lit {w : World} {g : Nat} {t : TypeId} (hg : Box w g #[.int .i64 0, .int .i64 2, .int .i64 1, .int .i64 2, .int .i64 2, .int .i64 3] t) : YL w (some ⟨g, 0, none⟩) 3 arcsW := by
  refine ⟨rfl, fun _ => ⟨g, 0, rfl, hg.lt, fun j x hx => ?_⟩⟩
  rw [Nat.zero_add, hg.at_]
  match j, hx with
  | 0, hx => simp [arcsW, flatY, encY] at hx; subst hx; rfl
  | 1, hx => simp [arcsW, flatY, encY] at hx; subst hx; rfl
  | 2, hx => simp [arcsW, flatY, encY] at hx; subst hx; rfl
  | 3, hx => simp [arcsW, flatY, encY] at hx; subst hx; rfl
  | 4, hx => simp [arcsW, flatY, encY] at hx; subst hx; rfl
  | 5, hx => simp [arcsW, flatY, encY] at hx; subst hx; rfl
  | j + 6, hx => simp [arcsW, flatY, encY] at hx
set_option maxHeartbeats 8000000 in
theorem awake_yes (w : World) : Calls Try.prog 11 #[] w fun e w' => e = .returned (.bool true) ∧ Below w.heap.size w w' := by
  go_enter Try.func11, Try.ntmps11
  go_wp2_with fail
  generalize hW : w.alloc _ = W
  obtain ⟨B, bx, -⟩ := boxC hW
  clear hW
  have hx := yl_lit bx
  have hge : w.heap.size ≤ W.heap.size := B.size
  refine (order_any 4 _ 3 3 arcsW _ hx (by decide) _ _ resO_W).mono ?_
  rintro e w1 ⟨⟨A1, c1, rfl, r1, -, -⟩, hb⟩
  have B := B.trans (hb.mono B.size)
  have hx := hx.keep hb
  clear hb
  go_wp2_with fail
  refine (levels_any 4 _ 3 3 arcsW _ hx (by decide) _ _ resV_W).mono ?_
  rintro e w2 ⟨⟨A2, c2, rfl, r2, -, -⟩, hb⟩
  have B := B.trans (hb.mono B.size)
  have r1 := r1.below hb
  clear hb hx
  go_wp2_with fail
  generalize hW : w2.alloc _ = W2
  obtain ⟨hb, b2, -⟩ := boxC hW
  clear hW
  have B := B.trans (hb.mono B.size)
  refine (ints_eq _ 4 _ _ _ _ _ (r1.below hb) (rl_lit 0 1 2 3 b2) (by omega)).mono ?_
  rintro e w3 ⟨rfl, hb3⟩
  have r2 := (r2.below hb).below hb3
  have B := B.trans (hb3.mono B.size)
  go_wp2_with fail
  generalize hW : w3.alloc _ = W3
  obtain ⟨hb, b3, -⟩ := boxC hW
  clear hW
  have B := B.trans (hb.mono B.size)
  refine (ints_eq _ 4 _ _ _ _ _ (r2.below hb) (rl_lit 0 0 1 2 b3) (by omega)).mono ?_
  rintro e w4 ⟨rfl, hb4⟩
  have B := B.trans (hb4.mono B.size)
  go_wp2_with fail
  go_ret
  exact ⟨rfl, B⟩
end Go.Proofs.Ytgmdfaamheblmaa
