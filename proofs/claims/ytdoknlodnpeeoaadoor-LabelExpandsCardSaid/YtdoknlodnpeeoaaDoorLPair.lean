/- Pairings: the program's and the reference's. -/
import Derived.Test.YtdoknlodnpeeoaaDoorLCmp
namespace Go.Proofs.YtdoknlodnpeeoaaDoor
open Go Go.RowKit Go.Lib

/-- the two labels make a pair -/
def pB (s n t s' n' t' : Int) : Prop := lB s n t = true ∧ lB s' n' t' = true ∧ s = 0 ∧ s' = 1
theorem labT_size (s n t : Int) : (labT s n t).size ≤ 6 := by
  unfold labT
  split
  · rename_i h
    obtain ⟨hs, hn, ht⟩ := lB_true.1 h
    rw [strB_size]
    unfold labL sideL stateL
    have h1 := dec_len4 3 n.toNat (by omega)
    rw [List.length_append, List.length_append]
    have h2 : (if s = 0 then [79] else [82] : List UInt8).length = 1 := by split <;> rfl
    have h3 : (if t = 0 then [] else [UInt8.ofNat (96 + t.toNat)] : List UInt8).length ≤ 1 := by split <;> simp
    omega
  · exact Nat.zero_le _
set_option maxHeartbeats 2000000 in
theorem pair_no1 (a b c a' b' c' : Int) (w : World) (h1 : lB a b c = false) :
    Calls Tryd.prog 25 #[.agg #[.int .i64 a, .int .i64 b, .int .i64 c], .agg #[.int .i64 a', .int .i64 b', .int .i64 c']] w fun e w' => e = .returned (.tuple #[.string ⟨#[]⟩, .int .i64 1]) ∧ Below w.heap.size w w' := by
  have H1 := hide h1
  clear h1
  go_enter Tryd.func25, Tryd.ntmps25
  go_wp2_with fail
  generalize hW : (w.alloc _).alloc _ = W
  obtain ⟨B, bx, by'⟩ := boxD hW
  clear hW
  have lx := bx.lt
  have ly := by'.lt
  have KS : Hid (∀ w', Below W.heap.size W w' → w'.cell? ⟨w.heap.size, 0, none⟩ = some (.int .i64 a) ∧ w'.cell? ⟨w.heap.size, 1, none⟩ = some (.int .i64 b) ∧ w'.cell? ⟨w.heap.size, 2, none⟩ = some (.int .i64 c) ∧ w'.cell? ⟨w.heap.size + 1, 0, none⟩ = some (.int .i64 a') ∧ w'.cell? ⟨w.heap.size + 1, 1, none⟩ = some (.int .i64 b') ∧ w'.cell? ⟨w.heap.size + 1, 2, none⟩ = some (.int .i64 c')) := fun w' h => ⟨(bx.below h lx).at_ 0, (bx.below h lx).at_ 1, (bx.below h lx).at_ 2, (by'.below h ly).at_ 0, (by'.below h ly).at_ 1, (by'.below h ly).at_ 2⟩
  clear bx by'
  obtain ⟨k0, k1, k2, k3, k4, k5⟩ := KS.out _ (Below.refl _ _)
  go_wp2_with fail
  clear k0 k1 k2 k3 k4 k5
  refine (valid_any a b c _ false H1.out).mono ?_
  rintro e w1 ⟨rfl, E1⟩
  obtain ⟨k0, k1, k2, k3, k4, k5⟩ := KS.out _ E1
  have z1 := E1.size
  go_wp2_with fail
  refine bodyPost_ret (v := .tuple #[.string ⟨#[]⟩, .int .i64 1]) (by simp [results, Tryd.results25, go_sem]) rfl ?_
  exact ⟨rfl, B.trans (E1.mono B.size)⟩
set_option maxHeartbeats 2000000 in
theorem pair_no2 (a b c a' b' c' : Int) (w : World) (h1 : lB a b c = true) (h2 : lB a' b' c' = false) :
    Calls Tryd.prog 25 #[.agg #[.int .i64 a, .int .i64 b, .int .i64 c], .agg #[.int .i64 a', .int .i64 b', .int .i64 c']] w fun e w' => e = .returned (.tuple #[.string ⟨#[]⟩, .int .i64 1]) ∧ Below w.heap.size w w' := by
  have H1 := hide h1
  clear h1
  have H2 := hide h2
  clear h2
  go_enter Tryd.func25, Tryd.ntmps25
  go_wp2_with fail
  generalize hW : (w.alloc _).alloc _ = W
  obtain ⟨B, bx, by'⟩ := boxD hW
  clear hW
  have lx := bx.lt
  have ly := by'.lt
  have KS : Hid (∀ w', Below W.heap.size W w' → w'.cell? ⟨w.heap.size, 0, none⟩ = some (.int .i64 a) ∧ w'.cell? ⟨w.heap.size, 1, none⟩ = some (.int .i64 b) ∧ w'.cell? ⟨w.heap.size, 2, none⟩ = some (.int .i64 c) ∧ w'.cell? ⟨w.heap.size + 1, 0, none⟩ = some (.int .i64 a') ∧ w'.cell? ⟨w.heap.size + 1, 1, none⟩ = some (.int .i64 b') ∧ w'.cell? ⟨w.heap.size + 1, 2, none⟩ = some (.int .i64 c')) := fun w' h => ⟨(bx.below h lx).at_ 0, (bx.below h lx).at_ 1, (bx.below h lx).at_ 2, (by'.below h ly).at_ 0, (by'.below h ly).at_ 1, (by'.below h ly).at_ 2⟩
  clear bx by'
  obtain ⟨k0, k1, k2, k3, k4, k5⟩ := KS.out _ (Below.refl _ _)
  go_wp2_with fail
  clear k0 k1 k2 k3 k4 k5
  refine (valid_any a b c _ true H1.out).mono ?_
  rintro e w1 ⟨rfl, E1⟩
  obtain ⟨k0, k1, k2, k3, k4, k5⟩ := KS.out _ E1
  have z1 := E1.size
  go_wp2_with fail
  refine (valid_any a' b' c' _ false H2.out).mono ?_
  rintro e w2 ⟨rfl, hb⟩
  have E2 := E1.trans (hb.mono E1.size)
  clear hb k0 k1 k2 k3 k4 k5
  obtain ⟨k0, k1, k2, k3, k4, k5⟩ := KS.out _ E2
  go_wp2_with fail
  refine bodyPost_ret (v := .tuple #[.string ⟨#[]⟩, .int .i64 1]) (by simp [results, Tryd.results25, go_sem]) rfl ?_
  exact ⟨rfl, B.trans (E2.mono B.size)⟩
set_option maxHeartbeats 2000000 in
theorem pair_no3 (a b c a' b' c' : Int) (w : World) (h1 : lB a b c = true) (h2 : lB a' b' c' = true) (h3 : a ≠ 0) :
    Calls Tryd.prog 25 #[.agg #[.int .i64 a, .int .i64 b, .int .i64 c], .agg #[.int .i64 a', .int .i64 b', .int .i64 c']] w fun e w' => e = .returned (.tuple #[.string ⟨#[]⟩, .int .i64 1]) ∧ Below w.heap.size w w' := by
  have H1 := hide h1
  clear h1
  have H2 := hide h2
  clear h2
  have e0 : (a == 0) = false := beq_eq_false_iff_ne.2 h3
  have e1 : (a != 0) = true := by simp [h3]
  go_enter Tryd.func25, Tryd.ntmps25
  go_wp2_with fail
  generalize hW : (w.alloc _).alloc _ = W
  obtain ⟨B, bx, by'⟩ := boxD hW
  clear hW
  have lx := bx.lt
  have ly := by'.lt
  have KS : Hid (∀ w', Below W.heap.size W w' → w'.cell? ⟨w.heap.size, 0, none⟩ = some (.int .i64 a) ∧ w'.cell? ⟨w.heap.size, 1, none⟩ = some (.int .i64 b) ∧ w'.cell? ⟨w.heap.size, 2, none⟩ = some (.int .i64 c) ∧ w'.cell? ⟨w.heap.size + 1, 0, none⟩ = some (.int .i64 a') ∧ w'.cell? ⟨w.heap.size + 1, 1, none⟩ = some (.int .i64 b') ∧ w'.cell? ⟨w.heap.size + 1, 2, none⟩ = some (.int .i64 c')) := fun w' h => ⟨(bx.below h lx).at_ 0, (bx.below h lx).at_ 1, (bx.below h lx).at_ 2, (by'.below h ly).at_ 0, (by'.below h ly).at_ 1, (by'.below h ly).at_ 2⟩
  clear bx by'
  obtain ⟨k0, k1, k2, k3, k4, k5⟩ := KS.out _ (Below.refl _ _)
  go_wp2_with fail
  clear k0 k1 k2 k3 k4 k5
  refine (valid_any a b c _ true H1.out).mono ?_
  rintro e w1 ⟨rfl, E1⟩
  obtain ⟨k0, k1, k2, k3, k4, k5⟩ := KS.out _ E1
  have z1 := E1.size
  go_wp2_with fail
  refine (valid_any a' b' c' _ true H2.out).mono ?_
  rintro e w2 ⟨rfl, hb⟩
  have E2 := E1.trans (hb.mono E1.size)
  clear hb k0 k1 k2 k3 k4 k5
  obtain ⟨k0, k1, k2, k3, k4, k5⟩ := KS.out _ E2
  go_wp2_with fail
  refine bodyPost_ret (v := .tuple #[.string ⟨#[]⟩, .int .i64 1]) (by simp [results, Tryd.results25, go_sem]) rfl ?_
  exact ⟨rfl, B.trans (E2.mono B.size)⟩
set_option maxHeartbeats 2000000 in
theorem pair_no4 (a b c a' b' c' : Int) (w : World) (h1 : lB a b c = true) (h2 : lB a' b' c' = true) (h3 : a = 0) (h4 : a' ≠ 1) :
    Calls Tryd.prog 25 #[.agg #[.int .i64 a, .int .i64 b, .int .i64 c], .agg #[.int .i64 a', .int .i64 b', .int .i64 c']] w fun e w' => e = .returned (.tuple #[.string ⟨#[]⟩, .int .i64 1]) ∧ Below w.heap.size w w' := by
  have H1 := hide h1
  clear h1
  have H2 := hide h2
  clear h2
  subst h3
  have e0 : (a' == 1) = false := beq_eq_false_iff_ne.2 h4
  have e1 : (a' != 1) = true := by simp [h4]
  go_enter Tryd.func25, Tryd.ntmps25
  go_wp2_with fail
  generalize hW : (w.alloc _).alloc _ = W
  obtain ⟨B, bx, by'⟩ := boxD hW
  clear hW
  have lx := bx.lt
  have ly := by'.lt
  have KS : Hid (∀ w', Below W.heap.size W w' → w'.cell? ⟨w.heap.size, 0, none⟩ = some (.int .i64 0) ∧ w'.cell? ⟨w.heap.size, 1, none⟩ = some (.int .i64 b) ∧ w'.cell? ⟨w.heap.size, 2, none⟩ = some (.int .i64 c) ∧ w'.cell? ⟨w.heap.size + 1, 0, none⟩ = some (.int .i64 a') ∧ w'.cell? ⟨w.heap.size + 1, 1, none⟩ = some (.int .i64 b') ∧ w'.cell? ⟨w.heap.size + 1, 2, none⟩ = some (.int .i64 c')) := fun w' h => ⟨(bx.below h lx).at_ 0, (bx.below h lx).at_ 1, (bx.below h lx).at_ 2, (by'.below h ly).at_ 0, (by'.below h ly).at_ 1, (by'.below h ly).at_ 2⟩
  clear bx by'
  obtain ⟨k0, k1, k2, k3, k4, k5⟩ := KS.out _ (Below.refl _ _)
  go_wp2_with fail
  clear k0 k1 k2 k3 k4 k5
  refine (valid_any 0 b c _ true H1.out).mono ?_
  rintro e w1 ⟨rfl, E1⟩
  obtain ⟨k0, k1, k2, k3, k4, k5⟩ := KS.out _ E1
  have z1 := E1.size
  go_wp2_with fail
  refine (valid_any a' b' c' _ true H2.out).mono ?_
  rintro e w2 ⟨rfl, hb⟩
  have E2 := E1.trans (hb.mono E1.size)
  clear hb k0 k1 k2 k3 k4 k5
  obtain ⟨k0, k1, k2, k3, k4, k5⟩ := KS.out _ E2
  go_wp2_with fail
  refine bodyPost_ret (v := .tuple #[.string ⟨#[]⟩, .int .i64 1]) (by simp [results, Tryd.results25, go_sem]) rfl ?_
  exact ⟨rfl, B.trans (E2.mono B.size)⟩
set_option maxHeartbeats 2000000 in
theorem pair_ok (a b c a' b' c' : Int) (w : World) (hT : Lw w) (h1 : lB a b c = true) (h2 : lB a' b' c' = true) (h3 : a = 0) (h4 : a' = 1) (S : ByteArray) (hS : labT a b c ++ ⟨#[47]⟩ ++ labT a' b' c' = S) :
    Calls Tryd.prog 25 #[.agg #[.int .i64 a, .int .i64 b, .int .i64 c], .agg #[.int .i64 a', .int .i64 b', .int .i64 c']] w fun e w' => e = .returned (.tuple #[.string S, .int .i64 0]) ∧ Below w.heap.size w w' := by
  have H1 := hide h1
  clear h1
  have H2 := hide h2
  clear h2
  subst h3
  subst h4
  have HT := hide hT
  have z1 := labT_size 0 b c
  have z2 := labT_size 1 b' c'
  obtain ⟨X, hX⟩ : ∃ X, labT 0 b c = X := ⟨_, rfl⟩
  obtain ⟨Y, hY⟩ : ∃ Y, labT 1 b' c' = Y := ⟨_, rfl⟩
  rw [hX] at z1 hS
  rw [hY] at z2 hS
  have HX := hide hX
  have HY := hide hY
  have HS := hide hS
  have c3 : (X ++ (⟨#[47]⟩ : ByteArray)).size = X.size + 1 := by rw [ByteArray.size_append]; rfl
  have A1 := fun (W : World) => add_run X ⟨#[47]⟩ (by have h3 : (⟨#[47]⟩ : ByteArray).size = 1 := rfl; omega) W
  have A2 := fun (W : World) => add_run (X ++ ⟨#[47]⟩) Y (by omega) W
  clear hT hX hY hS c3 z1 z2
  go_enter Tryd.func25, Tryd.ntmps25
  go_wp2_with fail
  generalize hW : (w.alloc _).alloc _ = W
  obtain ⟨B, bx, by'⟩ := boxD hW
  clear hW
  have lx := bx.lt
  have ly := by'.lt
  have KS : Hid (∀ w', Below W.heap.size W w' → w'.cell? ⟨w.heap.size, 0, none⟩ = some (.int .i64 0) ∧ w'.cell? ⟨w.heap.size, 1, none⟩ = some (.int .i64 b) ∧ w'.cell? ⟨w.heap.size, 2, none⟩ = some (.int .i64 c) ∧ w'.cell? ⟨w.heap.size + 1, 0, none⟩ = some (.int .i64 1) ∧ w'.cell? ⟨w.heap.size + 1, 1, none⟩ = some (.int .i64 b') ∧ w'.cell? ⟨w.heap.size + 1, 2, none⟩ = some (.int .i64 c')) := fun w' h => ⟨(bx.below h lx).at_ 0, (bx.below h lx).at_ 1, (bx.below h lx).at_ 2, (by'.below h ly).at_ 0, (by'.below h ly).at_ 1, (by'.below h ly).at_ 2⟩
  clear bx by'
  obtain ⟨k0, k1, k2, k3, k4, k5⟩ := KS.out _ (Below.refl _ _)
  go_wp2_with fail
  clear k0 k1 k2 k3 k4 k5
  refine (valid_any 0 b c _ true H1.out).mono ?_
  rintro e w1 ⟨rfl, E1⟩
  obtain ⟨k0, k1, k2, k3, k4, k5⟩ := KS.out _ E1
  have z1 := E1.size
  go_wp2_with fail
  refine (valid_any 1 b' c' _ true H2.out).mono ?_
  rintro e w2 ⟨rfl, hb⟩
  have E2 := E1.trans (hb.mono E1.size)
  clear hb k0 k1 k2 k3 k4 k5
  obtain ⟨k0, k1, k2, k3, k4, k5⟩ := KS.out _ E2
  have KS2 : Hid (∀ w', Below w2.heap.size w2 w' → w'.cell? ⟨w.heap.size, 0, none⟩ = some (.int .i64 0) ∧ w'.cell? ⟨w.heap.size, 1, none⟩ = some (.int .i64 b) ∧ w'.cell? ⟨w.heap.size, 2, none⟩ = some (.int .i64 c) ∧ w'.cell? ⟨w.heap.size + 1, 0, none⟩ = some (.int .i64 1) ∧ w'.cell? ⟨w.heap.size + 1, 1, none⟩ = some (.int .i64 b') ∧ w'.cell? ⟨w.heap.size + 1, 2, none⟩ = some (.int .i64 c')) := fun w' h => KS.out _ (E2.trans (h.mono E2.size))
  have KT : Hid (∀ w', Below w2.heap.size w2 w' → Lw w') := fun w' h => HT.out.below (B.trans ((E2.trans (h.mono E2.size)).mono B.size))
  have B := B.trans (E2.mono B.size)
  clear KS E1 E2 z1 lx ly
  go_wp2_with fail
  clear k0 k1 k2 k3 k4 k5
  go_region_held3 (fun w' => w'.cell? ⟨w.heap.size, 0, none⟩ = some (.int .i64 0) ∧ w'.cell? ⟨w.heap.size, 1, none⟩ = some (.int .i64 b) ∧ w'.cell? ⟨w.heap.size, 2, none⟩ = some (.int .i64 c) ∧ w'.cell? ⟨w.heap.size + 1, 0, none⟩ = some (.int .i64 1) ∧ w'.cell? ⟨w.heap.size + 1, 1, none⟩ = some (.int .i64 b') ∧ w'.cell? ⟨w.heap.size + 1, 2, none⟩ = some (.int .i64 c'))
    (exact KS2.out _ (by ((repeat (first | (with_reducible assumption) | (with_reducible exact Below.refl _ _) | (with_reducible refine Below.drewS ?_) | (with_reducible refine Below.allocS ?_ _) | (with_reducible refine Below.setS ?_ (by first | omega | (simp; omega)) _))); (first | done | fail))))
    (first
      | (go_at_call_of 12 (Value.int IntKind.i64 b); (with_reducible refine (text_any 0 b c _ (KT.out _ (by ((repeat (first | (with_reducible assumption) | (with_reducible exact Below.refl _ _) | (with_reducible refine Below.drewS ?_) | (with_reducible refine Below.allocS ?_ _) | (with_reducible refine Below.setS ?_ (by first | omega | (simp; omega)) _))); (first | done | fail)))) X HX.out).mono ?_); rintro e w3 ⟨rfl, hb3⟩; have E3 : Below w2.heap.size w2 w3 := Below.next (by ((repeat (first | (with_reducible assumption) | (with_reducible exact Below.refl _ _) | (with_reducible refine Below.drewS ?_) | (with_reducible refine Below.allocS ?_ _) | (with_reducible refine Below.setS ?_ (by first | omega | (simp; omega)) _))); (first | done | fail))) hb3; have z3 := E3.size)
      | (go_at_call_of 12 (Value.int IntKind.i64 b'); (with_reducible refine (text_any 1 b' c' _ (KT.out _ (by ((repeat (first | (with_reducible assumption) | (with_reducible exact Below.refl _ _) | (with_reducible refine Below.drewS ?_) | (with_reducible refine Below.allocS ?_ _) | (with_reducible refine Below.setS ?_ (by first | omega | (simp; omega)) _))); (first | done | fail)))) Y HY.out).mono ?_); rintro e w4 ⟨rfl, hb4⟩; have E4 : Below w2.heap.size w2 w4 := Below.next (by ((repeat (first | (with_reducible assumption) | (with_reducible exact Below.refl _ _) | (with_reducible refine Below.drewS ?_) | (with_reducible refine Below.allocS ?_ _) | (with_reducible refine Below.setS ?_ (by first | omega | (simp; omega)) _))); (first | done | fail))) hb4))
  all_goals
    go_wp2_with fail
    refine bodyPost_ret (v := .tuple #[.string (X ++ ⟨#[47]⟩ ++ Y), .int .i64 0]) (by simp [results, Tryd.results25, go_sem]) rfl ?_
    exact ⟨by rw [HS.out], B.trans (E4.mono B.size)⟩
theorem pair_any (a b c a' b' c' : Int) (w : World) (hT : Lw w) :
    Calls Tryd.prog 25 #[.agg #[.int .i64 a, .int .i64 b, .int .i64 c], .agg #[.int .i64 a', .int .i64 b', .int .i64 c']] w fun e w' => ∃ S r, e = .returned (.tuple #[.string S, .int .i64 r]) ∧ ((pB a b c a' b' c' ∧ S = labT a b c ++ ⟨#[47]⟩ ++ labT a' b' c' ∧ r = 0) ∨ (¬ pB a b c a' b' c' ∧ S = ⟨#[]⟩ ∧ r = 1)) ∧ Below w.heap.size w w' := by
  have no : ∀ {e : Ending} {w' : World}, ¬ pB a b c a' b' c' → e = .returned (.tuple #[.string ⟨#[]⟩, .int .i64 1]) ∧ Below w.heap.size w w' → ∃ S r, e = .returned (.tuple #[.string S, .int .i64 r]) ∧ ((pB a b c a' b' c' ∧ S = labT a b c ++ ⟨#[47]⟩ ++ labT a' b' c' ∧ r = 0) ∨ (¬ pB a b c a' b' c' ∧ S = ⟨#[]⟩ ∧ r = 1)) ∧ Below w.heap.size w w' := fun hn h => ⟨_, _, h.1, Or.inr ⟨hn, rfl, rfl⟩, h.2⟩
  rcases h1 : lB a b c with _ | _
  · exact (pair_no1 a b c a' b' c' w h1).mono fun _ _ h => no (fun hp => by have := hp.1; rw [h1] at this; exact absurd this (by decide)) h
  · rcases h2 : lB a' b' c' with _ | _
    · exact (pair_no2 a b c a' b' c' w h1 h2).mono fun _ _ h => no (fun hp => by have := hp.2.1; rw [h2] at this; exact absurd this (by decide)) h
    · by_cases h3 : a = 0
      · by_cases h4 : a' = 1
        · exact (pair_ok a b c a' b' c' w hT h1 h2 h3 h4 _ rfl).mono fun _ _ h => ⟨_, _, h.1, Or.inl ⟨⟨h1, h2, h3, h4⟩, rfl, rfl⟩, h.2⟩
        · exact (pair_no4 a b c a' b' c' w h1 h2 h3 h4).mono fun _ _ h => no (fun hp => h4 hp.2.2.2) h
      · exact (pair_no3 a b c a' b' c' w h1 h2 h3).mono fun _ _ h => no (fun hp => h3 hp.2.2.1) h
set_option maxHeartbeats 2000000 in
theorem rpair_no1 (a b c a' b' c' : Int) (w : World) (h1 : lB a b c = false) :
    Calls Tryd.prog 26 #[.agg #[.int .i64 a, .int .i64 b, .int .i64 c], .agg #[.int .i64 a', .int .i64 b', .int .i64 c']] w fun e w' => e = .returned (.tuple #[.string ⟨#[]⟩, .int .i64 1]) ∧ Below w.heap.size w w' := by
  have H1 := hide h1
  clear h1
  go_enter Tryd.func26, Tryd.ntmps26
  go_wp2_with fail
  generalize hW : (w.alloc _).alloc _ = W
  obtain ⟨B, bx, by'⟩ := boxD hW
  clear hW
  have lx := bx.lt
  have ly := by'.lt
  have KS : Hid (∀ w', Below W.heap.size W w' → w'.cell? ⟨w.heap.size, 0, none⟩ = some (.int .i64 a) ∧ w'.cell? ⟨w.heap.size, 1, none⟩ = some (.int .i64 b) ∧ w'.cell? ⟨w.heap.size, 2, none⟩ = some (.int .i64 c) ∧ w'.cell? ⟨w.heap.size + 1, 0, none⟩ = some (.int .i64 a') ∧ w'.cell? ⟨w.heap.size + 1, 1, none⟩ = some (.int .i64 b') ∧ w'.cell? ⟨w.heap.size + 1, 2, none⟩ = some (.int .i64 c')) := fun w' h => ⟨(bx.below h lx).at_ 0, (bx.below h lx).at_ 1, (bx.below h lx).at_ 2, (by'.below h ly).at_ 0, (by'.below h ly).at_ 1, (by'.below h ly).at_ 2⟩
  clear bx by'
  obtain ⟨k0, k1, k2, k3, k4, k5⟩ := KS.out _ (Below.refl _ _)
  go_wp2_with fail
  clear k0 k1 k2 k3 k4 k5
  refine (rvalid_any a b c _ false H1.out).mono ?_
  rintro e w1 ⟨rfl, E1⟩
  obtain ⟨k0, k1, k2, k3, k4, k5⟩ := KS.out _ E1
  have z1 := E1.size
  go_wp2_with fail
  refine bodyPost_ret (v := .tuple #[.string ⟨#[]⟩, .int .i64 1]) (by simp [results, Tryd.results26, go_sem]) rfl ?_
  exact ⟨rfl, B.trans (E1.mono B.size)⟩
set_option maxHeartbeats 2000000 in
theorem rpair_no2 (a b c a' b' c' : Int) (w : World) (h1 : lB a b c = true) (h2 : lB a' b' c' = false) :
    Calls Tryd.prog 26 #[.agg #[.int .i64 a, .int .i64 b, .int .i64 c], .agg #[.int .i64 a', .int .i64 b', .int .i64 c']] w fun e w' => e = .returned (.tuple #[.string ⟨#[]⟩, .int .i64 1]) ∧ Below w.heap.size w w' := by
  have H1 := hide h1
  clear h1
  have H2 := hide h2
  clear h2
  go_enter Tryd.func26, Tryd.ntmps26
  go_wp2_with fail
  generalize hW : (w.alloc _).alloc _ = W
  obtain ⟨B, bx, by'⟩ := boxD hW
  clear hW
  have lx := bx.lt
  have ly := by'.lt
  have KS : Hid (∀ w', Below W.heap.size W w' → w'.cell? ⟨w.heap.size, 0, none⟩ = some (.int .i64 a) ∧ w'.cell? ⟨w.heap.size, 1, none⟩ = some (.int .i64 b) ∧ w'.cell? ⟨w.heap.size, 2, none⟩ = some (.int .i64 c) ∧ w'.cell? ⟨w.heap.size + 1, 0, none⟩ = some (.int .i64 a') ∧ w'.cell? ⟨w.heap.size + 1, 1, none⟩ = some (.int .i64 b') ∧ w'.cell? ⟨w.heap.size + 1, 2, none⟩ = some (.int .i64 c')) := fun w' h => ⟨(bx.below h lx).at_ 0, (bx.below h lx).at_ 1, (bx.below h lx).at_ 2, (by'.below h ly).at_ 0, (by'.below h ly).at_ 1, (by'.below h ly).at_ 2⟩
  clear bx by'
  obtain ⟨k0, k1, k2, k3, k4, k5⟩ := KS.out _ (Below.refl _ _)
  go_wp2_with fail
  clear k0 k1 k2 k3 k4 k5
  refine (rvalid_any a b c _ true H1.out).mono ?_
  rintro e w1 ⟨rfl, E1⟩
  obtain ⟨k0, k1, k2, k3, k4, k5⟩ := KS.out _ E1
  have z1 := E1.size
  go_wp2_with fail
  refine (rvalid_any a' b' c' _ false H2.out).mono ?_
  rintro e w2 ⟨rfl, hb⟩
  have E2 := E1.trans (hb.mono E1.size)
  clear hb k0 k1 k2 k3 k4 k5
  obtain ⟨k0, k1, k2, k3, k4, k5⟩ := KS.out _ E2
  go_wp2_with fail
  refine bodyPost_ret (v := .tuple #[.string ⟨#[]⟩, .int .i64 1]) (by simp [results, Tryd.results26, go_sem]) rfl ?_
  exact ⟨rfl, B.trans (E2.mono B.size)⟩
set_option maxHeartbeats 2000000 in
theorem rpair_no3 (a b c a' b' c' : Int) (w : World) (h1 : lB a b c = true) (h2 : lB a' b' c' = true) (h3 : a ≠ 0) :
    Calls Tryd.prog 26 #[.agg #[.int .i64 a, .int .i64 b, .int .i64 c], .agg #[.int .i64 a', .int .i64 b', .int .i64 c']] w fun e w' => e = .returned (.tuple #[.string ⟨#[]⟩, .int .i64 1]) ∧ Below w.heap.size w w' := by
  have H1 := hide h1
  clear h1
  have H2 := hide h2
  clear h2
  have e0 : (a == 0) = false := beq_eq_false_iff_ne.2 h3
  have e1 : (a != 0) = true := by simp [h3]
  go_enter Tryd.func26, Tryd.ntmps26
  go_wp2_with fail
  generalize hW : (w.alloc _).alloc _ = W
  obtain ⟨B, bx, by'⟩ := boxD hW
  clear hW
  have lx := bx.lt
  have ly := by'.lt
  have KS : Hid (∀ w', Below W.heap.size W w' → w'.cell? ⟨w.heap.size, 0, none⟩ = some (.int .i64 a) ∧ w'.cell? ⟨w.heap.size, 1, none⟩ = some (.int .i64 b) ∧ w'.cell? ⟨w.heap.size, 2, none⟩ = some (.int .i64 c) ∧ w'.cell? ⟨w.heap.size + 1, 0, none⟩ = some (.int .i64 a') ∧ w'.cell? ⟨w.heap.size + 1, 1, none⟩ = some (.int .i64 b') ∧ w'.cell? ⟨w.heap.size + 1, 2, none⟩ = some (.int .i64 c')) := fun w' h => ⟨(bx.below h lx).at_ 0, (bx.below h lx).at_ 1, (bx.below h lx).at_ 2, (by'.below h ly).at_ 0, (by'.below h ly).at_ 1, (by'.below h ly).at_ 2⟩
  clear bx by'
  obtain ⟨k0, k1, k2, k3, k4, k5⟩ := KS.out _ (Below.refl _ _)
  go_wp2_with fail
  clear k0 k1 k2 k3 k4 k5
  refine (rvalid_any a b c _ true H1.out).mono ?_
  rintro e w1 ⟨rfl, E1⟩
  obtain ⟨k0, k1, k2, k3, k4, k5⟩ := KS.out _ E1
  have z1 := E1.size
  go_wp2_with fail
  refine (rvalid_any a' b' c' _ true H2.out).mono ?_
  rintro e w2 ⟨rfl, hb⟩
  have E2 := E1.trans (hb.mono E1.size)
  clear hb k0 k1 k2 k3 k4 k5
  obtain ⟨k0, k1, k2, k3, k4, k5⟩ := KS.out _ E2
  go_wp2_with fail
  refine bodyPost_ret (v := .tuple #[.string ⟨#[]⟩, .int .i64 1]) (by simp [results, Tryd.results26, go_sem]) rfl ?_
  exact ⟨rfl, B.trans (E2.mono B.size)⟩
set_option maxHeartbeats 2000000 in
theorem rpair_no4 (a b c a' b' c' : Int) (w : World) (h1 : lB a b c = true) (h2 : lB a' b' c' = true) (h3 : a = 0) (h4 : a' ≠ 1) :
    Calls Tryd.prog 26 #[.agg #[.int .i64 a, .int .i64 b, .int .i64 c], .agg #[.int .i64 a', .int .i64 b', .int .i64 c']] w fun e w' => e = .returned (.tuple #[.string ⟨#[]⟩, .int .i64 1]) ∧ Below w.heap.size w w' := by
  have H1 := hide h1
  clear h1
  have H2 := hide h2
  clear h2
  subst h3
  have e0 : (a' == 1) = false := beq_eq_false_iff_ne.2 h4
  have e1 : (a' != 1) = true := by simp [h4]
  go_enter Tryd.func26, Tryd.ntmps26
  go_wp2_with fail
  generalize hW : (w.alloc _).alloc _ = W
  obtain ⟨B, bx, by'⟩ := boxD hW
  clear hW
  have lx := bx.lt
  have ly := by'.lt
  have KS : Hid (∀ w', Below W.heap.size W w' → w'.cell? ⟨w.heap.size, 0, none⟩ = some (.int .i64 0) ∧ w'.cell? ⟨w.heap.size, 1, none⟩ = some (.int .i64 b) ∧ w'.cell? ⟨w.heap.size, 2, none⟩ = some (.int .i64 c) ∧ w'.cell? ⟨w.heap.size + 1, 0, none⟩ = some (.int .i64 a') ∧ w'.cell? ⟨w.heap.size + 1, 1, none⟩ = some (.int .i64 b') ∧ w'.cell? ⟨w.heap.size + 1, 2, none⟩ = some (.int .i64 c')) := fun w' h => ⟨(bx.below h lx).at_ 0, (bx.below h lx).at_ 1, (bx.below h lx).at_ 2, (by'.below h ly).at_ 0, (by'.below h ly).at_ 1, (by'.below h ly).at_ 2⟩
  clear bx by'
  obtain ⟨k0, k1, k2, k3, k4, k5⟩ := KS.out _ (Below.refl _ _)
  go_wp2_with fail
  clear k0 k1 k2 k3 k4 k5
  refine (rvalid_any 0 b c _ true H1.out).mono ?_
  rintro e w1 ⟨rfl, E1⟩
  obtain ⟨k0, k1, k2, k3, k4, k5⟩ := KS.out _ E1
  have z1 := E1.size
  go_wp2_with fail
  refine (rvalid_any a' b' c' _ true H2.out).mono ?_
  rintro e w2 ⟨rfl, hb⟩
  have E2 := E1.trans (hb.mono E1.size)
  clear hb k0 k1 k2 k3 k4 k5
  obtain ⟨k0, k1, k2, k3, k4, k5⟩ := KS.out _ E2
  go_wp2_with fail
  refine bodyPost_ret (v := .tuple #[.string ⟨#[]⟩, .int .i64 1]) (by simp [results, Tryd.results26, go_sem]) rfl ?_
  exact ⟨rfl, B.trans (E2.mono B.size)⟩
set_option maxHeartbeats 2000000 in
theorem rpair_ok (a b c a' b' c' : Int) (w : World) (hT : Lw w) (h1 : lB a b c = true) (h2 : lB a' b' c' = true) (h3 : a = 0) (h4 : a' = 1) (S : ByteArray) (hS : labT a b c ++ ⟨#[47]⟩ ++ labT a' b' c' = S) :
    Calls Tryd.prog 26 #[.agg #[.int .i64 a, .int .i64 b, .int .i64 c], .agg #[.int .i64 a', .int .i64 b', .int .i64 c']] w fun e w' => e = .returned (.tuple #[.string S, .int .i64 0]) ∧ Below w.heap.size w w' := by
  have H1 := hide h1
  clear h1
  have H2 := hide h2
  clear h2
  subst h3
  subst h4
  have HT := hide hT
  have z1 := labT_size 0 b c
  have z2 := labT_size 1 b' c'
  obtain ⟨X, hX⟩ : ∃ X, labT 0 b c = X := ⟨_, rfl⟩
  obtain ⟨Y, hY⟩ : ∃ Y, labT 1 b' c' = Y := ⟨_, rfl⟩
  rw [hX] at z1 hS
  rw [hY] at z2 hS
  have HX := hide hX
  have HY := hide hY
  have HS := hide hS
  have c3 : (X ++ (⟨#[47]⟩ : ByteArray)).size = X.size + 1 := by rw [ByteArray.size_append]; rfl
  have A1 := fun (W : World) => add_run X ⟨#[47]⟩ (by have h3 : (⟨#[47]⟩ : ByteArray).size = 1 := rfl; omega) W
  have A2 := fun (W : World) => add_run (X ++ ⟨#[47]⟩) Y (by omega) W
  clear hT hX hY hS c3 z1 z2
  go_enter Tryd.func26, Tryd.ntmps26
  go_wp2_with fail
  generalize hW : (w.alloc _).alloc _ = W
  obtain ⟨B, bx, by'⟩ := boxD hW
  clear hW
  have lx := bx.lt
  have ly := by'.lt
  have KS : Hid (∀ w', Below W.heap.size W w' → w'.cell? ⟨w.heap.size, 0, none⟩ = some (.int .i64 0) ∧ w'.cell? ⟨w.heap.size, 1, none⟩ = some (.int .i64 b) ∧ w'.cell? ⟨w.heap.size, 2, none⟩ = some (.int .i64 c) ∧ w'.cell? ⟨w.heap.size + 1, 0, none⟩ = some (.int .i64 1) ∧ w'.cell? ⟨w.heap.size + 1, 1, none⟩ = some (.int .i64 b') ∧ w'.cell? ⟨w.heap.size + 1, 2, none⟩ = some (.int .i64 c')) := fun w' h => ⟨(bx.below h lx).at_ 0, (bx.below h lx).at_ 1, (bx.below h lx).at_ 2, (by'.below h ly).at_ 0, (by'.below h ly).at_ 1, (by'.below h ly).at_ 2⟩
  clear bx by'
  obtain ⟨k0, k1, k2, k3, k4, k5⟩ := KS.out _ (Below.refl _ _)
  go_wp2_with fail
  clear k0 k1 k2 k3 k4 k5
  refine (rvalid_any 0 b c _ true H1.out).mono ?_
  rintro e w1 ⟨rfl, E1⟩
  obtain ⟨k0, k1, k2, k3, k4, k5⟩ := KS.out _ E1
  have z1 := E1.size
  go_wp2_with fail
  refine (rvalid_any 1 b' c' _ true H2.out).mono ?_
  rintro e w2 ⟨rfl, hb⟩
  have E2 := E1.trans (hb.mono E1.size)
  clear hb k0 k1 k2 k3 k4 k5
  obtain ⟨k0, k1, k2, k3, k4, k5⟩ := KS.out _ E2
  have KS2 : Hid (∀ w', Below w2.heap.size w2 w' → w'.cell? ⟨w.heap.size, 0, none⟩ = some (.int .i64 0) ∧ w'.cell? ⟨w.heap.size, 1, none⟩ = some (.int .i64 b) ∧ w'.cell? ⟨w.heap.size, 2, none⟩ = some (.int .i64 c) ∧ w'.cell? ⟨w.heap.size + 1, 0, none⟩ = some (.int .i64 1) ∧ w'.cell? ⟨w.heap.size + 1, 1, none⟩ = some (.int .i64 b') ∧ w'.cell? ⟨w.heap.size + 1, 2, none⟩ = some (.int .i64 c')) := fun w' h => KS.out _ (E2.trans (h.mono E2.size))
  have KT : Hid (∀ w', Below w2.heap.size w2 w' → Lw w') := fun w' h => HT.out.below (B.trans ((E2.trans (h.mono E2.size)).mono B.size))
  have B := B.trans (E2.mono B.size)
  clear KS E1 E2 z1 lx ly
  go_wp2_with fail
  clear k0 k1 k2 k3 k4 k5
  go_region_held3 (fun w' => w'.cell? ⟨w.heap.size, 0, none⟩ = some (.int .i64 0) ∧ w'.cell? ⟨w.heap.size, 1, none⟩ = some (.int .i64 b) ∧ w'.cell? ⟨w.heap.size, 2, none⟩ = some (.int .i64 c) ∧ w'.cell? ⟨w.heap.size + 1, 0, none⟩ = some (.int .i64 1) ∧ w'.cell? ⟨w.heap.size + 1, 1, none⟩ = some (.int .i64 b') ∧ w'.cell? ⟨w.heap.size + 1, 2, none⟩ = some (.int .i64 c'))
    (exact KS2.out _ (by ((repeat (first | (with_reducible assumption) | (with_reducible exact Below.refl _ _) | (with_reducible refine Below.drewS ?_) | (with_reducible refine Below.allocS ?_ _) | (with_reducible refine Below.setS ?_ (by first | omega | (simp; omega)) _))); (first | done | fail))))
    (first
      | (go_at_call_of 15 (Value.int IntKind.i64 b); (with_reducible refine (rtext5_any 0 b c _ (KT.out _ (by ((repeat (first | (with_reducible assumption) | (with_reducible exact Below.refl _ _) | (with_reducible refine Below.drewS ?_) | (with_reducible refine Below.allocS ?_ _) | (with_reducible refine Below.setS ?_ (by first | omega | (simp; omega)) _))); (first | done | fail)))) X HX.out).mono ?_); rintro e w3 ⟨rfl, hb3⟩; have E3 : Below w2.heap.size w2 w3 := Below.next (by ((repeat (first | (with_reducible assumption) | (with_reducible exact Below.refl _ _) | (with_reducible refine Below.drewS ?_) | (with_reducible refine Below.allocS ?_ _) | (with_reducible refine Below.setS ?_ (by first | omega | (simp; omega)) _))); (first | done | fail))) hb3; have z3 := E3.size)
      | (go_at_call_of 15 (Value.int IntKind.i64 b'); (with_reducible refine (rtext5_any 1 b' c' _ (KT.out _ (by ((repeat (first | (with_reducible assumption) | (with_reducible exact Below.refl _ _) | (with_reducible refine Below.drewS ?_) | (with_reducible refine Below.allocS ?_ _) | (with_reducible refine Below.setS ?_ (by first | omega | (simp; omega)) _))); (first | done | fail)))) Y HY.out).mono ?_); rintro e w4 ⟨rfl, hb4⟩; have E4 : Below w2.heap.size w2 w4 := Below.next (by ((repeat (first | (with_reducible assumption) | (with_reducible exact Below.refl _ _) | (with_reducible refine Below.drewS ?_) | (with_reducible refine Below.allocS ?_ _) | (with_reducible refine Below.setS ?_ (by first | omega | (simp; omega)) _))); (first | done | fail))) hb4))
  all_goals
    go_wp2_with fail
    refine bodyPost_ret (v := .tuple #[.string (X ++ ⟨#[47]⟩ ++ Y), .int .i64 0]) (by simp [results, Tryd.results26, go_sem]) rfl ?_
    exact ⟨by rw [HS.out], B.trans (E4.mono B.size)⟩
theorem rpair_any (a b c a' b' c' : Int) (w : World) (hT : Lw w) :
    Calls Tryd.prog 26 #[.agg #[.int .i64 a, .int .i64 b, .int .i64 c], .agg #[.int .i64 a', .int .i64 b', .int .i64 c']] w fun e w' => ∃ S r, e = .returned (.tuple #[.string S, .int .i64 r]) ∧ ((pB a b c a' b' c' ∧ S = labT a b c ++ ⟨#[47]⟩ ++ labT a' b' c' ∧ r = 0) ∨ (¬ pB a b c a' b' c' ∧ S = ⟨#[]⟩ ∧ r = 1)) ∧ Below w.heap.size w w' := by
  have no : ∀ {e : Ending} {w' : World}, ¬ pB a b c a' b' c' → e = .returned (.tuple #[.string ⟨#[]⟩, .int .i64 1]) ∧ Below w.heap.size w w' → ∃ S r, e = .returned (.tuple #[.string S, .int .i64 r]) ∧ ((pB a b c a' b' c' ∧ S = labT a b c ++ ⟨#[47]⟩ ++ labT a' b' c' ∧ r = 0) ∨ (¬ pB a b c a' b' c' ∧ S = ⟨#[]⟩ ∧ r = 1)) ∧ Below w.heap.size w w' := fun hn h => ⟨_, _, h.1, Or.inr ⟨hn, rfl, rfl⟩, h.2⟩
  rcases h1 : lB a b c with _ | _
  · exact (rpair_no1 a b c a' b' c' w h1).mono fun _ _ h => no (fun hp => by have := hp.1; rw [h1] at this; exact absurd this (by decide)) h
  · rcases h2 : lB a' b' c' with _ | _
    · exact (rpair_no2 a b c a' b' c' w h1 h2).mono fun _ _ h => no (fun hp => by have := hp.2.1; rw [h2] at this; exact absurd this (by decide)) h
    · by_cases h3 : a = 0
      · by_cases h4 : a' = 1
        · exact (rpair_ok a b c a' b' c' w hT h1 h2 h3 h4 _ rfl).mono fun _ _ h => ⟨_, _, h.1, Or.inl ⟨⟨h1, h2, h3, h4⟩, rfl, rfl⟩, h.2⟩
        · exact (rpair_no4 a b c a' b' c' w h1 h2 h3 h4).mono fun _ _ h => no (fun hp => h4 hp.2.2.2) h
      · exact (rpair_no3 a b c a' b' c' w h1 h2 h3).mono fun _ _ h => no (fun hp => h3 hp.2.2.1) h
end Go.Proofs.YtdoknlodnpeeoaaDoor
