/- Comparing labels: the program's and the reference's. -/
import Derived.Test.YtaapcfflnklpjaaGreatDoorLText
import Derived.Deep.LoopGhost
import Derived.IntWalk
import Derived.Laws.AppendOwn
import Derived.Deep.RegionLaw
import Derived.Lib.Join
import Derived.Test.YtaapcfflnklpjaaGreatDoorShelf3
namespace Go.Proofs.YtaapcfflnklpjaaGreatDoor
open Go Go.RowKit Go.Lib

def cI (a b : Int) : Int := if a < b then -1 else if b < a then 1 else 0
theorem cI_lib (a b : Int) : Lib.compareInt a b = cI a b := by
  unfold Lib.compareInt cI
  rfl
/-- by side, then number, then state -/
def cL (a b c a' b' c' : Int) : Int := if cI a a' ≠ 0 then cI a a' else if cI b b' ≠ 0 then cI b b' else cI c c'
theorem cmp_any (a b : Int) (w : World) (r : Int) (hr : cI a b = r) : Calls Tryz.prog 94 #[.int .i64 a, .int .i64 b] w fun e w' => e = .returned (.int .i64 r) ∧ w = w' := by
  subst hr
  refine (Tryz.cmp_Compare_int a b w).mono ?_
  rintro e w' ⟨rfl, rfl⟩
  exact ⟨by rw [cI_lib], rfl⟩
/-- the first that is not 0 of three -/
def or3 (a b c : Int) : Int := if a ≠ 0 then a else if b ≠ 0 then b else c
theorem cL_or (a b c a' b' c' : Int) : cL a b c a' b' c' = or3 (cI a a') (cI b b') (cI c c') := rfl
theorem newE {g : Nat} (w : World) (vs : Array Value) (t : TypeId) (e : g = w.heap.size) : Box (w.alloc (.cells vs t)) g vs t := by
  subst e; exact Box.new _ _ _
theorem boxD {w W : World} {c0 c1 : Array Value} {t0 t1 : TypeId} (hW : (w.alloc (.cells c0 t0)).alloc (.cells c1 t1) = W) :
    Below w.heap.size w W ∧ Box W w.heap.size c0 t0 ∧ Box W (w.heap.size + 1) c1 t1 := by
  obtain ⟨a, b, c⟩ := boxC (rfl : w.alloc (.cells c0 t0) = _)
  generalize w.alloc (.cells c0 t0) = V at *
  subst hW
  refine ⟨a.alloc (by omega) _, b.alloc _, ?_⟩
  rw [← c]; exact Box.new _ _ _
theorem cI_zero {a b : Int} : cI a b = 0 ↔ a = b := by
  unfold cI
  split
  · constructor
    · intro h; cases h
    · intro h; omega
  · split
    · constructor
      · intro h; cases h
      · intro h; omega
    · constructor
      · intro _; omega
      · intro _; rfl
end Go.Proofs.YtaapcfflnklpjaaGreatDoor

/- Pairings: the program's and the reference's. -/
namespace Go.Proofs.YtaapcfflnklpjaaGreatDoor
open Go Go.RowKit Go.Lib

/-- the two labels make a pair -/
def pB (s n t s' n' t' : Int) : Prop := lB s n t = true ∧ lB s' n' t' = true ∧ s = 0 ∧ s' = 1
theorem labT_size (s n t : Int) : (labT s n t).size ≤ 6 := by
  unfold labT
  split
  · rename_i h
    obtain ⟨hs, hn, ht⟩ := lB_true.1 h
    rw [strB_size]
    unfold labL sideL stateL
    have h1 := dec_len4 3 n.toNat (by omega)
    rw [List.length_append, List.length_append]
    have h2 : (if s = 0 then [79] else [82] : List UInt8).length = 1 := by split <;> rfl
    have h3 : (if t = 0 then [] else [UInt8.ofNat (96 + t.toNat)] : List UInt8).length ≤ 1 := by split <;> simp
    omega
  · exact Nat.zero_le _
set_option maxHeartbeats 2000000 in
theorem pair_no1 (a b c a' b' c' : Int) (w : World) (h1 : lB a b c = false) :
    Calls Tryz.prog 37 #[.agg #[.int .i64 a, .int .i64 b, .int .i64 c], .agg #[.int .i64 a', .int .i64 b', .int .i64 c']] w fun e w' => e = .returned (.tuple #[.string ⟨#[]⟩, .int .i64 1]) ∧ Below w.heap.size w w' := by
  have H1 := hide h1
  clear h1
  go_enter Tryz.func37, Tryz.ntmps37
  go_wp2_with fail
  generalize hW : (w.alloc _).alloc _ = W
  obtain ⟨B, bx, by'⟩ := boxD hW
  clear hW
  have lx := bx.lt
  have ly := by'.lt
  have KS : Hid (∀ w', Below W.heap.size W w' → w'.cell? ⟨w.heap.size, 0, none⟩ = some (.int .i64 a) ∧ w'.cell? ⟨w.heap.size, 1, none⟩ = some (.int .i64 b) ∧ w'.cell? ⟨w.heap.size, 2, none⟩ = some (.int .i64 c) ∧ w'.cell? ⟨w.heap.size + 1, 0, none⟩ = some (.int .i64 a') ∧ w'.cell? ⟨w.heap.size + 1, 1, none⟩ = some (.int .i64 b') ∧ w'.cell? ⟨w.heap.size + 1, 2, none⟩ = some (.int .i64 c')) := fun w' h => ⟨(bx.below h lx).at_ 0, (bx.below h lx).at_ 1, (bx.below h lx).at_ 2, (by'.below h ly).at_ 0, (by'.below h ly).at_ 1, (by'.below h ly).at_ 2⟩
  clear bx by'
  obtain ⟨k0, k1, k2, k3, k4, k5⟩ := KS.out _ (Below.refl _ _)
  go_wp2_with fail
  clear k0 k1 k2 k3 k4 k5
  refine (valid_any a b c _ false H1.out).mono ?_
  rintro e w1 ⟨rfl, E1⟩
  obtain ⟨k0, k1, k2, k3, k4, k5⟩ := KS.out _ E1
  have z1 := E1.size
  go_wp2_with fail
  refine bodyPost_ret (v := .tuple #[.string ⟨#[]⟩, .int .i64 1]) (by simp [results, Tryz.results37, go_sem]) rfl ?_
  exact ⟨rfl, B.trans (E1.mono B.size)⟩
set_option maxHeartbeats 2000000 in
theorem pair_no2 (a b c a' b' c' : Int) (w : World) (h1 : lB a b c = true) (h2 : lB a' b' c' = false) :
    Calls Tryz.prog 37 #[.agg #[.int .i64 a, .int .i64 b, .int .i64 c], .agg #[.int .i64 a', .int .i64 b', .int .i64 c']] w fun e w' => e = .returned (.tuple #[.string ⟨#[]⟩, .int .i64 1]) ∧ Below w.heap.size w w' := by
  have H1 := hide h1
  clear h1
  have H2 := hide h2
  clear h2
  go_enter Tryz.func37, Tryz.ntmps37
  go_wp2_with fail
  generalize hW : (w.alloc _).alloc _ = W
  obtain ⟨B, bx, by'⟩ := boxD hW
  clear hW
  have lx := bx.lt
  have ly := by'.lt
  have KS : Hid (∀ w', Below W.heap.size W w' → w'.cell? ⟨w.heap.size, 0, none⟩ = some (.int .i64 a) ∧ w'.cell? ⟨w.heap.size, 1, none⟩ = some (.int .i64 b) ∧ w'.cell? ⟨w.heap.size, 2, none⟩ = some (.int .i64 c) ∧ w'.cell? ⟨w.heap.size + 1, 0, none⟩ = some (.int .i64 a') ∧ w'.cell? ⟨w.heap.size + 1, 1, none⟩ = some (.int .i64 b') ∧ w'.cell? ⟨w.heap.size + 1, 2, none⟩ = some (.int .i64 c')) := fun w' h => ⟨(bx.below h lx).at_ 0, (bx.below h lx).at_ 1, (bx.below h lx).at_ 2, (by'.below h ly).at_ 0, (by'.below h ly).at_ 1, (by'.below h ly).at_ 2⟩
  clear bx by'
  obtain ⟨k0, k1, k2, k3, k4, k5⟩ := KS.out _ (Below.refl _ _)
  go_wp2_with fail
  clear k0 k1 k2 k3 k4 k5
  refine (valid_any a b c _ true H1.out).mono ?_
  rintro e w1 ⟨rfl, E1⟩
  obtain ⟨k0, k1, k2, k3, k4, k5⟩ := KS.out _ E1
  have z1 := E1.size
  go_wp2_with fail
  refine (valid_any a' b' c' _ false H2.out).mono ?_
  rintro e w2 ⟨rfl, hb⟩
  have E2 := E1.trans (hb.mono E1.size)
  clear hb k0 k1 k2 k3 k4 k5
  obtain ⟨k0, k1, k2, k3, k4, k5⟩ := KS.out _ E2
  go_wp2_with fail
  refine bodyPost_ret (v := .tuple #[.string ⟨#[]⟩, .int .i64 1]) (by simp [results, Tryz.results37, go_sem]) rfl ?_
  exact ⟨rfl, B.trans (E2.mono B.size)⟩
set_option maxHeartbeats 2000000 in
theorem pair_no3 (a b c a' b' c' : Int) (w : World) (h1 : lB a b c = true) (h2 : lB a' b' c' = true) (h3 : a ≠ 0) :
    Calls Tryz.prog 37 #[.agg #[.int .i64 a, .int .i64 b, .int .i64 c], .agg #[.int .i64 a', .int .i64 b', .int .i64 c']] w fun e w' => e = .returned (.tuple #[.string ⟨#[]⟩, .int .i64 1]) ∧ Below w.heap.size w w' := by
  have H1 := hide h1
  clear h1
  have H2 := hide h2
  clear h2
  have e0 : (a == 0) = false := beq_eq_false_iff_ne.2 h3
  have e1 : (a != 0) = true := by simp [h3]
  go_enter Tryz.func37, Tryz.ntmps37
  go_wp2_with fail
  generalize hW : (w.alloc _).alloc _ = W
  obtain ⟨B, bx, by'⟩ := boxD hW
  clear hW
  have lx := bx.lt
  have ly := by'.lt
  have KS : Hid (∀ w', Below W.heap.size W w' → w'.cell? ⟨w.heap.size, 0, none⟩ = some (.int .i64 a) ∧ w'.cell? ⟨w.heap.size, 1, none⟩ = some (.int .i64 b) ∧ w'.cell? ⟨w.heap.size, 2, none⟩ = some (.int .i64 c) ∧ w'.cell? ⟨w.heap.size + 1, 0, none⟩ = some (.int .i64 a') ∧ w'.cell? ⟨w.heap.size + 1, 1, none⟩ = some (.int .i64 b') ∧ w'.cell? ⟨w.heap.size + 1, 2, none⟩ = some (.int .i64 c')) := fun w' h => ⟨(bx.below h lx).at_ 0, (bx.below h lx).at_ 1, (bx.below h lx).at_ 2, (by'.below h ly).at_ 0, (by'.below h ly).at_ 1, (by'.below h ly).at_ 2⟩
  clear bx by'
  obtain ⟨k0, k1, k2, k3, k4, k5⟩ := KS.out _ (Below.refl _ _)
  go_wp2_with fail
  clear k0 k1 k2 k3 k4 k5
  refine (valid_any a b c _ true H1.out).mono ?_
  rintro e w1 ⟨rfl, E1⟩
  obtain ⟨k0, k1, k2, k3, k4, k5⟩ := KS.out _ E1
  have z1 := E1.size
  go_wp2_with fail
  refine (valid_any a' b' c' _ true H2.out).mono ?_
  rintro e w2 ⟨rfl, hb⟩
  have E2 := E1.trans (hb.mono E1.size)
  clear hb k0 k1 k2 k3 k4 k5
  obtain ⟨k0, k1, k2, k3, k4, k5⟩ := KS.out _ E2
  go_wp2_with fail
  refine bodyPost_ret (v := .tuple #[.string ⟨#[]⟩, .int .i64 1]) (by simp [results, Tryz.results37, go_sem]) rfl ?_
  exact ⟨rfl, B.trans (E2.mono B.size)⟩
set_option maxHeartbeats 2000000 in
theorem pair_no4 (a b c a' b' c' : Int) (w : World) (h1 : lB a b c = true) (h2 : lB a' b' c' = true) (h3 : a = 0) (h4 : a' ≠ 1) :
    Calls Tryz.prog 37 #[.agg #[.int .i64 a, .int .i64 b, .int .i64 c], .agg #[.int .i64 a', .int .i64 b', .int .i64 c']] w fun e w' => e = .returned (.tuple #[.string ⟨#[]⟩, .int .i64 1]) ∧ Below w.heap.size w w' := by
  have H1 := hide h1
  clear h1
  have H2 := hide h2
  clear h2
  subst h3
  have e0 : (a' == 1) = false := beq_eq_false_iff_ne.2 h4
  have e1 : (a' != 1) = true := by simp [h4]
  go_enter Tryz.func37, Tryz.ntmps37
  go_wp2_with fail
  generalize hW : (w.alloc _).alloc _ = W
  obtain ⟨B, bx, by'⟩ := boxD hW
  clear hW
  have lx := bx.lt
  have ly := by'.lt
  have KS : Hid (∀ w', Below W.heap.size W w' → w'.cell? ⟨w.heap.size, 0, none⟩ = some (.int .i64 0) ∧ w'.cell? ⟨w.heap.size, 1, none⟩ = some (.int .i64 b) ∧ w'.cell? ⟨w.heap.size, 2, none⟩ = some (.int .i64 c) ∧ w'.cell? ⟨w.heap.size + 1, 0, none⟩ = some (.int .i64 a') ∧ w'.cell? ⟨w.heap.size + 1, 1, none⟩ = some (.int .i64 b') ∧ w'.cell? ⟨w.heap.size + 1, 2, none⟩ = some (.int .i64 c')) := fun w' h => ⟨(bx.below h lx).at_ 0, (bx.below h lx).at_ 1, (bx.below h lx).at_ 2, (by'.below h ly).at_ 0, (by'.below h ly).at_ 1, (by'.below h ly).at_ 2⟩
  clear bx by'
  obtain ⟨k0, k1, k2, k3, k4, k5⟩ := KS.out _ (Below.refl _ _)
  go_wp2_with fail
  clear k0 k1 k2 k3 k4 k5
  refine (valid_any 0 b c _ true H1.out).mono ?_
  rintro e w1 ⟨rfl, E1⟩
  obtain ⟨k0, k1, k2, k3, k4, k5⟩ := KS.out _ E1
  have z1 := E1.size
  go_wp2_with fail
  refine (valid_any a' b' c' _ true H2.out).mono ?_
  rintro e w2 ⟨rfl, hb⟩
  have E2 := E1.trans (hb.mono E1.size)
  clear hb k0 k1 k2 k3 k4 k5
  obtain ⟨k0, k1, k2, k3, k4, k5⟩ := KS.out _ E2
  go_wp2_with fail
  refine bodyPost_ret (v := .tuple #[.string ⟨#[]⟩, .int .i64 1]) (by simp [results, Tryz.results37, go_sem]) rfl ?_
  exact ⟨rfl, B.trans (E2.mono B.size)⟩
set_option maxHeartbeats 2000000 in
theorem pair_ok (a b c a' b' c' : Int) (w : World) (hT : Lw w) (h1 : lB a b c = true) (h2 : lB a' b' c' = true) (h3 : a = 0) (h4 : a' = 1) (S : ByteArray) (hS : labT a b c ++ ⟨#[47]⟩ ++ labT a' b' c' = S) :
    Calls Tryz.prog 37 #[.agg #[.int .i64 a, .int .i64 b, .int .i64 c], .agg #[.int .i64 a', .int .i64 b', .int .i64 c']] w fun e w' => e = .returned (.tuple #[.string S, .int .i64 0]) ∧ Below w.heap.size w w' := by
  have H1 := hide h1
  clear h1
  have H2 := hide h2
  clear h2
  subst h3
  subst h4
  have HT := hide hT
  have z1 := labT_size 0 b c
  have z2 := labT_size 1 b' c'
  obtain ⟨X, hX⟩ : ∃ X, labT 0 b c = X := ⟨_, rfl⟩
  obtain ⟨Y, hY⟩ : ∃ Y, labT 1 b' c' = Y := ⟨_, rfl⟩
  rw [hX] at z1 hS
  rw [hY] at z2 hS
  have HX := hide hX
  have HY := hide hY
  have HS := hide hS
  have c3 : (X ++ (⟨#[47]⟩ : ByteArray)).size = X.size + 1 := by rw [ByteArray.size_append]; rfl
  have A1 := fun (W : World) => add_run X ⟨#[47]⟩ (by have h3 : (⟨#[47]⟩ : ByteArray).size = 1 := rfl; omega) W
  have A2 := fun (W : World) => add_run (X ++ ⟨#[47]⟩) Y (by omega) W
  clear hT hX hY hS c3 z1 z2
  go_enter Tryz.func37, Tryz.ntmps37
  go_wp2_with fail
  generalize hW : (w.alloc _).alloc _ = W
  obtain ⟨B, bx, by'⟩ := boxD hW
  clear hW
  have lx := bx.lt
  have ly := by'.lt
  have KS : Hid (∀ w', Below W.heap.size W w' → w'.cell? ⟨w.heap.size, 0, none⟩ = some (.int .i64 0) ∧ w'.cell? ⟨w.heap.size, 1, none⟩ = some (.int .i64 b) ∧ w'.cell? ⟨w.heap.size, 2, none⟩ = some (.int .i64 c) ∧ w'.cell? ⟨w.heap.size + 1, 0, none⟩ = some (.int .i64 1) ∧ w'.cell? ⟨w.heap.size + 1, 1, none⟩ = some (.int .i64 b') ∧ w'.cell? ⟨w.heap.size + 1, 2, none⟩ = some (.int .i64 c')) := fun w' h => ⟨(bx.below h lx).at_ 0, (bx.below h lx).at_ 1, (bx.below h lx).at_ 2, (by'.below h ly).at_ 0, (by'.below h ly).at_ 1, (by'.below h ly).at_ 2⟩
  clear bx by'
  obtain ⟨k0, k1, k2, k3, k4, k5⟩ := KS.out _ (Below.refl _ _)
  go_wp2_with fail
  clear k0 k1 k2 k3 k4 k5
  refine (valid_any 0 b c _ true H1.out).mono ?_
  rintro e w1 ⟨rfl, E1⟩
  obtain ⟨k0, k1, k2, k3, k4, k5⟩ := KS.out _ E1
  have z1 := E1.size
  go_wp2_with fail
  refine (valid_any 1 b' c' _ true H2.out).mono ?_
  rintro e w2 ⟨rfl, hb⟩
  have E2 := E1.trans (hb.mono E1.size)
  clear hb k0 k1 k2 k3 k4 k5
  obtain ⟨k0, k1, k2, k3, k4, k5⟩ := KS.out _ E2
  have KS2 : Hid (∀ w', Below w2.heap.size w2 w' → w'.cell? ⟨w.heap.size, 0, none⟩ = some (.int .i64 0) ∧ w'.cell? ⟨w.heap.size, 1, none⟩ = some (.int .i64 b) ∧ w'.cell? ⟨w.heap.size, 2, none⟩ = some (.int .i64 c) ∧ w'.cell? ⟨w.heap.size + 1, 0, none⟩ = some (.int .i64 1) ∧ w'.cell? ⟨w.heap.size + 1, 1, none⟩ = some (.int .i64 b') ∧ w'.cell? ⟨w.heap.size + 1, 2, none⟩ = some (.int .i64 c')) := fun w' h => KS.out _ (E2.trans (h.mono E2.size))
  have KT : Hid (∀ w', Below w2.heap.size w2 w' → Lw w') := fun w' h => HT.out.below (B.trans ((E2.trans (h.mono E2.size)).mono B.size))
  have B := B.trans (E2.mono B.size)
  clear KS E1 E2 z1 lx ly
  go_wp2_with fail
  clear k0 k1 k2 k3 k4 k5
  go_region_held3 (fun w' => w'.cell? ⟨w.heap.size, 0, none⟩ = some (.int .i64 0) ∧ w'.cell? ⟨w.heap.size, 1, none⟩ = some (.int .i64 b) ∧ w'.cell? ⟨w.heap.size, 2, none⟩ = some (.int .i64 c) ∧ w'.cell? ⟨w.heap.size + 1, 0, none⟩ = some (.int .i64 1) ∧ w'.cell? ⟨w.heap.size + 1, 1, none⟩ = some (.int .i64 b') ∧ w'.cell? ⟨w.heap.size + 1, 2, none⟩ = some (.int .i64 c'))
    (exact KS2.out _ (by ((repeat (first | (with_reducible assumption) | (with_reducible exact Below.refl _ _) | (with_reducible refine Below.drewS ?_) | (with_reducible refine Below.allocS ?_ _) | (with_reducible refine Below.setS ?_ (by first | omega | (simp; omega)) _))); (first | done | fail))))
    (first
      | (go_at_call_of 71 (Value.int IntKind.i64 b); (with_reducible refine (text_any 0 b c _ (KT.out _ (by ((repeat (first | (with_reducible assumption) | (with_reducible exact Below.refl _ _) | (with_reducible refine Below.drewS ?_) | (with_reducible refine Below.allocS ?_ _) | (with_reducible refine Below.setS ?_ (by first | omega | (simp; omega)) _))); (first | done | fail)))) X HX.out).mono ?_); rintro e w3 ⟨rfl, hb3⟩; have E3 : Below w2.heap.size w2 w3 := Below.next (by ((repeat (first | (with_reducible assumption) | (with_reducible exact Below.refl _ _) | (with_reducible refine Below.drewS ?_) | (with_reducible refine Below.allocS ?_ _) | (with_reducible refine Below.setS ?_ (by first | omega | (simp; omega)) _))); (first | done | fail))) hb3; have z3 := E3.size)
      | (go_at_call_of 71 (Value.int IntKind.i64 b'); (with_reducible refine (text_any 1 b' c' _ (KT.out _ (by ((repeat (first | (with_reducible assumption) | (with_reducible exact Below.refl _ _) | (with_reducible refine Below.drewS ?_) | (with_reducible refine Below.allocS ?_ _) | (with_reducible refine Below.setS ?_ (by first | omega | (simp; omega)) _))); (first | done | fail)))) Y HY.out).mono ?_); rintro e w4 ⟨rfl, hb4⟩; have E4 : Below w2.heap.size w2 w4 := Below.next (by ((repeat (first | (with_reducible assumption) | (with_reducible exact Below.refl _ _) | (with_reducible refine Below.drewS ?_) | (with_reducible refine Below.allocS ?_ _) | (with_reducible refine Below.setS ?_ (by first | omega | (simp; omega)) _))); (first | done | fail))) hb4))
  all_goals
    go_wp2_with fail
    refine bodyPost_ret (v := .tuple #[.string (X ++ ⟨#[47]⟩ ++ Y), .int .i64 0]) (by simp [results, Tryz.results37, go_sem]) rfl ?_
    exact ⟨by rw [HS.out], B.trans (E4.mono B.size)⟩
theorem pair_any (a b c a' b' c' : Int) (w : World) (hT : Lw w) :
    Calls Tryz.prog 37 #[.agg #[.int .i64 a, .int .i64 b, .int .i64 c], .agg #[.int .i64 a', .int .i64 b', .int .i64 c']] w fun e w' => ∃ S r, e = .returned (.tuple #[.string S, .int .i64 r]) ∧ ((pB a b c a' b' c' ∧ S = labT a b c ++ ⟨#[47]⟩ ++ labT a' b' c' ∧ r = 0) ∨ (¬ pB a b c a' b' c' ∧ S = ⟨#[]⟩ ∧ r = 1)) ∧ Below w.heap.size w w' := by
  have no : ∀ {e : Ending} {w' : World}, ¬ pB a b c a' b' c' → e = .returned (.tuple #[.string ⟨#[]⟩, .int .i64 1]) ∧ Below w.heap.size w w' → ∃ S r, e = .returned (.tuple #[.string S, .int .i64 r]) ∧ ((pB a b c a' b' c' ∧ S = labT a b c ++ ⟨#[47]⟩ ++ labT a' b' c' ∧ r = 0) ∨ (¬ pB a b c a' b' c' ∧ S = ⟨#[]⟩ ∧ r = 1)) ∧ Below w.heap.size w w' := fun hn h => ⟨_, _, h.1, Or.inr ⟨hn, rfl, rfl⟩, h.2⟩
  rcases h1 : lB a b c with _ | _
  · exact (pair_no1 a b c a' b' c' w h1).mono fun _ _ h => no (fun hp => by have := hp.1; rw [h1] at this; exact absurd this (by decide)) h
  · rcases h2 : lB a' b' c' with _ | _
    · exact (pair_no2 a b c a' b' c' w h1 h2).mono fun _ _ h => no (fun hp => by have := hp.2.1; rw [h2] at this; exact absurd this (by decide)) h
    · by_cases h3 : a = 0
      · by_cases h4 : a' = 1
        · exact (pair_ok a b c a' b' c' w hT h1 h2 h3 h4 _ rfl).mono fun _ _ h => ⟨_, _, h.1, Or.inl ⟨⟨h1, h2, h3, h4⟩, rfl, rfl⟩, h.2⟩
        · exact (pair_no4 a b c a' b' c' w h1 h2 h3 h4).mono fun _ _ h => no (fun hp => h4 hp.2.2.2) h
      · exact (pair_no3 a b c a' b' c' w h1 h2 h3).mono fun _ _ h => no (fun hp => h3 hp.2.2.1) h
set_option maxHeartbeats 2000000 in
theorem rpair_no1 (a b c a' b' c' : Int) (w : World) (h1 : lB a b c = false) :
    Calls Tryz.prog 45 #[.agg #[.int .i64 a, .int .i64 b, .int .i64 c], .agg #[.int .i64 a', .int .i64 b', .int .i64 c']] w fun e w' => e = .returned (.tuple #[.string ⟨#[]⟩, .int .i64 1]) ∧ Below w.heap.size w w' := by
  have H1 := hide h1
  clear h1
  go_enter Tryz.func45, Tryz.ntmps45
  go_wp2_with fail
  generalize hW : (w.alloc _).alloc _ = W
  obtain ⟨B, bx, by'⟩ := boxD hW
  clear hW
  have lx := bx.lt
  have ly := by'.lt
  have KS : Hid (∀ w', Below W.heap.size W w' → w'.cell? ⟨w.heap.size, 0, none⟩ = some (.int .i64 a) ∧ w'.cell? ⟨w.heap.size, 1, none⟩ = some (.int .i64 b) ∧ w'.cell? ⟨w.heap.size, 2, none⟩ = some (.int .i64 c) ∧ w'.cell? ⟨w.heap.size + 1, 0, none⟩ = some (.int .i64 a') ∧ w'.cell? ⟨w.heap.size + 1, 1, none⟩ = some (.int .i64 b') ∧ w'.cell? ⟨w.heap.size + 1, 2, none⟩ = some (.int .i64 c')) := fun w' h => ⟨(bx.below h lx).at_ 0, (bx.below h lx).at_ 1, (bx.below h lx).at_ 2, (by'.below h ly).at_ 0, (by'.below h ly).at_ 1, (by'.below h ly).at_ 2⟩
  clear bx by'
  obtain ⟨k0, k1, k2, k3, k4, k5⟩ := KS.out _ (Below.refl _ _)
  go_wp2_with fail
  clear k0 k1 k2 k3 k4 k5
  refine (rvalid_any a b c _ false H1.out).mono ?_
  rintro e w1 ⟨rfl, E1⟩
  obtain ⟨k0, k1, k2, k3, k4, k5⟩ := KS.out _ E1
  have z1 := E1.size
  go_wp2_with fail
  refine bodyPost_ret (v := .tuple #[.string ⟨#[]⟩, .int .i64 1]) (by simp [results, Tryz.results45, go_sem]) rfl ?_
  exact ⟨rfl, B.trans (E1.mono B.size)⟩
set_option maxHeartbeats 2000000 in
theorem rpair_no2 (a b c a' b' c' : Int) (w : World) (h1 : lB a b c = true) (h2 : lB a' b' c' = false) :
    Calls Tryz.prog 45 #[.agg #[.int .i64 a, .int .i64 b, .int .i64 c], .agg #[.int .i64 a', .int .i64 b', .int .i64 c']] w fun e w' => e = .returned (.tuple #[.string ⟨#[]⟩, .int .i64 1]) ∧ Below w.heap.size w w' := by
  have H1 := hide h1
  clear h1
  have H2 := hide h2
  clear h2
  go_enter Tryz.func45, Tryz.ntmps45
  go_wp2_with fail
  generalize hW : (w.alloc _).alloc _ = W
  obtain ⟨B, bx, by'⟩ := boxD hW
  clear hW
  have lx := bx.lt
  have ly := by'.lt
  have KS : Hid (∀ w', Below W.heap.size W w' → w'.cell? ⟨w.heap.size, 0, none⟩ = some (.int .i64 a) ∧ w'.cell? ⟨w.heap.size, 1, none⟩ = some (.int .i64 b) ∧ w'.cell? ⟨w.heap.size, 2, none⟩ = some (.int .i64 c) ∧ w'.cell? ⟨w.heap.size + 1, 0, none⟩ = some (.int .i64 a') ∧ w'.cell? ⟨w.heap.size + 1, 1, none⟩ = some (.int .i64 b') ∧ w'.cell? ⟨w.heap.size + 1, 2, none⟩ = some (.int .i64 c')) := fun w' h => ⟨(bx.below h lx).at_ 0, (bx.below h lx).at_ 1, (bx.below h lx).at_ 2, (by'.below h ly).at_ 0, (by'.below h ly).at_ 1, (by'.below h ly).at_ 2⟩
  clear bx by'
  obtain ⟨k0, k1, k2, k3, k4, k5⟩ := KS.out _ (Below.refl _ _)
  go_wp2_with fail
  clear k0 k1 k2 k3 k4 k5
  refine (rvalid_any a b c _ true H1.out).mono ?_
  rintro e w1 ⟨rfl, E1⟩
  obtain ⟨k0, k1, k2, k3, k4, k5⟩ := KS.out _ E1
  have z1 := E1.size
  go_wp2_with fail
  refine (rvalid_any a' b' c' _ false H2.out).mono ?_
  rintro e w2 ⟨rfl, hb⟩
  have E2 := E1.trans (hb.mono E1.size)
  clear hb k0 k1 k2 k3 k4 k5
  obtain ⟨k0, k1, k2, k3, k4, k5⟩ := KS.out _ E2
  go_wp2_with fail
  refine bodyPost_ret (v := .tuple #[.string ⟨#[]⟩, .int .i64 1]) (by simp [results, Tryz.results45, go_sem]) rfl ?_
  exact ⟨rfl, B.trans (E2.mono B.size)⟩
set_option maxHeartbeats 2000000 in
theorem rpair_no3 (a b c a' b' c' : Int) (w : World) (h1 : lB a b c = true) (h2 : lB a' b' c' = true) (h3 : a ≠ 0) :
    Calls Tryz.prog 45 #[.agg #[.int .i64 a, .int .i64 b, .int .i64 c], .agg #[.int .i64 a', .int .i64 b', .int .i64 c']] w fun e w' => e = .returned (.tuple #[.string ⟨#[]⟩, .int .i64 1]) ∧ Below w.heap.size w w' := by
  have H1 := hide h1
  clear h1
  have H2 := hide h2
  clear h2
  have e0 : (a == 0) = false := beq_eq_false_iff_ne.2 h3
  have e1 : (a != 0) = true := by simp [h3]
  go_enter Tryz.func45, Tryz.ntmps45
  go_wp2_with fail
  generalize hW : (w.alloc _).alloc _ = W
  obtain ⟨B, bx, by'⟩ := boxD hW
  clear hW
  have lx := bx.lt
  have ly := by'.lt
  have KS : Hid (∀ w', Below W.heap.size W w' → w'.cell? ⟨w.heap.size, 0, none⟩ = some (.int .i64 a) ∧ w'.cell? ⟨w.heap.size, 1, none⟩ = some (.int .i64 b) ∧ w'.cell? ⟨w.heap.size, 2, none⟩ = some (.int .i64 c) ∧ w'.cell? ⟨w.heap.size + 1, 0, none⟩ = some (.int .i64 a') ∧ w'.cell? ⟨w.heap.size + 1, 1, none⟩ = some (.int .i64 b') ∧ w'.cell? ⟨w.heap.size + 1, 2, none⟩ = some (.int .i64 c')) := fun w' h => ⟨(bx.below h lx).at_ 0, (bx.below h lx).at_ 1, (bx.below h lx).at_ 2, (by'.below h ly).at_ 0, (by'.below h ly).at_ 1, (by'.below h ly).at_ 2⟩
  clear bx by'
  obtain ⟨k0, k1, k2, k3, k4, k5⟩ := KS.out _ (Below.refl _ _)
  go_wp2_with fail
  clear k0 k1 k2 k3 k4 k5
  refine (rvalid_any a b c _ true H1.out).mono ?_
  rintro e w1 ⟨rfl, E1⟩
  obtain ⟨k0, k1, k2, k3, k4, k5⟩ := KS.out _ E1
  have z1 := E1.size
  go_wp2_with fail
  refine (rvalid_any a' b' c' _ true H2.out).mono ?_
  rintro e w2 ⟨rfl, hb⟩
  have E2 := E1.trans (hb.mono E1.size)
  clear hb k0 k1 k2 k3 k4 k5
  obtain ⟨k0, k1, k2, k3, k4, k5⟩ := KS.out _ E2
  go_wp2_with fail
  refine bodyPost_ret (v := .tuple #[.string ⟨#[]⟩, .int .i64 1]) (by simp [results, Tryz.results45, go_sem]) rfl ?_
  exact ⟨rfl, B.trans (E2.mono B.size)⟩
set_option maxHeartbeats 2000000 in
theorem rpair_no4 (a b c a' b' c' : Int) (w : World) (h1 : lB a b c = true) (h2 : lB a' b' c' = true) (h3 : a = 0) (h4 : a' ≠ 1) :
    Calls Tryz.prog 45 #[.agg #[.int .i64 a, .int .i64 b, .int .i64 c], .agg #[.int .i64 a', .int .i64 b', .int .i64 c']] w fun e w' => e = .returned (.tuple #[.string ⟨#[]⟩, .int .i64 1]) ∧ Below w.heap.size w w' := by
  have H1 := hide h1
  clear h1
  have H2 := hide h2
  clear h2
  subst h3
  have e0 : (a' == 1) = false := beq_eq_false_iff_ne.2 h4
  have e1 : (a' != 1) = true := by simp [h4]
  go_enter Tryz.func45, Tryz.ntmps45
  go_wp2_with fail
  generalize hW : (w.alloc _).alloc _ = W
  obtain ⟨B, bx, by'⟩ := boxD hW
  clear hW
  have lx := bx.lt
  have ly := by'.lt
  have KS : Hid (∀ w', Below W.heap.size W w' → w'.cell? ⟨w.heap.size, 0, none⟩ = some (.int .i64 0) ∧ w'.cell? ⟨w.heap.size, 1, none⟩ = some (.int .i64 b) ∧ w'.cell? ⟨w.heap.size, 2, none⟩ = some (.int .i64 c) ∧ w'.cell? ⟨w.heap.size + 1, 0, none⟩ = some (.int .i64 a') ∧ w'.cell? ⟨w.heap.size + 1, 1, none⟩ = some (.int .i64 b') ∧ w'.cell? ⟨w.heap.size + 1, 2, none⟩ = some (.int .i64 c')) := fun w' h => ⟨(bx.below h lx).at_ 0, (bx.below h lx).at_ 1, (bx.below h lx).at_ 2, (by'.below h ly).at_ 0, (by'.below h ly).at_ 1, (by'.below h ly).at_ 2⟩
  clear bx by'
  obtain ⟨k0, k1, k2, k3, k4, k5⟩ := KS.out _ (Below.refl _ _)
  go_wp2_with fail
  clear k0 k1 k2 k3 k4 k5
  refine (rvalid_any 0 b c _ true H1.out).mono ?_
  rintro e w1 ⟨rfl, E1⟩
  obtain ⟨k0, k1, k2, k3, k4, k5⟩ := KS.out _ E1
  have z1 := E1.size
  go_wp2_with fail
  refine (rvalid_any a' b' c' _ true H2.out).mono ?_
  rintro e w2 ⟨rfl, hb⟩
  have E2 := E1.trans (hb.mono E1.size)
  clear hb k0 k1 k2 k3 k4 k5
  obtain ⟨k0, k1, k2, k3, k4, k5⟩ := KS.out _ E2
  go_wp2_with fail
  refine bodyPost_ret (v := .tuple #[.string ⟨#[]⟩, .int .i64 1]) (by simp [results, Tryz.results45, go_sem]) rfl ?_
  exact ⟨rfl, B.trans (E2.mono B.size)⟩
set_option maxHeartbeats 2000000 in
theorem rpair_ok (a b c a' b' c' : Int) (w : World) (hT : Lw w) (h1 : lB a b c = true) (h2 : lB a' b' c' = true) (h3 : a = 0) (h4 : a' = 1) (S : ByteArray) (hS : labT a b c ++ ⟨#[47]⟩ ++ labT a' b' c' = S) :
    Calls Tryz.prog 45 #[.agg #[.int .i64 a, .int .i64 b, .int .i64 c], .agg #[.int .i64 a', .int .i64 b', .int .i64 c']] w fun e w' => e = .returned (.tuple #[.string S, .int .i64 0]) ∧ Below w.heap.size w w' := by
  have H1 := hide h1
  clear h1
  have H2 := hide h2
  clear h2
  subst h3
  subst h4
  have HT := hide hT
  have z1 := labT_size 0 b c
  have z2 := labT_size 1 b' c'
  obtain ⟨X, hX⟩ : ∃ X, labT 0 b c = X := ⟨_, rfl⟩
  obtain ⟨Y, hY⟩ : ∃ Y, labT 1 b' c' = Y := ⟨_, rfl⟩
  rw [hX] at z1 hS
  rw [hY] at z2 hS
  have HX := hide hX
  have HY := hide hY
  have HS := hide hS
  have c3 : (X ++ (⟨#[47]⟩ : ByteArray)).size = X.size + 1 := by rw [ByteArray.size_append]; rfl
  have A1 := fun (W : World) => add_run X ⟨#[47]⟩ (by have h3 : (⟨#[47]⟩ : ByteArray).size = 1 := rfl; omega) W
  have A2 := fun (W : World) => add_run (X ++ ⟨#[47]⟩) Y (by omega) W
  clear hT hX hY hS c3 z1 z2
  go_enter Tryz.func45, Tryz.ntmps45
  go_wp2_with fail
  generalize hW : (w.alloc _).alloc _ = W
  obtain ⟨B, bx, by'⟩ := boxD hW
  clear hW
  have lx := bx.lt
  have ly := by'.lt
  have KS : Hid (∀ w', Below W.heap.size W w' → w'.cell? ⟨w.heap.size, 0, none⟩ = some (.int .i64 0) ∧ w'.cell? ⟨w.heap.size, 1, none⟩ = some (.int .i64 b) ∧ w'.cell? ⟨w.heap.size, 2, none⟩ = some (.int .i64 c) ∧ w'.cell? ⟨w.heap.size + 1, 0, none⟩ = some (.int .i64 1) ∧ w'.cell? ⟨w.heap.size + 1, 1, none⟩ = some (.int .i64 b') ∧ w'.cell? ⟨w.heap.size + 1, 2, none⟩ = some (.int .i64 c')) := fun w' h => ⟨(bx.below h lx).at_ 0, (bx.below h lx).at_ 1, (bx.below h lx).at_ 2, (by'.below h ly).at_ 0, (by'.below h ly).at_ 1, (by'.below h ly).at_ 2⟩
  clear bx by'
  obtain ⟨k0, k1, k2, k3, k4, k5⟩ := KS.out _ (Below.refl _ _)
  go_wp2_with fail
  clear k0 k1 k2 k3 k4 k5
  refine (rvalid_any 0 b c _ true H1.out).mono ?_
  rintro e w1 ⟨rfl, E1⟩
  obtain ⟨k0, k1, k2, k3, k4, k5⟩ := KS.out _ E1
  have z1 := E1.size
  go_wp2_with fail
  refine (rvalid_any 1 b' c' _ true H2.out).mono ?_
  rintro e w2 ⟨rfl, hb⟩
  have E2 := E1.trans (hb.mono E1.size)
  clear hb k0 k1 k2 k3 k4 k5
  obtain ⟨k0, k1, k2, k3, k4, k5⟩ := KS.out _ E2
  have KS2 : Hid (∀ w', Below w2.heap.size w2 w' → w'.cell? ⟨w.heap.size, 0, none⟩ = some (.int .i64 0) ∧ w'.cell? ⟨w.heap.size, 1, none⟩ = some (.int .i64 b) ∧ w'.cell? ⟨w.heap.size, 2, none⟩ = some (.int .i64 c) ∧ w'.cell? ⟨w.heap.size + 1, 0, none⟩ = some (.int .i64 1) ∧ w'.cell? ⟨w.heap.size + 1, 1, none⟩ = some (.int .i64 b') ∧ w'.cell? ⟨w.heap.size + 1, 2, none⟩ = some (.int .i64 c')) := fun w' h => KS.out _ (E2.trans (h.mono E2.size))
  have KT : Hid (∀ w', Below w2.heap.size w2 w' → Lw w') := fun w' h => HT.out.below (B.trans ((E2.trans (h.mono E2.size)).mono B.size))
  have B := B.trans (E2.mono B.size)
  clear KS E1 E2 z1 lx ly
  go_wp2_with fail
  clear k0 k1 k2 k3 k4 k5
  go_region_held3 (fun w' => w'.cell? ⟨w.heap.size, 0, none⟩ = some (.int .i64 0) ∧ w'.cell? ⟨w.heap.size, 1, none⟩ = some (.int .i64 b) ∧ w'.cell? ⟨w.heap.size, 2, none⟩ = some (.int .i64 c) ∧ w'.cell? ⟨w.heap.size + 1, 0, none⟩ = some (.int .i64 1) ∧ w'.cell? ⟨w.heap.size + 1, 1, none⟩ = some (.int .i64 b') ∧ w'.cell? ⟨w.heap.size + 1, 2, none⟩ = some (.int .i64 c'))
    (exact KS2.out _ (by ((repeat (first | (with_reducible assumption) | (with_reducible exact Below.refl _ _) | (with_reducible refine Below.drewS ?_) | (with_reducible refine Below.allocS ?_ _) | (with_reducible refine Below.setS ?_ (by first | omega | (simp; omega)) _))); (first | done | fail))))
    (first
      | (go_at_call_of 78 (Value.int IntKind.i64 b); (with_reducible refine (rtext5_any 0 b c _ (KT.out _ (by ((repeat (first | (with_reducible assumption) | (with_reducible exact Below.refl _ _) | (with_reducible refine Below.drewS ?_) | (with_reducible refine Below.allocS ?_ _) | (with_reducible refine Below.setS ?_ (by first | omega | (simp; omega)) _))); (first | done | fail)))) X HX.out).mono ?_); rintro e w3 ⟨rfl, hb3⟩; have E3 : Below w2.heap.size w2 w3 := Below.next (by ((repeat (first | (with_reducible assumption) | (with_reducible exact Below.refl _ _) | (with_reducible refine Below.drewS ?_) | (with_reducible refine Below.allocS ?_ _) | (with_reducible refine Below.setS ?_ (by first | omega | (simp; omega)) _))); (first | done | fail))) hb3; have z3 := E3.size)
      | (go_at_call_of 78 (Value.int IntKind.i64 b'); (with_reducible refine (rtext5_any 1 b' c' _ (KT.out _ (by ((repeat (first | (with_reducible assumption) | (with_reducible exact Below.refl _ _) | (with_reducible refine Below.drewS ?_) | (with_reducible refine Below.allocS ?_ _) | (with_reducible refine Below.setS ?_ (by first | omega | (simp; omega)) _))); (first | done | fail)))) Y HY.out).mono ?_); rintro e w4 ⟨rfl, hb4⟩; have E4 : Below w2.heap.size w2 w4 := Below.next (by ((repeat (first | (with_reducible assumption) | (with_reducible exact Below.refl _ _) | (with_reducible refine Below.drewS ?_) | (with_reducible refine Below.allocS ?_ _) | (with_reducible refine Below.setS ?_ (by first | omega | (simp; omega)) _))); (first | done | fail))) hb4))
  all_goals
    go_wp2_with fail
    refine bodyPost_ret (v := .tuple #[.string (X ++ ⟨#[47]⟩ ++ Y), .int .i64 0]) (by simp [results, Tryz.results45, go_sem]) rfl ?_
    exact ⟨by rw [HS.out], B.trans (E4.mono B.size)⟩
theorem rpair_any (a b c a' b' c' : Int) (w : World) (hT : Lw w) :
    Calls Tryz.prog 45 #[.agg #[.int .i64 a, .int .i64 b, .int .i64 c], .agg #[.int .i64 a', .int .i64 b', .int .i64 c']] w fun e w' => ∃ S r, e = .returned (.tuple #[.string S, .int .i64 r]) ∧ ((pB a b c a' b' c' ∧ S = labT a b c ++ ⟨#[47]⟩ ++ labT a' b' c' ∧ r = 0) ∨ (¬ pB a b c a' b' c' ∧ S = ⟨#[]⟩ ∧ r = 1)) ∧ Below w.heap.size w w' := by
  have no : ∀ {e : Ending} {w' : World}, ¬ pB a b c a' b' c' → e = .returned (.tuple #[.string ⟨#[]⟩, .int .i64 1]) ∧ Below w.heap.size w w' → ∃ S r, e = .returned (.tuple #[.string S, .int .i64 r]) ∧ ((pB a b c a' b' c' ∧ S = labT a b c ++ ⟨#[47]⟩ ++ labT a' b' c' ∧ r = 0) ∨ (¬ pB a b c a' b' c' ∧ S = ⟨#[]⟩ ∧ r = 1)) ∧ Below w.heap.size w w' := fun hn h => ⟨_, _, h.1, Or.inr ⟨hn, rfl, rfl⟩, h.2⟩
  rcases h1 : lB a b c with _ | _
  · exact (rpair_no1 a b c a' b' c' w h1).mono fun _ _ h => no (fun hp => by have := hp.1; rw [h1] at this; exact absurd this (by decide)) h
  · rcases h2 : lB a' b' c' with _ | _
    · exact (rpair_no2 a b c a' b' c' w h1 h2).mono fun _ _ h => no (fun hp => by have := hp.2.1; rw [h2] at this; exact absurd this (by decide)) h
    · by_cases h3 : a = 0
      · by_cases h4 : a' = 1
        · exact (rpair_ok a b c a' b' c' w hT h1 h2 h3 h4 _ rfl).mono fun _ _ h => ⟨_, _, h.1, Or.inl ⟨⟨h1, h2, h3, h4⟩, rfl, rfl⟩, h.2⟩
        · exact (rpair_no4 a b c a' b' c' w h1 h2 h3 h4).mono fun _ _ h => no (fun hp => h4 hp.2.2.2) h
      · exact (rpair_no3 a b c a' b' c' w h1 h2 h3).mono fun _ _ h => no (fun hp => h3 hp.2.2.1) h
end Go.Proofs.YtaapcfflnklpjaaGreatDoor

/- Runs: group, isAscending. -/
namespace Go.Proofs.YtaapcfflnklpjaaGreatDoor
open Go Go.RowKit Go.Lib

/-- a slice of ints that reads as xs -/
def IL (w : World) (A : Option Addr) (n : Nat) (xs : List Int) : Prop :=
  xs.length = n ∧ (0 < n → ∃ b o, A = some ⟨b, o, none⟩ ∧ ∀ (j : Nat) (x : Int), xs[j]? = some x → w.cell? ⟨b, o + j, none⟩ = some (.int .i64 x))
section
variable {w w' : World} {A : Option Addr} {n : Nat} {xs : List Int}
theorem IL.len (h : IL w A n xs) : xs.length = n := h.1
theorem IL.nil_ : IL w A 0 [] := ⟨rfl, fun h => absurd h (by omega)⟩
theorem IL.at_ (h : IL w A n xs) {j : Nat} (hj : j < n) : ∃ b o x, A = some ⟨b, o, none⟩ ∧ xs[j]? = some x ∧ w.cell? ⟨b, o + j, none⟩ = some (.int .i64 x) := by
  obtain ⟨b, o, e, hc⟩ := h.2 (by omega)
  have hl : j < xs.length := by rw [h.1]; exact hj
  exact ⟨b, o, xs[j], e, List.getElem?_eq_getElem hl, hc j _ (List.getElem?_eq_getElem hl)⟩
theorem IL.below (h : IL w A n xs) (hb : Below w.heap.size w w') : IL w' A n xs :=
  ⟨h.1, fun hn => by
    obtain ⟨b, o, e, hc⟩ := h.2 hn
    exact ⟨b, o, e, fun j x hx => (hb.cell (p := ⟨b, o + j, none⟩) (World.block_lt_of_cell? w _ (hc j x hx))).trans (hc j x hx)⟩⟩
end
/-- strictly ascending from y to n - 1 -/
def setB (n : Int) : Int → List Int → Bool
  | _, [] => true
  | y, x :: l => if x < y then false else if n ≤ x then false else setB n (x + 1) l
theorem drop_at5 {xs : List Int} {j : Nat} {x : Int} (h : xs[j]? = some x) : xs.drop j = x :: xs.drop (j + 1) := by
  obtain ⟨hj, e⟩ := List.getElem?_eq_some_iff.1 h
  rw [List.drop_eq_getElem_cons hj, e]
/-- the text of a group -/
def groupL (a b : Nat) : List UInt8 := if a = b then Lib.decDigits a else Lib.decDigits a ++ 45 :: Lib.decDigits b
/-- what is known at place k: y is one more than the number before it -/
def AscAt5 (xs : List Int) (k : Nat) (y : Int) : Prop := 1 ≤ y ∧ (k = 0 → y = 1) ∧ (∀ f, k = f + 1 → xs[f]? = some (y - 1))
/-- how many go on by one each behind p -/
def consL : Int → List Int → Nat
  | _, [] => 0
  | p, x :: l => if x = p + 1 then consL x l + 1 else 0
theorem consL_le : ∀ (p : Int) (l : List Int), consL p l ≤ l.length
  | _, [] => Nat.le_refl _
  | p, x :: l => by
    unfold consL
    split
    · have := consL_le x l
      simp only [List.length_cons]; omega
    · exact Nat.zero_le _
end Go.Proofs.YtaapcfflnklpjaaGreatDoor

/- Rows of strings of the call's own: append. -/
namespace Go.Proofs.YtaapcfflnklpjaaGreatDoor
open Go Go.RowKit

def Grow (B : Nat) (w w' : World) : Prop := Below B w w' ∧ w.heap.size ≤ w'.heap.size
theorem Grow.of {w w' : World} (h : Below w.heap.size w w') {B : Nat} (hB : B ≤ w.heap.size) : Grow B w w' := ⟨h.mono hB, h.size⟩
/-- every cell is an int -/
def AllB (cs : Array Value) : Prop := ∀ (j : Nat) (v : Value), cs[j]? = some v → ∃ x : ByteArray, v = .string x
/-- a row of the call's own: nil, or the head of a block of slices, from base on -/
def SR (w : World) (base : Nat) (A : Option Addr) (n c : Nat) (us : List ByteArray) : Prop :=
  us.length = n ∧ ((A = none ∧ n = 0 ∧ c = 0) ∨ ∃ g cur, A = some ⟨g, 0, none⟩ ∧ base ≤ g ∧ w.heap[g]? = some (.cells cur 9 (0, 0)) ∧ n ≤ c ∧ c ≤ maxLen ∧ cur.size = c ∧ AllB cur ∧
    ∀ (j : Nat) (u : ByteArray), us[j]? = some u → cur[j]? = some (.string u))
section
variable {w w' : World} {base n c : Nat} {A : Option Addr} {us : List ByteArray}
theorem SR.nil_ : SR w base none 0 0 [] := ⟨rfl, .inl ⟨rfl, rfl, rfl⟩⟩
theorem SR.len (h : SR w base A n c us) : us.length = n := h.1
theorem SR.le (h : SR w base A n c us) : n ≤ c ∧ c ≤ maxLen := by
  rcases h.2 with ⟨_, h1, h2⟩ | ⟨g, cur, _, _, _, h1, h2, _⟩
  · subst h1; subst h2; exact ⟨Nat.le_refl _, by simp [maxLen]⟩
  · exact ⟨h1, h2⟩
theorem SR.lt (h : SR w base A n c us) : ∀ b o, A = some ⟨b, o, none⟩ → base ≤ b ∧ b < w.heap.size := by
  intro b o e
  rcases h.2 with ⟨h0, _⟩ | ⟨g, cur, h0, hb, hg, _⟩
  · rw [h0] at e; cases e
  · rw [h0] at e; injection e with e; injection e with e1 e2
    subst e1
    exact ⟨hb, (Array.getElem?_eq_some_iff.1 hg).1⟩
theorem SR.at_ (h : SR w base A n c us) (hn : 0 < n) : ∃ g, A = some ⟨g, 0, none⟩ ∧ g < w.heap.size ∧ ∀ (j : Nat) u, us[j]? = some u → w.cell? ⟨g, 0 + j, none⟩ = some (.string u) := by
  rcases h.2 with ⟨_, h1, _⟩ | ⟨g, cur, h0, hb, hg, _, _, _, _, hu⟩
  · omega
  · refine ⟨g, h0, (Array.getElem?_eq_some_iff.1 hg).1, fun j u hj => ?_⟩
    rw [Nat.zero_add, cell_of_row w g j cur _ (0, 0) hg]
    exact hu j u hj
theorem SR.grow {B : Nat} (h : SR w base A n c us) (hB : ∀ b o, A = some ⟨b, o, none⟩ → b < B) (hg : Grow B w w') : SR w' base A n c us := by
  refine ⟨h.1, ?_⟩
  rcases h.2 with h0 | ⟨g, cur, e, hb, hgg, h1, h2, h3, h4, hu⟩
  · exact .inl h0
  · exact .inr ⟨g, cur, e, hb, (hg.1.block g (hB g 0 e)).trans hgg, h1, h2, h3, h4, hu⟩
theorem SR.far (h : SR w base A n c us) {k i : Nat} (hne : ∀ b o, A = some ⟨b, o, none⟩ → b ≠ k) (v : Value) : SR (w.setCell ⟨k, i, none⟩ v) base A n c us := by
  refine ⟨h.1, ?_⟩
  rcases h.2 with h0 | ⟨g, cur, e, hb, hgg, h1, h2, h3, h4, hu⟩
  · exact .inl h0
  · exact .inr ⟨g, cur, e, hb, (Below.heap_setCell w ⟨k, i, none⟩ v g (hne g 0 e)).trans hgg, h1, h2, h3, h4, hu⟩
theorem SR.below (h : SR w base A n c us) (hb : Below w.heap.size w w') : SR w' base A n c us := h.grow (fun b o e => (h.lt b o e).2) (Grow.of hb (Nat.le_refl _))
theorem SR.low (h : SR w base A n c us) {b' : Nat} (hb : b' ≤ base) : SR w b' A n c us := by
  refine ⟨h.1, ?_⟩
  rcases h.2 with h0 | ⟨g, cur, e, hb2, r⟩
  · exact .inl h0
  · exact .inr ⟨g, cur, e, by omega, r⟩
end
theorem rl_farB {w : World} {S : Option Addr} {m g : Nat} {xs : List Nat} {cur : Array Value} {t : TypeId} {fr : Nat × Nat} (h : RL w .u32 S m xs) (hg : w.heap[g]? = some (.cells cur t fr)) (hs : AllB cur) : Sp S m g := by
  intro hn b o e
  rintro rfl
  subst e
  obtain ⟨x, _, hc⟩ := h.cell hn
  rw [cell_of_row w b _ _ t fr hg] at hc
  obtain ⟨y, e2⟩ := hs _ _ hc
  cases e2
/-- what has grown: nothing below a bound has turned, words read as before, boxes other than the row's block stay -/
def GrowB (B : Nat) (A : Option Addr) (w w' : World) : Prop := Below B w w' ∧ w.heap.size ≤ w'.heap.size ∧ (∀ A n xs, RL w .u32 A n xs → RL w' .u32 A n xs) ∧ ∀ h vs t, Box w h vs t → (∀ b o, A = some ⟨b, o, none⟩ → b ≠ h) → Box w' h vs t
theorem GrowB.of {w w' : World} (h : Below w.heap.size w w') {B : Nat} (hB : B ≤ w.heap.size) {A : Option Addr} : GrowB B A w w' := ⟨h.mono hB, h.size, fun _ _ _ hc => hc.below h, fun _ _ _ hb _ => hb.below' h⟩
theorem AllB.app {a b : Array Value} (ha : AllB a) (hb : AllB b) : AllB (a ++ b) := by
  intro j v e
  rw [Array.getElem?_append] at e
  split at e
  · exact ha _ _ e
  · exact hb _ _ e
theorem AllB.one (x : ByteArray) : AllB [Value.string x].toArray := by
  intro j v e
  rcases j with _ | j
  · simp at e; exact ⟨x, e.symm⟩
  · simp at e
theorem AllB.take_ {cur : Array Value} (h : AllB cur) (n : Nat) : AllB (cur.toList.take n).toArray := by
  intro j v e
  rw [List.getElem?_toArray, List.getElem?_take] at e
  split at e
  · exact h j v (by simpa using e)
  · cases e
theorem AllB.drop_ {cur : Array Value} (h : AllB cur) (n : Nat) : AllB (cur.toList.drop n).toArray := by
  intro j v e
  rw [List.getElem?_toArray, List.getElem?_drop] at e
  exact h (n + j) v (by simpa using e)
theorem AllB.zeros (n : Nat) : AllB (Builtin.zeroCells (Value.string ⟨#[]⟩).cells n) := by
  intro j v e
  have ec : (Value.string ⟨#[]⟩).cells = #[Value.string ⟨#[]⟩] := rfl
  rw [ec] at e
  unfold Builtin.zeroCells at e
  rw [Array.getElem?_map] at e
  obtain ⟨i, -, e2⟩ := Option.map_eq_some_iff.1 e
  have e3 : (#[Value.string ⟨#[]⟩] : Array Value).size = 1 := rfl
  rw [e3, Nat.mod_one] at e2
  exact ⟨⟨#[]⟩, e2.symm⟩
theorem elems_appB {us : List ByteArray} {xs : List Value} {n : Nat} {u : ByteArray} (hl : us.length = n) (hx : xs.length = n) (h : ∀ (j : Nat) (u' : ByteArray), us[j]? = some u' → xs[j]? = some (Value.string u')) (rest : List Value) :
    ∀ (j : Nat) (u' : ByteArray), (us ++ [u])[j]? = some u' → (xs ++ Value.string u :: rest)[j]? = some (Value.string u') := by
  intro j u' e
  rcases Nat.lt_or_ge j n with hj | hj
  · rw [List.getElem?_append_left (by omega)] at e
    rw [List.getElem?_append_left (by omega)]
    exact h j u' e
  · rw [List.getElem?_append_right (by omega), hl] at e
    rw [List.getElem?_append_right (by omega), hx]
    rcases hk : j - n with _ | k
    · rw [hk] at e
      simp at e
      subst e
      rfl
    · rw [hk] at e
      simp at e
/-- 'append(s, x)': s the call's own row of naturals, x a natural in a cell. -/
theorem run_append_sr {P : Program} (w : World) (t ty : TypeId) (bytes : Nat) (ht : P.underlying t = some (.slice 9))
    (h2 : (P.info? 9).map (fun i => (i.zero, i.size, i.bytes)) = some (some (.string ⟨#[]⟩), 1, bytes))
    {base n c : Nat} {A : Option Addr} {us : List ByteArray} (h : SR w base A n c us) (b o cc : Nat) {u : ByteArray} (hx : w.cell? ⟨b, o, none⟩ = some (.string u)) (hby : bytes ≤ 24) (hN : n + 1 ≤ 100000) (hbase : base ≤ w.heap.size) :
    ∃ A' c' w', (Builtin.append_ #[t, t] ty #[.slice A n c, .slice (some ⟨b, o, none⟩) 1 cc]).run P w = .ok (.slice A' (n + 1) c') w' ∧ SR w' base A' (n + 1) c' (us ++ [u]) ∧ GrowB base A w w' := by
  obtain ⟨i, hi, hz, hs, hb⟩ := info_parts h2
  have hml : (100000 : Nat) ≤ maxLen := by simp [maxLen]
  have hnews : ∀ j v, ([.string u] : List Value)[j]? = some v → w.cell? ((⟨b, o, none⟩ : Addr).add j) = some v := by
    intro j v e
    rcases j with _ | j
    · simp at e; subst e
      have h0 : (⟨b, o, none⟩ : Addr).add 0 = ⟨b, o, none⟩ := by unfold Addr.add; split <;> simp_all
      rw [h0]; exact hx
    · simp at e
  have new : ∀ (xs rest : List Value) (cap : Nat), xs.length = n → AllB xs.toArray → AllB rest.toArray → (xs ++ Value.string u :: rest).length = cap → n + 1 ≤ cap → cap ≤ maxLen → (∀ (j : Nat) (u' : ByteArray), us[j]? = some u' → xs[j]? = some (Value.string u')) →
      SR (w.drew.alloc (.cells (xs ++ Value.string u :: rest).toArray 9)) base (some ⟨w.heap.size, 0, none⟩) (n + 1) cap (us ++ [u]) ∧ GrowB base A w (w.drew.alloc (.cells (xs ++ Value.string u :: rest).toArray 9)) := by
    intro xs rest cap h1 h2 h3 h4 h5 h6 h7
    have hB : Below w.heap.size w (w.drew.alloc (.cells (xs ++ Value.string u :: rest).toArray 9)) := (Below.refl _ _).drew.alloc (Nat.le_refl _) _
    have hall : AllB (xs ++ Value.string u :: rest).toArray := by
      have := (h2.app (AllB.one u)).app h3
      simpa using this
    refine ⟨⟨by simp [h.1], .inr ⟨w.heap.size, _, rfl, hbase, heap_alloc_new w.drew _, h5, h6, by simpa using h4, hall, fun j u' hj => ?_⟩⟩, GrowB.of hB hbase⟩
    rw [List.getElem?_toArray]
    exact elems_appB h.1 h1 h7 rest j u' hj
  rcases h.2 with ⟨rfl, rfl, rfl⟩ | ⟨g, cur, rfl, hbg, hg, hnc, hcm, hcs, hall, hu⟩
  · have hus : us = [] := List.eq_nil_of_length_eq_zero h.1
    subst hus
    have hr := run_append_nil (P := P) w t ty _ i _ ht hi hz ⟨b, o, none⟩ 1 cc [.string u] (by rw [hs]; rfl) hnews (by omega) (by omega) (by rw [hb]; omega)
    have hge := grownCap_ge w 1 0 9
    have hle := grownCap_le_maxLen w 1 0 9 (by omega)
    obtain ⟨k1, k2⟩ := new [] (Builtin.zeroCells (Value.string ⟨#[]⟩).cells (grownCap w 1 0 9 - 1)).toList (grownCap w 1 0 9) rfl (fun j v e => by simp at e) (by simpa using AllB.zeros _) (by simp [size_zeroCells, Value.cells]; omega) hge hle (fun j u' e => by simp at e)
    have e0 : (([] : List Value) ++ Value.string u :: (Builtin.zeroCells (Value.string ⟨#[]⟩).cells (grownCap w 1 0 9 - 1)).toList).toArray = [Value.string u].toArray ++ Builtin.zeroCells (Value.string ⟨#[]⟩).cells (grownCap w 1 0 9 - 1) := by
      apply Array.ext'
      simp
    rw [e0] at k1 k2
    exact ⟨_, _, _, hr, k1, k2⟩
  · have hcl : cur.toList.length = c := by rw [Array.length_toList, hcs]
    have htl : (cur.toList.take n).length = n := by rw [List.length_take]; omega
    have hxs : ∀ (j : Nat) (u' : ByteArray), us[j]? = some u' → (cur.toList.take n)[j]? = some (Value.string u') := by
      intro j u' e
      have e1 := hu j u' e
      have hj : j < n := by rw [← h.1]; exact (List.getElem?_eq_some_iff.1 e).1
      rw [List.getElem?_take_of_lt hj]; simpa using e1
    by_cases hroom : n + 1 ≤ c
    · have hr := run_append_room (P := P) w t ty _ i ht hi g n c cur hg ⟨b, o, none⟩ 1 cc [.string u] (by rw [hs]; rfl) hnews (by intro v hv; simp at hv; subst hv; rfl) hroom (by rw [hs]; simp; omega)
      rw [hs, Nat.mul_one] at hr
      have hrest : AllB (cur.toList.drop (n + 1)).toArray := hall.drop_ _
      generalize hcs2 : (cur.toList.take n ++ [Value.string u] ++ cur.toList.drop (n + [Value.string u].length)).toArray = cs at hr
      have hall2 : AllB cs := by
        rw [← hcs2]
        have := ((hall.take_ n).app (AllB.one u)).app hrest
        simpa using this
      have hsz2 : cs.size = c := by rw [← hcs2]; simp; omega
      have hgr : w.grownBy (w.setRow g cs) (some g) := ⟨rfl, rfl, rfl, by simp, fun k _ hk => setRow_other w g k _ (fun e => hk (by rw [e]))⟩
      have hkeep : ∀ A n xs, RL w .u32 A n xs → RL (w.setRow g cs) .u32 A n xs := fun _ _ _ hq => hq.grown hgr (rl_farB hq hg hall)
      have hbox : ∀ h vs t, Box w h vs t → (∀ b o, (some ⟨g, 0, none⟩ : Option Addr) = some ⟨b, o, none⟩ → b ≠ h) → Box (w.setRow g cs) h vs t := fun h vs t hb hne => (hgr.block h hb.lt (by simpa using fun e => hne g 0 rfl e.symm)).trans hb
      refine ⟨_, _, _, hr, ⟨by simp [h.1], .inr ⟨g, cs, rfl, hbg, setRow_heap w g cur cs _ (0, 0) hg, hroom, hcm, hsz2, hall2, fun j u' hj => ?_⟩⟩, ⟨⟨rfl, rfl, rfl, by simp, fun k hk => setRow_other w g k _ (by omega)⟩, by simp, hkeep, hbox⟩⟩
      have e := elems_appB h.1 htl hxs (cur.toList.drop (n + 1)) j u' hj
      rw [← hcs2, List.getElem?_toArray, List.append_assoc]
      exact e
    · have hholds : ∀ j v, (cur.toList.take n)[j]? = some v → w.cell? ((⟨g, 0, none⟩ : Addr).add j) = some v := by
        intro j v e
        have hadd : (⟨g, 0, none⟩ : Addr).add j = ⟨g, j, none⟩ := by unfold Addr.add; split <;> simp_all
        rw [hadd, cell_of_row w g j cur _ (0, 0) hg]
        rw [List.getElem?_take] at e
        split at e
        · simpa using e
        · cases e
      have hr := run_append_grow (P := P) w t ty _ i _ ht hi hz ⟨g, 0, none⟩ n c (cur.toList.take n) (by rw [hs, htl, Nat.mul_one]) hholds ⟨b, o, none⟩ 1 cc [.string u] (by rw [hs]; rfl) hnews (by omega) (by omega) (growslice_fits (by omega) (by rw [hb]; have : (n + 1) * bytes ≤ 100000 * 24 := Nat.mul_le_mul hN hby; omega))
      have hge := grownCap_ge w (n + 1) c 9
      have hle := grownCap_le_maxLen w (n + 1) c 9 (by omega)
      obtain ⟨k1, k2⟩ := new (cur.toList.take n) (Builtin.zeroCells (Value.string ⟨#[]⟩).cells (grownCap w (n + 1) c 9 - (n + 1))).toList (grownCap w (n + 1) c 9) htl (hall.take_ n) (by simpa using AllB.zeros _) (by simp only [List.length_append, htl, List.length_cons, Array.length_toList, size_zeroCells]; simp [Value.cells]; omega) hge hle hxs
      have e0 : (cur.toList.take n ++ Value.string u :: (Builtin.zeroCells (Value.string ⟨#[]⟩).cells (grownCap w (n + 1) c 9 - (n + 1))).toList).toArray = (cur.toList.take n).toArray ++ [Value.string u].toArray ++ Builtin.zeroCells (Value.string ⟨#[]⟩).cells (grownCap w (n + 1) c 9 - (n + 1)) := by
        apply Array.ext'
        simp
      rw [e0] at k1 k2
      exact ⟨_, _, _, hr, k1, k2⟩
section
variable {P : Program} {w : World} {ops : Array Oper} {rest : List Oper} {o : Oper} {a : Act} {Q : Exit → Act → World → Prop}
theorem wp_append_sr {K : Act → World → Prop} (s x : Operand) (t : TypeId)
    (ho : o.op = .call { callee := .builtin .append, args := #[s, x], argTypes := #[t, t] }) (bytes : Nat) (ht : P.underlying t = some (.slice 9))
    (h2 : (P.info? 9).map (fun i => (i.zero, i.size, i.bytes)) = some (some (.string ⟨#[]⟩), 1, bytes))
    (base : Nat) (A : Option Addr) (n c : Nat) (us : List ByteArray) (hs : a.eval s = .slice A n c) (h : SR w base A n c us) (b b2 cc : Nat) (u : ByteArray) (hxe : a.eval x = .slice (some ⟨b, b2, none⟩) 1 cc) (hx : w.cell? ⟨b, b2, none⟩ = some (.string u)) (hby : bytes ≤ 24) (p : Nat) (hp : p = n + 1) (hN : p ≤ 100000) (hbase : base ≤ w.heap.size)
    (hK : ∀ A' c' w', SR w' base A' p c' (us ++ [u]) → GrowB base A w w' → K (a.put o.dst (.slice A' p c')) w') : o.wp P a w K Q := by
  subst hp
  obtain ⟨A', c', w', hrun, h3, h4⟩ := run_append_sr (P := P) w t o.type bytes ht h2 h b b2 cc hx hby hN hbase
  unfold Oper.wp execOp
  simp only [ho, resolve, invoke, builtin, Sem.run_bind, Sem.run_pure, Result.andThen_ok, List.map_toArray, List.map_cons, List.map_nil, hs, hxe, hrun]
  exact hK _ _ _ h3 h4
theorem wpList_append_sr (hgd : o.guard = none) (s x : Operand) (t : TypeId)
    (ho : o.op = .call { callee := .builtin .append, args := #[s, x], argTypes := #[t, t] }) (bytes : Nat) (ht : P.underlying t = some (.slice 9))
    (h2 : (P.info? 9).map (fun i => (i.zero, i.size, i.bytes)) = some (some (.string ⟨#[]⟩), 1, bytes))
    (base : Nat) (A : Option Addr) (n c : Nat) (us : List ByteArray) (hs : a.eval s = .slice A n c) (h : SR w base A n c us) (b b2 cc : Nat) (u : ByteArray) (hxe : a.eval x = .slice (some ⟨b, b2, none⟩) 1 cc) (hx : w.cell? ⟨b, b2, none⟩ = some (.string u)) (hby : bytes ≤ 24) (p : Nat) (hp : p = n + 1) (hN : p ≤ 100000) (hbase : base ≤ w.heap.size)
    (hK : ∀ A' c' w', SR w' base A' p c' (us ++ [u]) → GrowB base A w w' → wpList P ops Q rest (a.put o.dst (.slice A' p c')) w') : wpList P ops Q (o :: rest) a w :=
  wpList_plain hgd fun _ hk => wp_append_sr s x t ho bytes ht h2 base A n c us hs h b b2 cc u hxe hx hby p hp hN hbase fun A' c' w' h3 h4 => hk _ _ (hK A' c' w' h3 h4)
theorem step_append_sr {K : Act → World → Prop} {E : Prop} (hgd : o.guard = none) (s x : Operand) (t : TypeId)
    (ho : o.op = .call { callee := .builtin .append, args := #[s, x], argTypes := #[t, t] }) (bytes : Nat) (ht : P.underlying t = some (.slice 9))
    (h2 : (P.info? 9).map (fun i => (i.zero, i.size, i.bytes)) = some (some (.string ⟨#[]⟩), 1, bytes))
    (base : Nat) (A : Option Addr) (n c : Nat) (us : List ByteArray) (hs : a.eval s = .slice A n c) (h : SR w base A n c us) (b b2 cc : Nat) (u : ByteArray) (hxe : a.eval x = .slice (some ⟨b, b2, none⟩) 1 cc) (hx : w.cell? ⟨b, b2, none⟩ = some (.string u)) (hby : bytes ≤ 24) (p : Nat) (hp : p = n + 1) (hN : p ≤ 100000) (hbase : base ≤ w.heap.size)
    (hK : ∀ A' c' w', SR w' base A' p c' (us ++ [u]) → GrowB base A w w' → K (a.put o.dst (.slice A' p c')) w') :
    if Region.wanted o (yielded ops a.tmps) = true then Oper.wp P o a w K Q else E := by
  have hw : Region.wanted o (yielded ops a.tmps) = true := by simp [Region.wanted, hgd]
  rw [if_pos hw]
  exact wp_append_sr s x t ho bytes ht h2 base A n c us hs h b b2 cc u hxe hx hby p hp hN hbase hK
end
end Go.Proofs.YtaapcfflnklpjaaGreatDoor

/- Runs. -/
namespace Go.Proofs.YtaapcfflnklpjaaGreatDoor
open Go Go.RowKit Go.Lib

/-- the texts of the groups -/
def runsG : Nat → List Int → List ByteArray
  | 0, _ => []
  | _ + 1, [] => []
  | f + 1, x :: l => strB (groupL x.toNat (x.toNat + consL x l)) :: runsG f (l.drop (consL x l))
theorem runsG_nil (f : Nat) : runsG f [] = [] := by cases f <;> rfl
theorem consL_last : ∀ (x : Int) (l : List Int), (x :: l)[consL x l]? = some (x + (consL x l : Nat))
  | x, [] => by simp [consL]
  | x, y :: l => by
    unfold consL
    split
    · rename_i h
      have ih := consL_last y l
      rw [List.getElem?_cons_succ, ih]
      congr 1
      omega
    · simp
theorem setB_len (n : Int) : ∀ (xs : List Int) (y : Int), setB n y xs = true → xs = [] ∨ y + xs.length ≤ n
  | [], _, _ => Or.inl rfl
  | x :: xs, y, h => by
    right
    unfold setB at h
    split at h
    · cases h
    · split at h
      · cases h
      · rcases setB_len n xs (x + 1) h with h1 | h1
        · subst h1; simp; omega
        · simp only [List.length_cons]; omega
theorem setB_in (n : Int) : ∀ (xs : List Int) (y : Int), setB n y xs = true → ∀ x ∈ xs, y ≤ x ∧ x < n
  | [], _, _ => fun x hx => by cases hx
  | x :: xs, y, h => fun z hz => by
    unfold setB at h
    split at h
    · cases h
    · split at h
      · cases h
      · rcases List.mem_cons.1 hz with rfl | hz
        · omega
        · have := setB_in n xs (x + 1) h z hz
          omega
def slen : Value → Nat
  | .slice _ n _ => n
  | _ => 0
theorem store_s {w w7 : World} {B : Nat} (hB : B ≤ w.heap.size) (E : Below w.heap.size w w7) (S : ByteArray) (t : TypeId) :
    Below w.heap.size w (w7.alloc (.cells #[.string S] t)) ∧ (w7.alloc (.cells #[.string S] t)).cell? ⟨w7.heap.size, 0, none⟩ = some (.string S) ∧ B ≤ (w7.alloc (.cells #[.string S] t)).heap.size :=
  ⟨E.alloc E.size _, (Box.new w7 #[.string S] t).cell, by have := E.size; simp; omega⟩
theorem IL.drop_ {w : World} {b o n k : Nat} {xs : List Int} (h : IL w (some ⟨b, o, none⟩) n xs) (hk : k ≤ n) : IL w (some ⟨b, o + k, none⟩) (n - k) (xs.drop k) := by
  refine ⟨by rw [List.length_drop, h.1], fun hn => ?_⟩
  obtain ⟨b2, o2, e, hc⟩ := h.2 (by omega)
  injection e with e; injection e with e1 e2
  subst e1; subst e2
  refine ⟨b, o + k, rfl, fun j x hx => ?_⟩
  rw [List.getElem?_drop] at hx
  rw [show o + k + j = o + (k + j) by omega]
  exact hc _ x hx
theorem str_info : (Tryz.prog.info? 9).map (fun i => (i.zero, i.size, i.bytes)) = some (some (.string ⟨#[]⟩), 1, 16) := by kernel_rfl
def joinT (us : List ByteArray) : ByteArray := ⟨(Lib.join (us.map (·.data.toList)) [44, 32]).toArray⟩
end Go.Proofs.YtaapcfflnklpjaaGreatDoor

/- The contract of Runs. -/
namespace Go.Proofs.YtaapcfflnklpjaaGreatDoor
open Go Go.RowKit Go.Lib

theorem tail_le : ∀ (us : List ByteArray), (∀ u ∈ us, u.size ≤ 20) → (Lib.joinTail [44, 32] (us.map (·.data.toList))).length ≤ 22 * us.length
  | [], _ => by simp [Lib.joinTail]
  | u :: us, h => by
    have h1 := tail_le us fun v hv => h v (List.mem_cons_of_mem _ hv)
    have h2 := h u List.mem_cons_self
    have e : u.data.toList.length = u.size := by rw [Array.length_toList]; rfl
    unfold Lib.joinTail at h1 ⊢
    simp only [List.map_cons, List.flatten_cons, List.length_append, List.length_cons, List.length_nil]
    omega
theorem join_le (us : List ByteArray) (h : ∀ u ∈ us, u.size ≤ 20) : (Lib.join (us.map (·.data.toList)) [44, 32]).length ≤ 22 * us.length := by
  rcases us with _ | ⟨u, us⟩
  · exact Nat.zero_le _
  · have h1 := tail_le us fun v hv => h v (List.mem_cons_of_mem _ hv)
    have h2 := h u List.mem_cons_self
    have e : u.data.toList.length = u.size := by rw [Array.length_toList]; rfl
    rw [List.map_cons, Lib.join_cons, List.length_append, List.length_cons]
    omega
theorem groupL_le (a b : Nat) (ha : a ≤ 9999) (hb : b ≤ 9999) : (groupL a b).length ≤ 20 := by
  have z1 := dec_len4 4 a (by omega)
  have z2 := dec_len4 4 b (by omega)
  unfold groupL
  split
  · omega
  · simp only [List.length_append, List.length_cons]; omega
theorem runsG_size : ∀ (f : Nat) (xs : List Int), (∀ x ∈ xs, 1 ≤ x ∧ x < 1000) → ∀ u ∈ runsG f xs, u.size ≤ 20
  | 0, _, _ => fun u hu => by cases hu
  | f + 1, [], _ => fun u hu => by cases hu
  | f + 1, x :: l, h => fun u hu => by
    have hx := h x List.mem_cons_self
    rcases List.mem_cons.1 hu with rfl | hu
    · rw [strB_size]
      have hl := consL_last x l
      have hb := h _ (List.mem_of_getElem? hl)
      exact groupL_le _ _ (by omega) (by omega)
    · exact runsG_size f _ (fun y hy => h y (List.mem_cons_of_mem _ (List.mem_of_mem_drop hy))) u hu
theorem runsG_len : ∀ (f : Nat) (xs : List Int), (runsG f xs).length ≤ f
  | 0, _ => Nat.le_refl _
  | f + 1, [] => Nat.zero_le _
  | f + 1, x :: l => by
    have := runsG_len f (l.drop (consL x l))
    show (_ :: runsG f _).length ≤ _
    simp only [List.length_cons]; omega
/-- the text of the runs -/
def runsT (xs : List Int) : ByteArray := joinT (runsG xs.length xs)
theorem join_any (W : World) (B : Nat) (As : Option Addr) (q cs : Nat) (us : List ByteArray) (h : SR W B As q cs us) (hq : us.length ≤ 999) (hu : ∀ u ∈ us, u.size ≤ 20) (S : ByteArray) (hS : joinT us = S) :
    Calls Tryz.prog 39 #[.slice As q cs, .string ⟨#[44, 32]⟩] W fun e w' => e = .returned (.string S) ∧ Below W.heap.size W w' := by
  have hl := h.len
  by_cases hn : 0 < q
  · obtain ⟨g, rfl, hg, hc⟩ := h.at_ hn
    have hle := h.le
    have hj := join_le us hu
    subst hl
    refine (Tryz.strings_Join g 0 cs us ⟨#[44, 32]⟩ W hc hg (by omega) hle.1 ?_).mono ?_
    · show (Lib.join (us.map (·.data.toList)) [44, 32]).length ≤ _
      omega
    · rintro e w' ⟨rfl, hb⟩
      exact ⟨by rw [← hS]; rfl, hb⟩
  · obtain rfl : q = 0 := by omega
    obtain rfl : us = [] := List.eq_nil_of_length_eq_zero hl
    refine (Tryz.strings_Join_none As cs ⟨#[44, 32]⟩ W).mono ?_
    rintro e w' ⟨rfl, rfl⟩
    exact ⟨by rw [← hS]; rfl, Below.refl _ _⟩
end Go.Proofs.YtaapcfflnklpjaaGreatDoor
