/- The body of PosetValid. -/
import Derived.Test.YtgmdfaamheblmaaPARow
import Derived.Test.YtgmdfaamheblmaaPRef
namespace Go.Proofs.Ytgmdfaamheblmaa
open Go Go.RowKit PM

set_option maxHeartbeats 16000000 in
set_option maxRecDepth 100000 in
theorem vld_no (n x y : Int) (A : Option Addr) (m c : Nat) (l : List (Int × Int)) (w : World) (hx : YL w A m l) (hm : m ≤ maxLen) (hf : ¬ m ≤ 150) :
    Calls Try.prog 3 #[.int .i64 n, .slice A m c, .agg #[.int .i64 x, .int .i64 y]] w fun e w' => e = .returned (.bool true) ∧ Below w.heap.size w w' := by
  have HX := hide hx
  have HM := hide hm
  have HF := hide (show decide (m ≤ 150) = false from decide_eq_false hf)
  clear hf
  clear hx hm
  go_enter Try.func3, Try.ntmps3
  go_wp2_with fail
  generalize hW : w.alloc _ = W
  obtain ⟨B, bx, -⟩ := boxC hW
  clear hW
  refine (awake_yes _).mono ?_
  rintro e w1 ⟨rfl, hb⟩
  have B := B.trans (hb.mono B.size)
  have bx := bx.below' hb
  clear hb
  go_wp2_with fail
  refine (few_any A m c _ HM.out false HF.out).mono ?_
  rintro e w2 ⟨rfl, rfl⟩
  go_wp2_with fail
  refine (awake_yes _).mono ?_
  rintro e w2 ⟨rfl, hb⟩
  have B := B.trans (hb.mono B.size)
  go_wp2_with fail
  go_ret
  exact ⟨rfl, B⟩
set_option maxHeartbeats 16000000 in
set_option maxRecDepth 100000 in
theorem vld_yes (n x y : Int) (A : Option Addr) (m c : Nat) (l : List (Int × Int)) (w : World) (hx : YL w A m l) (hm : m ≤ maxLen) (hf : m ≤ 150) :
    Calls Try.prog 3 #[.int .i64 n, .slice A m c, .agg #[.int .i64 x, .int .i64 y]] w fun e w' => e = .returned (.bool true) ∧ Below w.heap.size w w' := by
  have HX := hide hx
  have HM := hide hm
  have HF := hide (show decide (m ≤ 150) = true from decide_eq_true hf)
  have HM5 := hide (show m ≤ 100000 from by omega)
  obtain ⟨v0, h0⟩ : ∃ v, vB n l = v := ⟨_, rfl⟩
  obtain ⟨v1, h1⟩ : ∃ v, acB n l = v := ⟨_, rfl⟩
  obtain ⟨v2, h2⟩ : ∃ v, reB n l x y = v := ⟨_, rfl⟩
  have HV := hide h0
  have HA := hide h1
  have HRE := hide h2
  clear h0 h1 h2
  clear hx hm
  go_enter Try.func3, Try.ntmps3
  go_wp2_with fail
  generalize hW : w.alloc _ = W
  obtain ⟨B, bx, -⟩ := boxC hW
  clear hW
  refine (awake_yes _).mono ?_
  rintro e w1 ⟨rfl, hb⟩
  have B := B.trans (hb.mono B.size)
  have bx := bx.below' hb
  clear hb
  go_wp2_with fail
  refine (few_any A m c _ HM.out true HF.out).mono ?_
  rintro e w2 ⟨rfl, rfl⟩
  have HBF := hide B.size
  have F : Below w1.heap.size w1 (w1.alloc (.cells #[] 42)) := (Below.refl _ _).alloc (Nat.le_refl _) _
  have o0 : AR (w1.alloc (.cells #[] 42)) w1.heap.size (some ⟨w1.heap.size, 0, none⟩) 0 0 [] := World.ownsRow_lit w1 #[] 0 (Nat.le_refl _) (by simp [maxLen]) rfl
  go_wp2_with (at_builtin; refine wpList_append_ar rfl _ _ 22 rfl Try.underlying22 arc_info w1.heap.size _ 0 0 [] rfl o0 A m c l rfl (HX.out.keep (B.trans (F.mono B.size))) m (by omega) (by omega) (by simp) ?_; intro A9 c9 W9 hr9 hG9)
  have B9 := (B.trans (F.mono B.size)).trans (hG9.1.mono B.size)
  have bx := bx.below' (F.trans hG9.1)
  have y9 := hr9.yl
  rw [List.nil_append] at y9
  have lx := bx.lt
  have KF : Hid (∀ w', Below W9.heap.size W9 w' → w'.cell? ⟨w.heap.size, 0, none⟩ = some (.int .i64 x) ∧ w'.cell? ⟨w.heap.size, 1, none⟩ = some (.int .i64 y)) := fun w' h => ⟨(bx.below h lx).at_ 0, (bx.below h lx).at_ 1⟩
  have KY : Hid (∀ w', Below W9.heap.size W9 w' → YL w' A m l ∧ YL w' A9 m l) := fun w' h => ⟨HX.out.keep (B9.trans (h.mono B9.size)), y9.keep h⟩
  clear y9 hr9 hG9 o0 F B bx
  go_region_held3 (fun w' => w'.cell? ⟨w.heap.size, 0, none⟩ = some (.int .i64 x) ∧ w'.cell? ⟨w.heap.size, 1, none⟩ = some (.int .i64 y))
    (exact KF.out _ (by ((repeat (first | (with_reducible assumption) | (with_reducible exact Below.refl _ _) | (with_reducible refine Below.drewS ?_) | (with_reducible refine Below.allocS ?_ _) | (with_reducible refine Below.setS ?_ (by first | omega | (simp; omega)) _))); (first | done | fail))))
    (first
      | (go_at_call 13; (with_reducible refine (valid_any n A9 m c9 l _ (KY.out _ (by ((repeat (first | (with_reducible assumption) | (with_reducible exact Below.refl _ _) | (with_reducible refine Below.drewS ?_) | (with_reducible refine Below.allocS ?_ _) | (with_reducible refine Below.setS ?_ (by first | omega | (simp; omega)) _))); (first | done | fail)))).2 HM.out v0 HV.out).mono ?_); rintro e w11 ⟨rfl, hb11⟩; have E11 : Below W9.heap.size W9 w11 := Below.next (by ((repeat (first | (with_reducible assumption) | (with_reducible exact Below.refl _ _) | (with_reducible refine Below.drewS ?_) | (with_reducible refine Below.allocS ?_ _) | (with_reducible refine Below.setS ?_ (by first | omega | (simp; omega)) _))); (first | done | fail))) hb11)
      | (go_at_call 14; (with_reducible refine (rvalid_any n A m c l _ (KY.out _ (by ((repeat (first | (with_reducible assumption) | (with_reducible exact Below.refl _ _) | (with_reducible refine Below.drewS ?_) | (with_reducible refine Below.allocS ?_ _) | (with_reducible refine Below.setS ?_ (by first | omega | (simp; omega)) _))); (first | done | fail)))).1 v0 HV.out).mono ?_); rintro e w12 ⟨rfl, hb12⟩; have E12 : Below W9.heap.size W9 w12 := Below.next (by ((repeat (first | (with_reducible assumption) | (with_reducible exact Below.refl _ _) | (with_reducible refine Below.drewS ?_) | (with_reducible refine Below.allocS ?_ _) | (with_reducible refine Below.setS ?_ (by first | omega | (simp; omega)) _))); (first | done | fail))) hb12)
      | (go_at_call 15; (with_reducible refine (acyclic_any n A9 m c9 l _ (KY.out _ (by ((repeat (first | (with_reducible assumption) | (with_reducible exact Below.refl _ _) | (with_reducible refine Below.drewS ?_) | (with_reducible refine Below.allocS ?_ _) | (with_reducible refine Below.setS ?_ (by first | omega | (simp; omega)) _))); (first | done | fail)))).2 HM.out v1 HA.out).mono ?_); rintro e w13 ⟨rfl, hb13⟩; have E13 : Below W9.heap.size W9 w13 := Below.next (by ((repeat (first | (with_reducible assumption) | (with_reducible exact Below.refl _ _) | (with_reducible refine Below.drewS ?_) | (with_reducible refine Below.allocS ?_ _) | (with_reducible refine Below.setS ?_ (by first | omega | (simp; omega)) _))); (first | done | fail))) hb13)
      | (go_at_call 16; (with_reducible refine (racyclic_any n A m c l _ (KY.out _ (by ((repeat (first | (with_reducible assumption) | (with_reducible exact Below.refl _ _) | (with_reducible refine Below.drewS ?_) | (with_reducible refine Below.allocS ?_ _) | (with_reducible refine Below.setS ?_ (by first | omega | (simp; omega)) _))); (first | done | fail)))).1 v1 HA.out).mono ?_); rintro e w14 ⟨rfl, hb14⟩; have E14 : Below W9.heap.size W9 w14 := Below.next (by ((repeat (first | (with_reducible assumption) | (with_reducible exact Below.refl _ _) | (with_reducible refine Below.drewS ?_) | (with_reducible refine Below.allocS ?_ _) | (with_reducible refine Below.setS ?_ (by first | omega | (simp; omega)) _))); (first | done | fail))) hb14)
      | (go_at_call 17; (with_reducible refine (reaches_any n A9 m c9 l x y _ (KY.out _ (by ((repeat (first | (with_reducible assumption) | (with_reducible exact Below.refl _ _) | (with_reducible refine Below.drewS ?_) | (with_reducible refine Below.allocS ?_ _) | (with_reducible refine Below.setS ?_ (by first | omega | (simp; omega)) _))); (first | done | fail)))).2 HM.out v2 HRE.out).mono ?_); rintro e w15 ⟨rfl, hb15⟩; have E15 : Below W9.heap.size W9 w15 := Below.next (by ((repeat (first | (with_reducible assumption) | (with_reducible exact Below.refl _ _) | (with_reducible refine Below.drewS ?_) | (with_reducible refine Below.allocS ?_ _) | (with_reducible refine Below.setS ?_ (by first | omega | (simp; omega)) _))); (first | done | fail))) hb15)
      | (go_at_call 18; (with_reducible refine (rreaches_any n A m c l x y _ (KY.out _ (by ((repeat (first | (with_reducible assumption) | (with_reducible exact Below.refl _ _) | (with_reducible refine Below.drewS ?_) | (with_reducible refine Below.allocS ?_ _) | (with_reducible refine Below.setS ?_ (by first | omega | (simp; omega)) _))); (first | done | fail)))).1 v2 HRE.out).mono ?_); rintro e w16 ⟨rfl, hb16⟩; have E16 : Below W9.heap.size W9 w16 := Below.next (by ((repeat (first | (with_reducible assumption) | (with_reducible exact Below.refl _ _) | (with_reducible refine Below.drewS ?_) | (with_reducible refine Below.allocS ?_ _) | (with_reducible refine Below.setS ?_ (by first | omega | (simp; omega)) _))); (first | done | fail))) hb16)
      | (go_at_call 19; (with_reducible refine (arcs_any A9 m c9 l A m c l _ (KY.out _ (by ((repeat (first | (with_reducible assumption) | (with_reducible exact Below.refl _ _) | (with_reducible refine Below.drewS ?_) | (with_reducible refine Below.allocS ?_ _) | (with_reducible refine Below.setS ?_ (by first | omega | (simp; omega)) _))); (first | done | fail)))).2 (KY.out _ (by ((repeat (first | (with_reducible assumption) | (with_reducible exact Below.refl _ _) | (with_reducible refine Below.drewS ?_) | (with_reducible refine Below.allocS ?_ _) | (with_reducible refine Below.setS ?_ (by first | omega | (simp; omega)) _))); (first | done | fail)))).1 HM5.out true (decide_eq_true rfl)).mono ?_); rintro e w17 ⟨rfl, hb17⟩; have E17 : Below W9.heap.size W9 w17 := Below.next (by ((repeat (first | (with_reducible assumption) | (with_reducible exact Below.refl _ _) | (with_reducible refine Below.drewS ?_) | (with_reducible refine Below.allocS ?_ _) | (with_reducible refine Below.setS ?_ (by first | omega | (simp; omega)) _))); (first | done | fail))) hb17))
  all_goals
    have B9 := B9.trans (Below.mono E17 B9.size)
    go_wp2_with fail
    go_ret
    exact ⟨rfl, B9⟩
theorem vld_all (n x y : Int) (A : Option Addr) (m c : Nat) (l : List (Int × Int)) (w : World) (hx : YL w A m l) (hm : m ≤ maxLen) :
    Calls Try.prog 3 #[.int .i64 n, .slice A m c, .agg #[.int .i64 x, .int .i64 y]] w fun e w' => e = .returned (.bool true) ∧ Below w.heap.size w w' := by
  by_cases hf : m ≤ 150
  · exact vld_yes n x y A m c l w hx hm hf
  · exact vld_no n x y A m c l w hx hm hf
end Go.Proofs.Ytgmdfaamheblmaa
