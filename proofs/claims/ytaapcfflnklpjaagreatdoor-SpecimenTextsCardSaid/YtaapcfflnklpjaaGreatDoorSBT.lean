/- The body of SpecimenTexts. -/
import Derived.Test.YtaapcfflnklpjaaGreatDoorSAw
import Derived.Deep.RegionHeld3
namespace Go.Proofs.YtaapcfflnklpjaaGreatDoor
open Go Go.RowKit Go.Lib
set_option maxHeartbeats 8000000 in
theorem txt9_y (x : Spc) (w : World) (hT : Lw w) (hv : vS x = true) :
    Calls Tryz.prog 3 #[.agg #[.int .i64 x.i, .int .i64 x.o, .int .i64 x.r, .int .i64 x.a, .int .i64 x.b, .int .i64 x.h, .int .i64 x.m]] w fun e w' => e = .returned (.bool true) ∧ Below w.heap.size w w' := by
  have HT := hide hT
  have HV := hide hv
  obtain ⟨S, hS⟩ : ∃ S, spT x = S := ⟨_, rfl⟩
  have HS := hide hS
  have HZ := hide (show S.size ≤ 5000 by rw [← hS]; exact Nat.le_trans (spT_size x) (by decide))
  obtain ⟨X, er, hp⟩ := PR.ex S.data.toList
  obtain ⟨e1, rfl⟩ := PR.of_text hv (y := X) (e := er) (by rw [hS]; exact hp)
  rw [e1] at hp
  clear e1
  have HP := hide hp
  clear hT hv hS hp
  go_enter Tryz.func3, Tryz.ntmps3
  go_wp2_with fail
  generalize hW : w.alloc _ = W
  obtain ⟨B, hz, hk⟩ := box7 hW
  have KS := hide hk
  have HZW := hide (show w.heap.size < W.heap.size by omega)
  clear hW hk hz
  refine (awake_yes _ (HT.out.below B)).mono ?_
  rintro e w1 ⟨rfl, E1⟩
  obtain ⟨k0, k1, k2, k3, k4, k5, k6⟩ := KS.out _ E1
  go_wp2_with fail
  clear k0 k1 k2 k3 k4 k5 k6
  refine (text9_any x _ (HT.out.below (nxt B E1)) S HS.out).mono ?_
  rintro e w2 ⟨rfl, hb2⟩
  have E2 := nxt E1 hb2
  clear hb2 E1
  obtain ⟨k0, k1, k2, k3, k4, k5, k6⟩ := KS.out _ E2
  go_wp2_with fail
  go_region_held3 (fun w' => w'.cell? ⟨w.heap.size, 0, none⟩ = some (.int .i64 x.i) ∧ w'.cell? ⟨w.heap.size, 1, none⟩ = some (.int .i64 x.o) ∧ w'.cell? ⟨w.heap.size, 2, none⟩ = some (.int .i64 x.r) ∧ w'.cell? ⟨w.heap.size, 3, none⟩ = some (.int .i64 x.a) ∧ w'.cell? ⟨w.heap.size, 4, none⟩ = some (.int .i64 x.b) ∧ w'.cell? ⟨w.heap.size, 5, none⟩ = some (.int .i64 x.h) ∧ w'.cell? ⟨w.heap.size, 6, none⟩ = some (.int .i64 x.m))
    (exact KS.out _ (by ((repeat (first | (with_reducible assumption) | (with_reducible exact Below.refl _ _) | (with_reducible refine Below.drewS ?_) | (with_reducible refine Below.allocS ?_ _) | (with_reducible refine Below.setS ?_ (by first | omega | (simp; omega)) _))); (first | done | fail))))
    (first
      | (go_at_call 14; (with_reducible refine (valid9_any x _ true HV.out).mono ?_); rintro e wa ⟨rfl, hbwa⟩; have Ewa : Below W.heap.size W wa := Below.next (by ((repeat (first | (with_reducible assumption) | (with_reducible exact Below.refl _ _) | (with_reducible refine Below.drewS ?_) | (with_reducible refine Below.allocS ?_ _) | (with_reducible refine Below.setS ?_ (by first | omega | (simp; omega)) _))); (first | done | fail))) hbwa)
      | (go_at_call 15; (with_reducible refine (rvalid9_any x _ true HV.out).mono ?_); rintro e wb ⟨rfl, hbwb⟩; have Ewb : Below W.heap.size W wb := Below.next (by ((repeat (first | (with_reducible assumption) | (with_reducible exact Below.refl _ _) | (with_reducible refine Below.drewS ?_) | (with_reducible refine Below.allocS ?_ _) | (with_reducible refine Below.setS ?_ (by first | omega | (simp; omega)) _))); (first | done | fail))) hbwb)
      | (go_at_call 16; (with_reducible refine (rtext9_any x _ (HT.out.below (nxt B (by ((repeat (first | (with_reducible assumption) | (with_reducible exact Below.refl _ _) | (with_reducible refine Below.drewS ?_) | (with_reducible refine Below.allocS ?_ _) | (with_reducible refine Below.setS ?_ (by first | omega | (simp; omega)) _))); (first | done | fail))))) S HS.out).mono ?_); rintro e wc ⟨rfl, hbwc⟩; have Ewc : Below W.heap.size W wc := Below.next (by ((repeat (first | (with_reducible assumption) | (with_reducible exact Below.refl _ _) | (with_reducible refine Below.drewS ?_) | (with_reducible refine Below.allocS ?_ _) | (with_reducible refine Below.setS ?_ (by first | omega | (simp; omega)) _))); (first | done | fail))) hbwc))
  all_goals
    clear k0 k1 k2 k3 k4 k5 k6
    have E4 : Below W.heap.size W wc := Ewc
    clear Ewa Ewb Ewc hbwa hbwb hbwc E2
    obtain ⟨k0, k1, k2, k3, k4, k5, k6⟩ := KS.out _ E4
    go_wp2_with fail
    clear k0 k1 k2 k3 k4 k5 k6
    refine (parse9_any S _ (HT.out.below (nxt B E4)) HZ.out x 0 HP.out).mono ?_
    rintro e w5 ⟨rfl, hb5⟩
    have E5 := nxt E4 hb5
    clear hb5 E4
    have lx : w.heap.size < w5.heap.size := Nat.lt_of_lt_of_le HZW.out E5.size
    obtain ⟨k0, k1, k2, k3, k4, k5, k6⟩ := KS.out _ E5
    go_wp2_with fail
    clear k0 k1 k2 k3 k4 k5 k6
    generalize hW8 : w5.alloc _ = W8
    obtain ⟨B8, hz8, hk8⟩ := box7 hW8
    have KY := hide hk8
    clear hW8 hk8
    have E8 := nxt E5 B8
    refine (rvalid9_any x _ true HV.out).mono ?_
    rintro e w9 ⟨rfl, hb9⟩
    obtain ⟨k0, k1, k2, k3, k4, k5, k6⟩ := KS.out _ (nxt E8 hb9)
    obtain ⟨m0, m1, m2, m3, m4, m5, m6⟩ := KY.out _ hb9
    have e0 := fun (w : World) => eqS_run x x w true (decide_eq_true rfl)
    go_wp2_with fail
    go_ret
    exact ⟨rfl, nxt B (nxt E8 hb9)⟩
set_option maxHeartbeats 8000000 in
theorem txt9_n (x : Spc) (w : World) (hT : Lw w) (hv : vS x = false) :
    Calls Tryz.prog 3 #[.agg #[.int .i64 x.i, .int .i64 x.o, .int .i64 x.r, .int .i64 x.a, .int .i64 x.b, .int .i64 x.h, .int .i64 x.m]] w fun e w' => e = .returned (.bool true) ∧ Below w.heap.size w w' := by
  have HT := hide hT
  have HV := hide hv
  obtain ⟨S, hS⟩ : ∃ S, spT x = S := ⟨_, rfl⟩
  have HS := hide hS
  have HZ := hide (show S.size ≤ 5000 by rw [← hS]; exact Nat.le_trans (spT_size x) (by decide))
  obtain ⟨X, er, hp⟩ := PR.ex S.data.toList
  obtain rfl : er = 3 := (PR.nil (by rw [← hS, spT_false hv] at hp; exact hp)).2
  have HP := hide hp
  have hq : (S.toList == []) = true := by rw [← hS, spT_false hv, Lib.toList_data]; rfl
  clear hT hv hS hp
  go_enter Tryz.func3, Tryz.ntmps3
  go_wp2_with fail
  generalize hW : w.alloc _ = W
  obtain ⟨B, hz, hk⟩ := box7 hW
  have KS := hide hk
  have HZW := hide (show w.heap.size < W.heap.size by omega)
  clear hW hk hz
  refine (awake_yes _ (HT.out.below B)).mono ?_
  rintro e w1 ⟨rfl, E1⟩
  obtain ⟨k0, k1, k2, k3, k4, k5, k6⟩ := KS.out _ E1
  go_wp2_with fail
  clear k0 k1 k2 k3 k4 k5 k6
  refine (text9_any x _ (HT.out.below (nxt B E1)) S HS.out).mono ?_
  rintro e w2 ⟨rfl, hb2⟩
  have E2 := nxt E1 hb2
  clear hb2 E1
  obtain ⟨k0, k1, k2, k3, k4, k5, k6⟩ := KS.out _ E2
  go_wp2_with fail
  go_region_held3 (fun w' => w'.cell? ⟨w.heap.size, 0, none⟩ = some (.int .i64 x.i) ∧ w'.cell? ⟨w.heap.size, 1, none⟩ = some (.int .i64 x.o) ∧ w'.cell? ⟨w.heap.size, 2, none⟩ = some (.int .i64 x.r) ∧ w'.cell? ⟨w.heap.size, 3, none⟩ = some (.int .i64 x.a) ∧ w'.cell? ⟨w.heap.size, 4, none⟩ = some (.int .i64 x.b) ∧ w'.cell? ⟨w.heap.size, 5, none⟩ = some (.int .i64 x.h) ∧ w'.cell? ⟨w.heap.size, 6, none⟩ = some (.int .i64 x.m))
    (exact KS.out _ (by ((repeat (first | (with_reducible assumption) | (with_reducible exact Below.refl _ _) | (with_reducible refine Below.drewS ?_) | (with_reducible refine Below.allocS ?_ _) | (with_reducible refine Below.setS ?_ (by first | omega | (simp; omega)) _))); (first | done | fail))))
    (first
      | (go_at_call 14; (with_reducible refine (valid9_any x _ false HV.out).mono ?_); rintro e wa ⟨rfl, hbwa⟩; have Ewa : Below W.heap.size W wa := Below.next (by ((repeat (first | (with_reducible assumption) | (with_reducible exact Below.refl _ _) | (with_reducible refine Below.drewS ?_) | (with_reducible refine Below.allocS ?_ _) | (with_reducible refine Below.setS ?_ (by first | omega | (simp; omega)) _))); (first | done | fail))) hbwa)
      | (go_at_call 15; (with_reducible refine (rvalid9_any x _ false HV.out).mono ?_); rintro e wb ⟨rfl, hbwb⟩; have Ewb : Below W.heap.size W wb := Below.next (by ((repeat (first | (with_reducible assumption) | (with_reducible exact Below.refl _ _) | (with_reducible refine Below.drewS ?_) | (with_reducible refine Below.allocS ?_ _) | (with_reducible refine Below.setS ?_ (by first | omega | (simp; omega)) _))); (first | done | fail))) hbwb)
      | (go_at_call 16; (with_reducible refine (rtext9_any x _ (HT.out.below (nxt B (by ((repeat (first | (with_reducible assumption) | (with_reducible exact Below.refl _ _) | (with_reducible refine Below.drewS ?_) | (with_reducible refine Below.allocS ?_ _) | (with_reducible refine Below.setS ?_ (by first | omega | (simp; omega)) _))); (first | done | fail))))) S HS.out).mono ?_); rintro e wc ⟨rfl, hbwc⟩; have Ewc : Below W.heap.size W wc := Below.next (by ((repeat (first | (with_reducible assumption) | (with_reducible exact Below.refl _ _) | (with_reducible refine Below.drewS ?_) | (with_reducible refine Below.allocS ?_ _) | (with_reducible refine Below.setS ?_ (by first | omega | (simp; omega)) _))); (first | done | fail))) hbwc))
  all_goals
    clear k0 k1 k2 k3 k4 k5 k6
    have E4 : Below W.heap.size W wc := Ewc
    clear Ewa Ewb Ewc hbwa hbwb hbwc E2
    obtain ⟨k0, k1, k2, k3, k4, k5, k6⟩ := KS.out _ E4
    go_wp2_with fail
    clear k0 k1 k2 k3 k4 k5 k6
    refine (parse9_any S _ (HT.out.below (nxt B E4)) HZ.out X 3 HP.out).mono ?_
    rintro e w5 ⟨rfl, hb5⟩
    have E5 := nxt E4 hb5
    clear hb5 E4
    have lx : w.heap.size < w5.heap.size := Nat.lt_of_lt_of_le HZW.out E5.size
    obtain ⟨k0, k1, k2, k3, k4, k5, k6⟩ := KS.out _ E5
    go_wp2_with fail
    clear k0 k1 k2 k3 k4 k5 k6
    generalize hW8 : w5.alloc _ = W8
    obtain ⟨B8, hz8, hk8⟩ := box7 hW8
    have KY := hide hk8
    clear hW8 hk8
    have E8 := nxt E5 B8
    refine (rvalid9_any x _ false HV.out).mono ?_
    rintro e w9 ⟨rfl, hb9⟩
    obtain ⟨k0, k1, k2, k3, k4, k5, k6⟩ := KS.out _ (nxt E8 hb9)
    obtain ⟨m0, m1, m2, m3, m4, m5, m6⟩ := KY.out _ hb9
    skip
    go_wp2_with fail
    go_ret
    exact ⟨rfl, nxt B (nxt E8 hb9)⟩

theorem texts_all (x : Spc) (w : World) (hT : Lw w) :
    Calls Tryz.prog 3 #[.agg #[.int .i64 x.i, .int .i64 x.o, .int .i64 x.r, .int .i64 x.a, .int .i64 x.b, .int .i64 x.h, .int .i64 x.m]] w fun e w' => e = .returned (.bool true) ∧ Below w.heap.size w w' := by
  cases h : vS x
  · exact txt9_n x w hT h
  · exact txt9_y x w hT h
end Go.Proofs.YtaapcfflnklpjaaGreatDoor
