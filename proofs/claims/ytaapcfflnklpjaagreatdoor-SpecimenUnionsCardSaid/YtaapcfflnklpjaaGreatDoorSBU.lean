/- The body of SpecimenUnions. -/
import Derived.Test.YtaapcfflnklpjaaGreatDoorSAw
import Derived.Test.YtaapcfflnklpjaaGreatDoorSRu
import Derived.Test.YtaapcfflnklpjaaGreatDoorSBG
namespace Go.Proofs.YtaapcfflnklpjaaGreatDoor
open Go Go.RowKit Go.Lib
set_option maxHeartbeats 2000000 in
theorem uni_b1 (A : Option Addr) (n c : Nat) (A' : Option Addr) (m d : Nat) (w : World) (hT : Lw w) (d0 : decide ((100 : Int) < (n : Int)) = true) :
    Calls Tryz.prog 8 #[.slice A n c, .slice A' m d] w fun e w' => e = .returned (.bool true) ∧ Below w.heap.size w w' := by
  have HT := hide hT
  clear hT
  go_enter Tryz.func8, Tryz.ntmps8
  go_wp2_with fail
  refine (awake_yes _ HT.out).mono ?_
  rintro e w1 ⟨rfl, hb1⟩
  go_wp2_with fail
  refine (awake_yes _ (HT.out.below hb1)).mono ?_
  rintro e w2 ⟨rfl, hb2⟩
  go_wp2_with fail
  go_ret
  exact ⟨rfl, nxt hb1 hb2⟩
set_option maxHeartbeats 2000000 in
theorem uni_b2 (A : Option Addr) (n c : Nat) (A' : Option Addr) (m d : Nat) (w : World) (hT : Lw w) (d0 : decide ((100 : Int) < (n : Int)) = false) (d1 : decide ((100 : Int) < (m : Int)) = true) :
    Calls Tryz.prog 8 #[.slice A n c, .slice A' m d] w fun e w' => e = .returned (.bool true) ∧ Below w.heap.size w w' := by
  have HT := hide hT
  clear hT
  go_enter Tryz.func8, Tryz.ntmps8
  go_wp2_with fail
  refine (awake_yes _ HT.out).mono ?_
  rintro e w1 ⟨rfl, hb1⟩
  go_wp2_with fail
  refine (awake_yes _ (HT.out.below hb1)).mono ?_
  rintro e w2 ⟨rfl, hb2⟩
  go_wp2_with fail
  go_ret
  exact ⟨rfl, nxt hb1 hb2⟩

set_option maxHeartbeats 8000000 in
theorem uni_small (A : Option Addr) (n c : Nat) (xa : List Spc) (A' : Option Addr) (m d : Nat) (xb : List Spc) (w : World) (hT : Lw w) (hx : SL w A n xa) (hy : SL w A' m xb) (d0 : decide ((100 : Int) < (n : Int)) = false) (d1 : decide ((100 : Int) < (m : Int)) = false) :
    Calls Tryz.prog 8 #[.slice A n c, .slice A' m d] w fun e w' => e = .returned (.bool true) ∧ Below w.heap.size w w' := by
  have HT := hide hT
  have HX := hide hx
  have HY := hide hy
  clear hT hx hy
  go_enter Tryz.func8, Tryz.ntmps8
  go_wp2_with fail
  refine (awake_yes _ HT.out).mono ?_
  rintro e w1 ⟨rfl, hb1⟩
  go_wp2_with fail
  refine (union_any A n c xa A' m d xb _ (HX.out.keep hb1) (HY.out.keep hb1)).mono ?_
  rintro e w2 ⟨A3, n3, c3, x, rfl, hs3, hu3, hb2⟩
  obtain ⟨e1, he1⟩ : ∃ e, uE xa xb = e := ⟨_, rfl⟩
  rw [he1] at hu3 ⊢
  have HE1 := hide he1
  have HS3 := hide hs3
  have HU3 := hide hu3
  have HB2 := hide (nxt hb1 hb2)
  clear hb1 hb2 hs3 hu3 he1
  go_wp2_with fail
  refine (runion_any A n c xa A' m d xb _ (HX.out.keep HB2.out) (HY.out.keep HB2.out)).mono ?_
  rintro e w3 ⟨A4, n4, c4, y, rfl, hs4, hu4, hb3⟩
  rw [HE1.out] at hu4 ⊢
  have HS4 := hide hs4
  have HU4 := hide hu4
  have HK3 := hide (HS3.out.keep hb3)
  have HB3 := hide (nxt HB2.out hb3)
  clear hb3 hs4 hu4
  go_wp2_with fail
  refine (union_any A' m d xb A n c xa _ (HY.out.keep HB3.out) (HX.out.keep HB3.out)).mono ?_
  rintro e w4 ⟨A5, n5, c5, u, rfl, hs5, hu5, hb4⟩
  obtain ⟨e2, he2⟩ : ∃ e, uE xb xa = e := ⟨_, rfl⟩
  rw [he2] at hu5 ⊢
  have HS5 := hide hs5
  have HU5 := hide hu5
  have HL3 := hide (HK3.out.keep hb4)
  have HL4 := hide (HS4.out.keep hb4)
  have HB4 := hide (nxt HB3.out hb4)
  have HN := hide (u9_len HL3.out HU3.out)
  clear hb4 hs5 hu5 he2
  go_wp2_with fail
  refine (sames_any A3 n3 c3 x A4 n4 c4 y _ HL3.out HL4.out (Nat.le_trans HN.out (by decide)) true (decide_eq_true (HU3.out.uniq HU4.out).1)).mono ?_
  rintro e w5 ⟨rfl, hb5⟩
  by_cases h0 : e1 = 0
  · have HW := hide (HU3.out.swap HU5.out h0)
    obtain rfl : e2 = 0 := HW.out.1
    subst h0
    go_wp2_with fail
    refine (sames_any A3 n3 c3 x A5 n5 c5 u _ (HL3.out.keep hb5) (HS5.out.keep hb5) (Nat.le_trans HN.out (by decide)) true (decide_eq_true HW.out.2.symm)).mono ?_
    rintro e w6 ⟨rfl, hb6⟩
    go_wp2_with fail
    go_ret
    exact ⟨rfl, nxt HB4.out (nxt hb5 hb6)⟩
  · have q1 : (e1 != 0) = true := by simp [h0]
    clear h0
    go_wp2_with fail
    go_ret
    exact ⟨rfl, nxt HB4.out hb5⟩
theorem unions_all (A : Option Addr) (n c : Nat) (xa : List Spc) (A' : Option Addr) (m d : Nat) (xb : List Spc) (w : World) (hT : Lw w) (hx : SL w A n xa) (hy : SL w A' m xb) :
    Calls Tryz.prog 8 #[.slice A n c, .slice A' m d] w fun e w' => e = .returned (.bool true) ∧ Below w.heap.size w w' := by
  by_cases h0 : (100 : Int) < n
  · exact uni_b1 A n c A' m d w hT (decide_eq_true h0)
  · by_cases h1 : (100 : Int) < m
    · exact uni_b2 A n c A' m d w hT (decide_eq_false h0) (decide_eq_true h1)
    · exact uni_small A n c xa A' m d xb w hT hx hy (decide_eq_false h0) (decide_eq_false h1)
end Go.Proofs.YtaapcfflnklpjaaGreatDoor
