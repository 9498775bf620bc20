/- The body of SpecimenGroups. -/
import Derived.Test.YtaapcfflnklpjaaGreatDoorSAw
namespace Go.Proofs.YtaapcfflnklpjaaGreatDoor
open Go Go.RowKit Go.Lib
theorem u9_len {a b zs : List Spc} {e : Int} {w : World} {A : Option Addr} {n : Nat} (h : SL w A n zs) (hu : UR a b zs e) : n ≤ 64 := by
  rw [← h.1]
  by_cases h0 : e = 0
  · subst h0
    exact (chk_ok.1 hu.chk).1
  · rw [hu.2.2 h0]; exact Nat.zero_le _
theorem u9_nil {a b zs : List Spc} {e : Int} {w : World} {A : Option Addr} {n : Nat} (h : SL w A n zs) (hu : UR a b zs e) (h0 : e ≠ 0) : n = 0 := by
  rw [← h.1, hu.2.2 h0]; rfl
set_option maxHeartbeats 2000000 in
theorem grp_b1 (A : Option Addr) (n c : Nat) (A' : Option Addr) (m d : Nat) (A2 : Option Addr) (k f : Nat) (w : World) (hT : Lw w) (d0 : decide ((64 : Int) < (n : Int)) = true) :
    Calls Tryz.prog 9 #[.slice A n c, .slice A' m d, .slice A2 k f] w fun e w' => e = .returned (.bool true) ∧ Below w.heap.size w w' := by
  have HT := hide hT
  clear hT
  go_enter Tryz.func9, Tryz.ntmps9
  go_wp2_with fail
  refine (awake_yes _ HT.out).mono ?_
  rintro e w1 ⟨rfl, hb1⟩
  go_wp2_with fail
  refine (awake_yes _ (HT.out.below hb1)).mono ?_
  rintro e w2 ⟨rfl, hb2⟩
  go_wp2_with fail
  go_ret
  exact ⟨rfl, nxt hb1 hb2⟩
set_option maxHeartbeats 2000000 in
theorem grp_b2 (A : Option Addr) (n c : Nat) (A' : Option Addr) (m d : Nat) (A2 : Option Addr) (k f : Nat) (w : World) (hT : Lw w) (d0 : decide ((64 : Int) < (n : Int)) = false) (d1 : decide ((64 : Int) < (m : Int)) = true) :
    Calls Tryz.prog 9 #[.slice A n c, .slice A' m d, .slice A2 k f] w fun e w' => e = .returned (.bool true) ∧ Below w.heap.size w w' := by
  have HT := hide hT
  clear hT
  go_enter Tryz.func9, Tryz.ntmps9
  go_wp2_with fail
  refine (awake_yes _ HT.out).mono ?_
  rintro e w1 ⟨rfl, hb1⟩
  go_wp2_with fail
  refine (awake_yes _ (HT.out.below hb1)).mono ?_
  rintro e w2 ⟨rfl, hb2⟩
  go_wp2_with fail
  go_ret
  exact ⟨rfl, nxt hb1 hb2⟩
set_option maxHeartbeats 2000000 in
theorem grp_b3 (A : Option Addr) (n c : Nat) (A' : Option Addr) (m d : Nat) (A2 : Option Addr) (k f : Nat) (w : World) (hT : Lw w) (d0 : decide ((64 : Int) < (n : Int)) = false) (d1 : decide ((64 : Int) < (m : Int)) = false) (d2 : decide ((64 : Int) < (k : Int)) = true) :
    Calls Tryz.prog 9 #[.slice A n c, .slice A' m d, .slice A2 k f] w fun e w' => e = .returned (.bool true) ∧ Below w.heap.size w w' := by
  have HT := hide hT
  clear hT
  go_enter Tryz.func9, Tryz.ntmps9
  go_wp2_with fail
  refine (awake_yes _ HT.out).mono ?_
  rintro e w1 ⟨rfl, hb1⟩
  go_wp2_with fail
  refine (awake_yes _ (HT.out.below hb1)).mono ?_
  rintro e w2 ⟨rfl, hb2⟩
  go_wp2_with fail
  go_ret
  exact ⟨rfl, nxt hb1 hb2⟩

set_option maxHeartbeats 8000000 in
theorem grp_small (A : Option Addr) (n c : Nat) (xa : List Spc) (A' : Option Addr) (m d : Nat) (xb : List Spc) (A2 : Option Addr) (k f : Nat) (xc : List Spc) (w : World) (hT : Lw w) (hx : SL w A n xa) (hy : SL w A' m xb) (hz : SL w A2 k xc) (d0 : decide ((64 : Int) < (n : Int)) = false) (d1 : decide ((64 : Int) < (m : Int)) = false) (d2 : decide ((64 : Int) < (k : Int)) = false) :
    Calls Tryz.prog 9 #[.slice A n c, .slice A' m d, .slice A2 k f] w fun e w' => e = .returned (.bool true) ∧ Below w.heap.size w w' := by
  have HT := hide hT
  have HX := hide hx
  have HY := hide hy
  have HZ := hide hz
  clear hT hx hy hz
  go_enter Tryz.func9, Tryz.ntmps9
  go_wp2_with fail
  refine (awake_yes _ HT.out).mono ?_
  rintro e w1 ⟨rfl, hb1⟩
  go_wp2_with fail
  refine (union_any A n c xa A' m d xb _ (HX.out.keep hb1) (HY.out.keep hb1)).mono ?_
  rintro e w2 ⟨A3, n3, c3, x, rfl, hs3, hu3, hb2⟩
  obtain ⟨e1, he1⟩ : ∃ e, uE xa xb = e := ⟨_, rfl⟩
  rw [he1] at hu3 ⊢
  have HS3 := hide hs3
  have HU3 := hide hu3
  have HB2 := hide (nxt hb1 hb2)
  clear hb1 hb2 hs3 hu3 he1
  go_wp2_with fail
  refine (union_any A' m d xb A2 k f xc _ (HY.out.keep HB2.out) (HZ.out.keep HB2.out)).mono ?_
  rintro e w3 ⟨A4, n4, c4, y, rfl, hs4, hu4, hb3⟩
  obtain ⟨e2, he2⟩ : ∃ e, uE xb xc = e := ⟨_, rfl⟩
  rw [he2] at hu4 ⊢
  have HS4 := hide hs4
  have HU4 := hide hu4
  have HK3 := hide (HS3.out.keep hb3)
  have HB3 := hide (nxt HB2.out hb3)
  clear hb3 hs4 hu4 he2
  by_cases h1 : e1 = 0
  · subst h1
    by_cases h2 : e2 = 0
    · subst h2
      go_wp2_with fail
      refine (union_any A3 n3 c3 x A2 k f xc _ HK3.out (HZ.out.keep HB3.out)).mono ?_
      rintro e w4 ⟨A5, n5, c5, u, rfl, hs5, hu5, hb4⟩
      obtain ⟨e3, he3⟩ : ∃ e, uE x xc = e := ⟨_, rfl⟩
      rw [he3] at hu5 ⊢
      have HS5 := hide hs5
      have HU5 := hide hu5
      have HK4 := hide (HS4.out.keep hb4)
      have HB4 := hide (nxt HB3.out hb4)
      clear hb4 hs5 hu5 he3
      go_wp2_with fail
      refine (union_any A n c xa A4 n4 c4 y _ (HX.out.keep HB4.out) HK4.out).mono ?_
      rintro e w5 ⟨A6, n6, c6, v, rfl, hs6, hu6, hb5⟩
      obtain ⟨e4, he4⟩ : ∃ e, uE xa y = e := ⟨_, rfl⟩
      rw [he4] at hu6 ⊢
      have HS6 := hide hs6
      have HU6 := hide hu6
      have HK5 := hide (HS5.out.keep hb5)
      have HB5 := hide (nxt HB4.out hb5)
      have HG := hide (groups HU3.out HU4.out HU5.out HU6.out)
      have HE := hide HG.out.2
      have HN := hide (u9_len HK5.out HU5.out)
      clear hb5 hs6 hu6 he4
      by_cases h3 : e3 = 0
      · obtain rfl : e4 = 0 := HG.out.1.1 h3
        subst h3
        go_wp2_with fail
        refine (sames_any A5 n5 c5 u A6 n6 c6 v _ HK5.out HS6.out (Nat.le_trans HN.out (by decide)) true (decide_eq_true HE.out)).mono ?_
        rintro e w6 ⟨rfl, hb6⟩
        go_wp2_with fail
        go_ret
        exact ⟨rfl, nxt HB5.out hb6⟩
      · have q1 : (e3 == 0) = false := beq_eq_false_iff_ne.2 h3
        have q2 : (e4 == 0) = false := beq_eq_false_iff_ne.2 fun h => h3 (HG.out.1.2 h)
        clear h3
        go_wp2_with fail
        refine (sames_any A5 n5 c5 u A6 n6 c6 v _ HK5.out HS6.out (Nat.le_trans HN.out (by decide)) true (decide_eq_true HE.out)).mono ?_
        rintro e w6 ⟨rfl, hb6⟩
        go_wp2_with fail
        go_ret
        exact ⟨rfl, nxt HB5.out hb6⟩
    · obtain rfl : n4 = 0 := u9_nil HS4.out HU4.out h2
      have q1 : (e2 != 0) = true := by simp [h2]
      clear h2
      by_cases h3 : n3 = 0
      · subst h3
        go_wp2_with fail
        go_ret
        exact ⟨rfl, HB3.out⟩
      · have q3 : ((n3 : Int) == 0) = false := beq_eq_false_iff_ne.2 (by omega)
        clear h3
        go_wp2_with fail
        go_ret
        exact ⟨rfl, HB3.out⟩
  · obtain rfl : n3 = 0 := u9_nil HS3.out HU3.out h1
    have q1 : (e1 != 0) = true := by simp [h1]
    clear h1
    go_wp2_with fail
    go_ret
    exact ⟨rfl, HB3.out⟩
theorem groups_all (A : Option Addr) (n c : Nat) (xa : List Spc) (A' : Option Addr) (m d : Nat) (xb : List Spc) (A2 : Option Addr) (k f : Nat) (xc : List Spc) (w : World) (hT : Lw w) (hx : SL w A n xa) (hy : SL w A' m xb) (hz : SL w A2 k xc) :
    Calls Tryz.prog 9 #[.slice A n c, .slice A' m d, .slice A2 k f] w fun e w' => e = .returned (.bool true) ∧ Below w.heap.size w w' := by
  by_cases h0 : (64 : Int) < n
  · exact grp_b1 A n c A' m d A2 k f w hT (decide_eq_true h0)
  · by_cases h1 : (64 : Int) < m
    · exact grp_b2 A n c A' m d A2 k f w hT (decide_eq_false h0) (decide_eq_true h1)
    · by_cases h2 : (64 : Int) < k
      · exact grp_b3 A n c A' m d A2 k f w hT (decide_eq_false h0) (decide_eq_false h1) (decide_eq_true h2)
      · exact grp_small A n c xa A' m d xb A2 k f xc w hT hx hy hz (decide_eq_false h0) (decide_eq_false h1) (decide_eq_false h2)
end Go.Proofs.YtaapcfflnklpjaaGreatDoor
