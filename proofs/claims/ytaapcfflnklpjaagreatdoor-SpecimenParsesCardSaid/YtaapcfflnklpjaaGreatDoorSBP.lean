/- The body of SpecimenParses. -/
import Derived.Test.YtaapcfflnklpjaaGreatDoorSAw
import Derived.Test.YtaapcfflnklpjaaGreatDoorSRp
namespace Go.Proofs.YtaapcfflnklpjaaGreatDoor
open Go Go.RowKit Go.Lib
attribute [local go_sem] run_equalIn_agg run_equalIn_int
set_option maxHeartbeats 2000000 in
theorem parses_big (s : ByteArray) (w : World) (hT : Lw w) (h : decide ((200 : Int) < (s.size : Int)) = true) :
    Calls Tryz.prog 4 #[.string s] w fun e w' => e = .returned (.bool true) ∧ Below w.heap.size w w' := by
  have HT := hide hT
  clear hT
  go_enter Tryz.func4, Tryz.ntmps4
  go_wp2_with fail
  refine (awake_yes _ HT.out).mono ?_
  rintro e w1 ⟨rfl, hb1⟩
  go_wp2_with fail
  refine (awake_yes _ (HT.out.below hb1)).mono ?_
  rintro e w2 ⟨rfl, hb2⟩
  go_wp2_with fail
  go_ret
  exact ⟨rfl, nxt hb1 hb2⟩
set_option maxHeartbeats 8000000 in
theorem parses_small (s : ByteArray) (w : World) (hT : Lw w) (h : decide ((200 : Int) < (s.size : Int)) = false) :
    Calls Tryz.prog 4 #[.string s] w fun e w' => e = .returned (.bool true) ∧ Below w.heap.size w w' := by
  have HT := hide hT
  have hz : s.size ≤ 200 := by have := of_decide_eq_false h; omega
  have HZ1 := hide (show s.size ≤ 5000 by omega)
  have HZ2 := hide (show s.size ≤ 4200 by omega)
  clear hz hT
  obtain ⟨x, er, hp⟩ := PR.ex s.data.toList
  have HP := hide hp
  clear hp
  go_enter Tryz.func4, Tryz.ntmps4
  go_wp2_with fail
  refine (awake_yes _ HT.out).mono ?_
  rintro e w1 ⟨rfl, hb1⟩
  go_wp2_with fail
  refine (parse9_any s _ (HT.out.below hb1) HZ1.out x er HP.out).mono ?_
  rintro e w2 ⟨rfl, hb2⟩
  go_wp2_with fail
  generalize hW3 : w2.alloc _ = W3
  obtain ⟨B3, hz3, hk3⟩ := box7 hW3
  have HB3 := hide (nxt (nxt hb1 hb2) B3)
  have KX := hide hk3
  have HL3 := hide (show w2.heap.size < W3.heap.size by omega)
  clear hW3 B3 hz3 hk3 hb1 hb2
  refine (rparse9_any s _ (HT.out.below HB3.out) HZ2.out x er HP.out).mono ?_
  rintro e w4 ⟨rfl, hb4⟩
  have l4 : w2.heap.size < w4.heap.size := Nat.lt_of_lt_of_le HL3.out hb4.size
  obtain ⟨k0, k1, k2, k3, k4, k5, k6⟩ := KX.out _ hb4
  have e0 := fun (w : World) => eqS_run x x w true (decide_eq_true rfl)
  have HB4 := hide (nxt HB3.out hb4)
  have HB5 := hide (nxt HB4.out ((Below.refl w4.heap.size w4).alloc (Nat.le_refl _) (.cells #[.int .i64 x.i, .int .i64 x.o, .int .i64 x.r, .int .i64 x.a, .int .i64 x.b, .int .i64 x.h, .int .i64 x.m] 23)))
  by_cases h0 : er = 0
  · subst h0
    have HS := hide (show spT x = s by rw [HP.out.text, strB_data])
    go_wp2_with fail
    clear k0 k1 k2 k3 k4 k5 k6
    refine (text9_any x _ (HT.out.below HB5.out) s HS.out).mono ?_
    rintro e w6 ⟨rfl, hb6⟩
    go_wp2_with fail
    go_ret
    exact ⟨rfl, nxt HB5.out hb6⟩
  · have q1 : (er != 0) = true := by simp [h0]
    clear h0
    go_wp2_with fail
    go_ret
    exact ⟨rfl, HB5.out⟩
theorem parses_all (s : ByteArray) (w : World) (hT : Lw w) :
    Calls Tryz.prog 4 #[.string s] w fun e w' => e = .returned (.bool true) ∧ Below w.heap.size w w' := by
  by_cases h : (200 : Int) < (s.size : Int)
  · exact parses_big s w hT (decide_eq_true h)
  · exact parses_small s w hT (decide_eq_false h)
end Go.Proofs.YtaapcfflnklpjaaGreatDoor
