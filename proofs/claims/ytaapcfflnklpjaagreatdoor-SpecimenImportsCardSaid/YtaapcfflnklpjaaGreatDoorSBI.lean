/- The body of SpecimenImports. -/
import Derived.Test.YtaapcfflnklpjaaGreatDoorSAw
import Derived.Test.YtaapcfflnklpjaaGreatDoorSRi
namespace Go.Proofs.YtaapcfflnklpjaaGreatDoor
open Go Go.RowKit Go.Lib
set_option maxHeartbeats 2000000 in
theorem imports_big (s : ByteArray) (w : World) (hT : Lw w) (h : decide ((5000 : Int) < (s.size : Int)) = true) :
    Calls Tryz.prog 11 #[.string s] w fun e w' => e = .returned (.bool true) ∧ Below w.heap.size w w' := by
  have HT := hide hT
  clear hT
  go_enter Tryz.func11, Tryz.ntmps11
  go_wp2_with fail
  refine (awake_yes _ HT.out).mono ?_
  rintro e w1 ⟨rfl, hb1⟩
  go_wp2_with fail
  refine (awake_yes _ (HT.out.below hb1)).mono ?_
  rintro e w2 ⟨rfl, hb2⟩
  go_wp2_with fail
  go_ret
  exact ⟨rfl, nxt hb1 hb2⟩
set_option maxHeartbeats 8000000 in
theorem imports_small (s : ByteArray) (w : World) (hT : Lw w) (h : decide ((5000 : Int) < (s.size : Int)) = false) :
    Calls Tryz.prog 11 #[.string s] w fun e w' => e = .returned (.bool true) ∧ Below w.heap.size w w' := by
  have HT := hide hT
  have HZ := hide (show s.size ≤ 5000 by have := of_decide_eq_false h; omega)
  clear hT
  go_enter Tryz.func11, Tryz.ntmps11
  go_wp2_with fail
  refine (awake_yes _ HT.out).mono ?_
  rintro e w1 ⟨rfl, hb1⟩
  go_wp2_with fail
  refine (import_any s _ (HT.out.below hb1) HZ.out).mono ?_
  rintro e w2 ⟨A3, n3, c3, xs, er, rfl, hs3, hn3, hi3, hb2⟩
  have HS3 := hide hs3
  have HI3 := hide hi3
  have HN3 := hide hn3
  have HB2 := hide (nxt hb1 hb2)
  clear hs3 hi3 hn3 hb1 hb2
  go_wp2_with fail
  refine (rimport_any s _ (HT.out.below HB2.out)).mono ?_
  rintro e w3 ⟨A4, n4, c4, us, er2, rfl, hs4, _, hi4, hb3⟩
  obtain ⟨h1, h2⟩ := HI3.out.uniq hi4
  subst h1
  subst h2
  have HS4 := hide hs4
  have HK3 := hide (HS3.out.keep hb3)
  have HB3 := hide (nxt HB2.out hb3)
  clear hs4 hi4 hb3
  go_wp2_with fail
  refine (export_any A3 n3 c3 xs _ (HT.out.below HB3.out) HK3.out).mono ?_
  rintro e w4 ⟨t, rfl, he, hb4⟩
  obtain ⟨r, hr⟩ : ∃ r, chk xs = r := ⟨_, rfl⟩
  rw [hr] at he ⊢
  have HE := hide he
  have HL3 := hide (HK3.out.keep hb4)
  have HL4 := hide (HS4.out.keep hb4)
  have HB4 := hide (nxt HB3.out hb4)
  clear he hr hb4
  go_wp2_with fail
  refine (sames_any A3 n3 c3 xs A4 n4 c4 xs _ HL3.out HL4.out (Nat.le_trans HN3.out (by decide)) true (decide_eq_true rfl)).mono ?_
  rintro e w5 ⟨rfl, hb5⟩
  by_cases h0 : er = 0
  · subst h0
    obtain ⟨g0, gt⟩ := imp_exp HI3.out HE.out
    rw [strB_data] at gt
    subst g0
    subst gt
    go_wp2_with fail
    go_ret
    exact ⟨rfl, nxt HB4.out hb5⟩
  · have q1 : (er != 0) = true := by simp [h0]
    clear h0
    go_wp2_with fail
    go_ret
    exact ⟨rfl, nxt HB4.out hb5⟩
theorem imports_all (s : ByteArray) (w : World) (hT : Lw w) :
    Calls Tryz.prog 11 #[.string s] w fun e w' => e = .returned (.bool true) ∧ Below w.heap.size w w' := by
  by_cases h : (5000 : Int) < (s.size : Int)
  · exact imports_big s w hT (decide_eq_true h)
  · exact imports_small s w hT (decide_eq_false h)
end Go.Proofs.YtaapcfflnklpjaaGreatDoor
