/- WholeOpinions: its awake. -/
import Derived.Test.YtlnajliobebgdaaUX
import Derived.Test.YtlnajliobebgdaaWM
namespace Go.Proofs.Ytlnajliobebgdaa
open Go Go.RowKit Go.Lib
theorem wx_dif : difR [⟨1, 5⟩] [⟨1, 6⟩, ⟨2, 7⟩] = ([⟨1, 5, 6, true, true⟩, ⟨2, 0, 7, false, true⟩], 0) := by decide +kernel
theorem wx_app : appR [⟨1, 5⟩] [⟨1, 5, 6, true, true⟩, ⟨2, 0, 7, false, true⟩] = ([⟨1, 6⟩, ⟨2, 7⟩], 0) := by decide +kernel
set_option maxHeartbeats 8000000 in
set_option maxRecDepth 100000 in
theorem wawake_yes (w : World) : Calls Try.prog 4 #[] w fun e w' => e = .returned (.bool true) ∧ Below w.heap.size w w' := by
  have HD := hide wx_dif
  have HM := hide wx_app
  have C1 := hide (diff_any (some ⟨w.heap.size, 0, none⟩) 1 1 [⟨1, 5⟩] (some ⟨w.heap.size + 1, 0, none⟩) 2 2 [⟨1, 6⟩, ⟨2, 7⟩] ((w.alloc (.cells #[.int .i64 1, .int .i64 5] 40)).alloc (.cells #[.int .i64 1, .int .i64 6, .int .i64 2, .int .i64 7] 40)) (kpA (boxE (x := ⟨1, 5⟩) (Box.new _ _ _)) _) (box2E (x := ⟨1, 6⟩) (y := ⟨2, 7⟩) (newE _ _ _ (by simp))) (by decide) (by decide))
  have S1 := hide (kpA (boxE (x := ⟨1, 5⟩) (Box.new w #[.int .i64 1, .int .i64 5] 40)) (.cells #[.int .i64 1, .int .i64 6, .int .i64 2, .int .i64 7] 40))
  have S2 := hide (box2E (x := ⟨1, 6⟩) (y := ⟨2, 7⟩) (newE (g := w.heap.size + 1) (w.alloc (.cells #[.int .i64 1, .int .i64 5] 40)) #[.int .i64 1, .int .i64 6, .int .i64 2, .int .i64 7] 40 (by simp)))
  have B1 := hide (Below.allocS (Below.allocS (Below.refl w.heap.size w) (.cells #[.int .i64 1, .int .i64 5] 40)) (.cells #[.int .i64 1, .int .i64 6, .int .i64 2, .int .i64 7] 40))
  go_enter Try.func4, Try.ntmps4
  go_wp2_with fail
  refine C1.out.mono ?_
  rintro e w1 h
  obtain ⟨A1, c1, n1, rfl, hn, s1, b1⟩ := giv_is HD.out h
  obtain rfl : n1 = 2 := hn.symm
  have S1 := hide (S1.out.keep b1)
  have S2 := hide (S2.out.keep b1)
  have S3 := hide s1
  have B1 := hide (Below.next B1.out b1)
  clear h s1 b1 hn C1
  go_wp2_with fail
  refine (apply_any (some ⟨w.heap.size, 0, none⟩) 1 1 [⟨1, 5⟩] A1 2 c1 _ w1 S1.out S3.out (by decide) (by decide)).mono ?_
  rintro e w2 h
  obtain ⟨A2, c2, n2, rfl, hn2, s2, b2⟩ := giv_is HM.out h
  obtain rfl : n2 = 2 := hn2.symm
  have S2 := hide (S2.out.keep b2)
  have S4 := hide s2
  have B2 := hide (Below.next B1.out b2)
  clear h s2 b2 hn2
  have C3 := hide (baseE_any A2 2 c2 [⟨1, 6⟩, ⟨2, 7⟩] (some ⟨w.heap.size + 1, 0, none⟩) 2 2 [⟨1, 6⟩, ⟨2, 7⟩] w2 S4.out S2.out (by decide) (by decide) true (decide_eq_true rfl))
  go_wp2_with fail
  refine C3.out.mono ?_
  rintro e w3 ⟨rfl, g3⟩
  have B3 := hide (Below.next B2.out g3.below)
  clear g3 C3
  go_wp2_with fail
  go_ret
  exact ⟨rfl, B3.out⟩
end Go.Proofs.Ytlnajliobebgdaa
