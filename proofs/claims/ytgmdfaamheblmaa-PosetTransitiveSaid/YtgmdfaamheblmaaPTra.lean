/- The body of PosetTransitive. -/
import Derived.Test.YtgmdfaamheblmaaPAwk
namespace Go.Proofs.Ytgmdfaamheblmaa
open Go Go.RowKit PM

set_option maxHeartbeats 4000000 in
theorem tra_no (n x y z : Int) (A : Option Addr) (m c : Nat) (l : List (Int × Int)) (w : World) (hx : YL w A m l) (hm : m ≤ maxLen) (hf : ¬ m ≤ 150) :
    Calls Try.prog 10 #[.int .i64 n, .slice A m c, .agg #[.int .i64 x, .int .i64 y, .int .i64 z]] w fun e w' => e = .returned (.bool true) ∧ Below w.heap.size w w' := by
  have HX := hide hx
  have HM := hide hm
  have HF := hide (show decide (m ≤ 150) = false from decide_eq_false hf)
  clear hf
  clear hx hm
  go_enter Try.func10, Try.ntmps10
  go_wp2_with fail
  generalize hW : w.alloc _ = W
  obtain ⟨B, bx, -⟩ := boxC hW
  clear hW
  refine (awake_yes _).mono ?_
  rintro e w1 ⟨rfl, hb⟩
  have B := B.trans (hb.mono B.size)
  have bx := bx.below' hb
  clear hb
  go_wp2_with fail
  refine (few_any A m c _ HM.out false HF.out).mono ?_
  rintro e w2 ⟨rfl, rfl⟩
  go_wp2_with fail
  refine (awake_yes _).mono ?_
  rintro e w2 ⟨rfl, hb⟩
  have B := B.trans (hb.mono B.size)
  go_wp2_with fail
  go_ret
  exact ⟨rfl, B⟩
set_option maxHeartbeats 4000000 in
theorem tra_1 (n x y z : Int) (A : Option Addr) (m c : Nat) (l : List (Int × Int)) (w : World) (hx : YL w A m l) (hm : m ≤ maxLen) (hf : m ≤ 150) (h1 : reB n l x y = false) :
    Calls Try.prog 10 #[.int .i64 n, .slice A m c, .agg #[.int .i64 x, .int .i64 y, .int .i64 z]] w fun e w' => e = .returned (.bool true) ∧ Below w.heap.size w w' := by
  have HX := hide hx
  have HM := hide hm
  have HF := hide (show decide (m ≤ 150) = true from decide_eq_true hf)
  clear hf
  have H1 := hide h1
  clear h1
  clear hx hm
  go_enter Try.func10, Try.ntmps10
  go_wp2_with fail
  generalize hW : w.alloc _ = W
  obtain ⟨B, bx, -⟩ := boxC hW
  clear hW
  refine (awake_yes _).mono ?_
  rintro e w1 ⟨rfl, hb⟩
  have B := B.trans (hb.mono B.size)
  have bx := bx.below' hb
  clear hb
  go_wp2_with fail
  refine (few_any A m c _ HM.out true HF.out).mono ?_
  rintro e w2 ⟨rfl, rfl⟩
  have lx := bx.lt
  have z0 : w1.cell? ⟨w.heap.size, 0, none⟩ = some (.int .i64 x) := bx.at_ 0
  have z1 : w1.cell? ⟨w.heap.size, 1, none⟩ = some (.int .i64 y) := bx.at_ 1
  have z2 : w1.cell? ⟨w.heap.size, 2, none⟩ = some (.int .i64 z) := bx.at_ 2
  go_wp2_with fail
  refine (reaches_any n A m c l x y _ (HX.out.keep B) HM.out false H1.out).mono ?_
  rintro e w2 ⟨rfl, hb⟩
  have B := B.trans (hb.mono B.size)
  have bx := bx.below' hb
  have lx := bx.lt
  clear z0 z1 z2 hb
  have z0 : w2.cell? ⟨w.heap.size, 0, none⟩ = some (.int .i64 x) := bx.at_ 0
  have z1 : w2.cell? ⟨w.heap.size, 1, none⟩ = some (.int .i64 y) := bx.at_ 1
  have z2 : w2.cell? ⟨w.heap.size, 2, none⟩ = some (.int .i64 z) := bx.at_ 2
  go_wp2_with fail
  go_ret
  exact ⟨rfl, B⟩
set_option maxHeartbeats 4000000 in
theorem tra_2 (n x y z : Int) (A : Option Addr) (m c : Nat) (l : List (Int × Int)) (w : World) (hx : YL w A m l) (hm : m ≤ maxLen) (hf : m ≤ 150) (h1 : reB n l x y = true) (h2 : reB n l y z = false) :
    Calls Try.prog 10 #[.int .i64 n, .slice A m c, .agg #[.int .i64 x, .int .i64 y, .int .i64 z]] w fun e w' => e = .returned (.bool true) ∧ Below w.heap.size w w' := by
  have HX := hide hx
  have HM := hide hm
  have HF := hide (show decide (m ≤ 150) = true from decide_eq_true hf)
  clear hf
  have H1 := hide h1
  have H2 := hide h2
  clear h1 h2
  clear hx hm
  go_enter Try.func10, Try.ntmps10
  go_wp2_with fail
  generalize hW : w.alloc _ = W
  obtain ⟨B, bx, -⟩ := boxC hW
  clear hW
  refine (awake_yes _).mono ?_
  rintro e w1 ⟨rfl, hb⟩
  have B := B.trans (hb.mono B.size)
  have bx := bx.below' hb
  clear hb
  go_wp2_with fail
  refine (few_any A m c _ HM.out true HF.out).mono ?_
  rintro e w2 ⟨rfl, rfl⟩
  have lx := bx.lt
  have z0 : w1.cell? ⟨w.heap.size, 0, none⟩ = some (.int .i64 x) := bx.at_ 0
  have z1 : w1.cell? ⟨w.heap.size, 1, none⟩ = some (.int .i64 y) := bx.at_ 1
  have z2 : w1.cell? ⟨w.heap.size, 2, none⟩ = some (.int .i64 z) := bx.at_ 2
  go_wp2_with fail
  refine (reaches_any n A m c l x y _ (HX.out.keep B) HM.out true H1.out).mono ?_
  rintro e w2 ⟨rfl, hb⟩
  have B := B.trans (hb.mono B.size)
  have bx := bx.below' hb
  have lx := bx.lt
  clear z0 z1 z2 hb
  have z0 : w2.cell? ⟨w.heap.size, 0, none⟩ = some (.int .i64 x) := bx.at_ 0
  have z1 : w2.cell? ⟨w.heap.size, 1, none⟩ = some (.int .i64 y) := bx.at_ 1
  have z2 : w2.cell? ⟨w.heap.size, 2, none⟩ = some (.int .i64 z) := bx.at_ 2
  go_wp2_with fail
  refine (reaches_any n A m c l y z _ (HX.out.keep B) HM.out false H2.out).mono ?_
  rintro e w2 ⟨rfl, hb⟩
  have B := B.trans (hb.mono B.size)
  have bx := bx.below' hb
  have lx := bx.lt
  clear z0 z1 z2 hb
  have z0 : w2.cell? ⟨w.heap.size, 0, none⟩ = some (.int .i64 x) := bx.at_ 0
  have z1 : w2.cell? ⟨w.heap.size, 1, none⟩ = some (.int .i64 y) := bx.at_ 1
  have z2 : w2.cell? ⟨w.heap.size, 2, none⟩ = some (.int .i64 z) := bx.at_ 2
  go_wp2_with fail
  go_ret
  exact ⟨rfl, B⟩
set_option maxHeartbeats 4000000 in
theorem tra_3 (n x y z : Int) (A : Option Addr) (m c : Nat) (l : List (Int × Int)) (w : World) (hx : YL w A m l) (hm : m ≤ maxLen) (hf : m ≤ 150) (h1 : reB n l x y = true) (h2 : reB n l y z = true) :
    Calls Try.prog 10 #[.int .i64 n, .slice A m c, .agg #[.int .i64 x, .int .i64 y, .int .i64 z]] w fun e w' => e = .returned (.bool true) ∧ Below w.heap.size w w' := by
  have HX := hide hx
  have HM := hide hm
  have HF := hide (show decide (m ≤ 150) = true from decide_eq_true hf)
  clear hf
  have H3 := hide (reB_trans h1 h2)
  have H1 := hide h1
  have H2 := hide h2
  clear h1 h2
  clear hx hm
  go_enter Try.func10, Try.ntmps10
  go_wp2_with fail
  generalize hW : w.alloc _ = W
  obtain ⟨B, bx, -⟩ := boxC hW
  clear hW
  refine (awake_yes _).mono ?_
  rintro e w1 ⟨rfl, hb⟩
  have B := B.trans (hb.mono B.size)
  have bx := bx.below' hb
  clear hb
  go_wp2_with fail
  refine (few_any A m c _ HM.out true HF.out).mono ?_
  rintro e w2 ⟨rfl, rfl⟩
  have lx := bx.lt
  have z0 : w1.cell? ⟨w.heap.size, 0, none⟩ = some (.int .i64 x) := bx.at_ 0
  have z1 : w1.cell? ⟨w.heap.size, 1, none⟩ = some (.int .i64 y) := bx.at_ 1
  have z2 : w1.cell? ⟨w.heap.size, 2, none⟩ = some (.int .i64 z) := bx.at_ 2
  go_wp2_with fail
  refine (reaches_any n A m c l x y _ (HX.out.keep B) HM.out true H1.out).mono ?_
  rintro e w2 ⟨rfl, hb⟩
  have B := B.trans (hb.mono B.size)
  have bx := bx.below' hb
  have lx := bx.lt
  clear z0 z1 z2 hb
  have z0 : w2.cell? ⟨w.heap.size, 0, none⟩ = some (.int .i64 x) := bx.at_ 0
  have z1 : w2.cell? ⟨w.heap.size, 1, none⟩ = some (.int .i64 y) := bx.at_ 1
  have z2 : w2.cell? ⟨w.heap.size, 2, none⟩ = some (.int .i64 z) := bx.at_ 2
  go_wp2_with fail
  refine (reaches_any n A m c l y z _ (HX.out.keep B) HM.out true H2.out).mono ?_
  rintro e w2 ⟨rfl, hb⟩
  have B := B.trans (hb.mono B.size)
  have bx := bx.below' hb
  have lx := bx.lt
  clear z0 z1 z2 hb
  have z0 : w2.cell? ⟨w.heap.size, 0, none⟩ = some (.int .i64 x) := bx.at_ 0
  have z1 : w2.cell? ⟨w.heap.size, 1, none⟩ = some (.int .i64 y) := bx.at_ 1
  have z2 : w2.cell? ⟨w.heap.size, 2, none⟩ = some (.int .i64 z) := bx.at_ 2
  go_wp2_with fail
  refine (reaches_any n A m c l x z _ (HX.out.keep B) HM.out true H3.out).mono ?_
  rintro e w2 ⟨rfl, hb⟩
  have B := B.trans (hb.mono B.size)
  have bx := bx.below' hb
  have lx := bx.lt
  clear z0 z1 z2 hb
  have z0 : w2.cell? ⟨w.heap.size, 0, none⟩ = some (.int .i64 x) := bx.at_ 0
  have z1 : w2.cell? ⟨w.heap.size, 1, none⟩ = some (.int .i64 y) := bx.at_ 1
  have z2 : w2.cell? ⟨w.heap.size, 2, none⟩ = some (.int .i64 z) := bx.at_ 2
  go_wp2_with fail
  go_ret
  exact ⟨rfl, B⟩
theorem tra_all (n x y z : Int) (A : Option Addr) (m c : Nat) (l : List (Int × Int)) (w : World) (hx : YL w A m l) (hm : m ≤ maxLen) :
    Calls Try.prog 10 #[.int .i64 n, .slice A m c, .agg #[.int .i64 x, .int .i64 y, .int .i64 z]] w fun e w' => e = .returned (.bool true) ∧ Below w.heap.size w w' := by
  by_cases hf : m ≤ 150
  · rcases h1 : reB n l x y with _ | _
    · exact tra_1 n x y z A m c l w hx hm hf h1
    · rcases h2 : reB n l y z with _ | _
      · exact tra_2 n x y z A m c l w hx hm hf h1 h2
      · exact tra_3 n x y z A m c l w hx hm hf h1 h2
  · exact tra_no n x y z A m c l w hx hm hf
end Go.Proofs.Ytgmdfaamheblmaa
