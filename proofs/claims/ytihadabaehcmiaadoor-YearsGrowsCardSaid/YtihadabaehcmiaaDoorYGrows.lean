/- The body of YearsGrows. -/
import Derived.Test.YtihadabaehcmiaaDoorYLaw
namespace Go.Proofs.YtihadabaehcmiaaDoor
open Go Go.RowKit

set_option maxHeartbeats 4000000 in
set_option maxRecDepth 100000 in
theorem grows_1 (a b n x y z : Int) (w : World) (hT : Lw w) (h : grw a b n = (x, y, z)) (h0 : (z != 0) = true) :
    Calls Tryd.prog 9 #[.agg #[.int .i64 a, .int .i64 b], .int .i64 n] w fun e w' => e = .returned (.bool true) ∧ Below w.heap.size w w' := by
  have HT := hide hT
  have GG := hide (fun W => grow_any a b n W x y z h)
  have GR := hide (fun W => rgrow_any a b n W x y z h)
  clear h
  clear hT
  go_enter Tryd.func9, Tryd.ntmps9
  go_wp2_with fail
  generalize hW : w.alloc _ = W
  obtain ⟨B, b0⟩ := boxA hW
  clear hW
  refine (awake_yes _ (HT.out.below B)).mono ?_
  rintro e w1 ⟨rfl, hb⟩
  replace b0 := b0.below' hb
  replace B := B.trans (hb.mono B.size)
  have fb00 : w1.cell? ⟨w.heap.size, 0, none⟩ = some (.int .i64 a) := b0.at_ 0
  have fb01 : w1.cell? ⟨w.heap.size, 1, none⟩ = some (.int .i64 b) := b0.at_ 1
  have zb0 : w.heap.size < w1.heap.size := b0.lt
  clear hb
  go_wp2_with fail
  refine (GG.out _).mono ?_
  rintro e w2 ⟨rfl, hb⟩
  replace b0 := b0.below' hb
  replace B := B.trans (hb.mono B.size)
  clear fb00 fb01 zb0
  have fb00 : w2.cell? ⟨w.heap.size, 0, none⟩ = some (.int .i64 a) := b0.at_ 0
  have fb01 : w2.cell? ⟨w.heap.size, 1, none⟩ = some (.int .i64 b) := b0.at_ 1
  have zb0 : w.heap.size < w2.heap.size := b0.lt
  clear hb
  go_wp2_with fail
  generalize hW : w2.alloc _ = V2
  obtain ⟨hb, bg⟩ := boxA hW
  replace b0 := b0.below' hb
  replace B := B.trans (hb.mono B.size)
  clear fb00 fb01 zb0
  generalize w2.heap.size = gbg at *
  have fb00 : V2.cell? ⟨w.heap.size, 0, none⟩ = some (.int .i64 a) := b0.at_ 0
  have fb01 : V2.cell? ⟨w.heap.size, 1, none⟩ = some (.int .i64 b) := b0.at_ 1
  have zb0 : w.heap.size < V2.heap.size := b0.lt
  have fbg0 : V2.cell? ⟨gbg, 0, none⟩ = some (.int .i64 x) := bg.at_ 0
  have fbg1 : V2.cell? ⟨gbg, 1, none⟩ = some (.int .i64 y) := bg.at_ 1
  have zbg : gbg < V2.heap.size := bg.lt
  clear hW hb
  go_wp2_with fail
  refine (GR.out _).mono ?_
  rintro e w3 ⟨rfl, hb⟩
  replace b0 := b0.below' hb
  replace bg := bg.below' hb
  replace B := B.trans (hb.mono B.size)
  clear fb00 fb01 zb0 fbg0 fbg1 zbg
  have fb00 : w3.cell? ⟨w.heap.size, 0, none⟩ = some (.int .i64 a) := b0.at_ 0
  have fb01 : w3.cell? ⟨w.heap.size, 1, none⟩ = some (.int .i64 b) := b0.at_ 1
  have zb0 : w.heap.size < w3.heap.size := b0.lt
  have fbg0 : w3.cell? ⟨gbg, 0, none⟩ = some (.int .i64 x) := bg.at_ 0
  have fbg1 : w3.cell? ⟨gbg, 1, none⟩ = some (.int .i64 y) := bg.at_ 1
  have zbg : gbg < w3.heap.size := bg.lt
  clear hb
  go_wp2_with fail
  generalize hW : w3.alloc _ = V3
  obtain ⟨hb, bh⟩ := boxA hW
  replace b0 := b0.below' hb
  replace bg := bg.below' hb
  replace B := B.trans (hb.mono B.size)
  clear fb00 fb01 zb0 fbg0 fbg1 zbg
  generalize w3.heap.size = gbh at *
  have fb00 : V3.cell? ⟨w.heap.size, 0, none⟩ = some (.int .i64 a) := b0.at_ 0
  have fb01 : V3.cell? ⟨w.heap.size, 1, none⟩ = some (.int .i64 b) := b0.at_ 1
  have zb0 : w.heap.size < V3.heap.size := b0.lt
  have fbg0 : V3.cell? ⟨gbg, 0, none⟩ = some (.int .i64 x) := bg.at_ 0
  have fbg1 : V3.cell? ⟨gbg, 1, none⟩ = some (.int .i64 y) := bg.at_ 1
  have zbg : gbg < V3.heap.size := bg.lt
  have fbh0 : V3.cell? ⟨gbh, 0, none⟩ = some (.int .i64 x) := bh.at_ 0
  have fbh1 : V3.cell? ⟨gbh, 1, none⟩ = some (.int .i64 y) := bh.at_ 1
  have zbh : gbh < V3.heap.size := bh.lt
  clear hW hb
  go_wp2_with fail
  go_quiet (fail)
  go_wp2_with fail
  go_ret
  exact ⟨rfl, below_drewN B _⟩
set_option maxHeartbeats 4000000 in
set_option maxRecDepth 100000 in
theorem grows_2 (a b n x y : Int) (w : World) (hT : Lw w) (h : grw a b n = (x, y, 0)) (h1 : yB a b = true) (h2 : yB x y = true) (m l : Int) (h3 : b - a + 1 = m) (h4 : y - x + 1 = l) (m0 : 0 ≤ m) (m1 : m ≤ 20000) (n0 : 0 ≤ n) (n1 : n ≤ 20000) (e : (l == IntKind.i64.wrap (m + IntKind.i64.wrap (2 * n))) = true) :
    Calls Tryd.prog 9 #[.agg #[.int .i64 a, .int .i64 b], .int .i64 n] w fun e w' => e = .returned (.bool true) ∧ Below w.heap.size w w' := by
  have HT := hide hT
  have GG := hide (fun W => grow_any a b n W x y 0 h)
  have GR := hide (fun W => rgrow_any a b n W x y 0 h)
  clear h
  have H1 := hide h1
  have H2 := hide h2
  have H3 := hide h3
  have H4 := hide h4
  clear hT h1 h2 h3 h4
  go_enter Tryd.func9, Tryd.ntmps9
  go_wp2_with fail
  generalize hW : w.alloc _ = W
  obtain ⟨B, b0⟩ := boxA hW
  clear hW
  refine (awake_yes _ (HT.out.below B)).mono ?_
  rintro e w1 ⟨rfl, hb⟩
  replace b0 := b0.below' hb
  replace B := B.trans (hb.mono B.size)
  have fb00 : w1.cell? ⟨w.heap.size, 0, none⟩ = some (.int .i64 a) := b0.at_ 0
  have fb01 : w1.cell? ⟨w.heap.size, 1, none⟩ = some (.int .i64 b) := b0.at_ 1
  have zb0 : w.heap.size < w1.heap.size := b0.lt
  clear hb
  go_wp2_with fail
  refine (GG.out _).mono ?_
  rintro e w2 ⟨rfl, hb⟩
  replace b0 := b0.below' hb
  replace B := B.trans (hb.mono B.size)
  clear fb00 fb01 zb0
  have fb00 : w2.cell? ⟨w.heap.size, 0, none⟩ = some (.int .i64 a) := b0.at_ 0
  have fb01 : w2.cell? ⟨w.heap.size, 1, none⟩ = some (.int .i64 b) := b0.at_ 1
  have zb0 : w.heap.size < w2.heap.size := b0.lt
  clear hb
  go_wp2_with fail
  generalize hW : w2.alloc _ = V2
  obtain ⟨hb, bg⟩ := boxA hW
  replace b0 := b0.below' hb
  replace B := B.trans (hb.mono B.size)
  clear fb00 fb01 zb0
  generalize w2.heap.size = gbg at *
  have fb00 : V2.cell? ⟨w.heap.size, 0, none⟩ = some (.int .i64 a) := b0.at_ 0
  have fb01 : V2.cell? ⟨w.heap.size, 1, none⟩ = some (.int .i64 b) := b0.at_ 1
  have zb0 : w.heap.size < V2.heap.size := b0.lt
  have fbg0 : V2.cell? ⟨gbg, 0, none⟩ = some (.int .i64 x) := bg.at_ 0
  have fbg1 : V2.cell? ⟨gbg, 1, none⟩ = some (.int .i64 y) := bg.at_ 1
  have zbg : gbg < V2.heap.size := bg.lt
  clear hW hb
  go_wp2_with fail
  refine (GR.out _).mono ?_
  rintro e w3 ⟨rfl, hb⟩
  replace b0 := b0.below' hb
  replace bg := bg.below' hb
  replace B := B.trans (hb.mono B.size)
  clear fb00 fb01 zb0 fbg0 fbg1 zbg
  have fb00 : w3.cell? ⟨w.heap.size, 0, none⟩ = some (.int .i64 a) := b0.at_ 0
  have fb01 : w3.cell? ⟨w.heap.size, 1, none⟩ = some (.int .i64 b) := b0.at_ 1
  have zb0 : w.heap.size < w3.heap.size := b0.lt
  have fbg0 : w3.cell? ⟨gbg, 0, none⟩ = some (.int .i64 x) := bg.at_ 0
  have fbg1 : w3.cell? ⟨gbg, 1, none⟩ = some (.int .i64 y) := bg.at_ 1
  have zbg : gbg < w3.heap.size := bg.lt
  clear hb
  go_wp2_with fail
  generalize hW : w3.alloc _ = V3
  obtain ⟨hb, bh⟩ := boxA hW
  replace b0 := b0.below' hb
  replace bg := bg.below' hb
  replace B := B.trans (hb.mono B.size)
  clear fb00 fb01 zb0 fbg0 fbg1 zbg
  generalize w3.heap.size = gbh at *
  have fb00 : V3.cell? ⟨w.heap.size, 0, none⟩ = some (.int .i64 a) := b0.at_ 0
  have fb01 : V3.cell? ⟨w.heap.size, 1, none⟩ = some (.int .i64 b) := b0.at_ 1
  have zb0 : w.heap.size < V3.heap.size := b0.lt
  have fbg0 : V3.cell? ⟨gbg, 0, none⟩ = some (.int .i64 x) := bg.at_ 0
  have fbg1 : V3.cell? ⟨gbg, 1, none⟩ = some (.int .i64 y) := bg.at_ 1
  have zbg : gbg < V3.heap.size := bg.lt
  have fbh0 : V3.cell? ⟨gbh, 0, none⟩ = some (.int .i64 x) := bh.at_ 0
  have fbh1 : V3.cell? ⟨gbh, 1, none⟩ = some (.int .i64 y) := bh.at_ 1
  have zbh : gbh < V3.heap.size := bh.lt
  clear hW hb
  go_wp2_with fail
  have KS : Hid (∀ w', Below V3.heap.size V3 w' → w'.cell? ⟨w.heap.size, 0, none⟩ = some (.int .i64 a) ∧ w'.cell? ⟨w.heap.size, 1, none⟩ = some (.int .i64 b) ∧ w'.cell? ⟨gbg, 0, none⟩ = some (.int .i64 x) ∧ w'.cell? ⟨gbg, 1, none⟩ = some (.int .i64 y) ∧ w'.cell? ⟨gbh, 0, none⟩ = some (.int .i64 x) ∧ w'.cell? ⟨gbh, 1, none⟩ = some (.int .i64 y)) := fun w' h => ⟨(b0.below' h).at_ 0, (b0.below' h).at_ 1, (bg.below' h).at_ 0, (bg.below' h).at_ 1, (bh.below' h).at_ 0, (bh.below' h).at_ 1⟩
  have P0 : Below V3.heap.size V3 V3.drew := (Below.refl _ _).drew
  go_region_held3 (fun w' => w'.cell? ⟨w.heap.size, 0, none⟩ = some (.int .i64 a) ∧ w'.cell? ⟨w.heap.size, 1, none⟩ = some (.int .i64 b) ∧ w'.cell? ⟨gbg, 0, none⟩ = some (.int .i64 x) ∧ w'.cell? ⟨gbg, 1, none⟩ = some (.int .i64 y) ∧ w'.cell? ⟨gbh, 0, none⟩ = some (.int .i64 x) ∧ w'.cell? ⟨gbh, 1, none⟩ = some (.int .i64 y))
    (first | with_reducible exact KS.out _ E2 | with_reducible exact KS.out _ E1 | with_reducible exact KS.out _ P0 | with_reducible exact KS.out _ (Below.refl _ _))
    (first
      | (go_at_call_of 19 (Value.int .i64 x); (with_reducible refine (length_v _ _ _ H2.out _ H4.out).mono ?_); rintro e u1 ⟨rfl, hx1⟩; have E1 : Below V3.heap.size V3 u1 := (by first | with_reducible exact E2.trans (hx1.mono E2.size) | with_reducible exact P0.trans (hx1.mono P0.size)))
      | (go_at_call_of 19 (Value.int .i64 a); (with_reducible refine (length_v _ _ _ H1.out _ H3.out).mono ?_); rintro e u2 ⟨rfl, hx2⟩; have E2 : Below V3.heap.size V3 u2 := (by first | with_reducible exact E1.trans (hx2.mono E1.size) | with_reducible exact P0.trans (hx2.mono P0.size))))
  all_goals
    go_wp2_with fail
    go_ret
    exact ⟨rfl, by first | with_reducible exact B.trans (E2.mono B.size) | with_reducible exact B.trans (E1.mono B.size)⟩
theorem grows_all (a b n : Int) (w : World) (hT : Lw w) :
    Calls Tryd.prog 9 #[.agg #[.int .i64 a, .int .i64 b], .int .i64 n] w fun e w' => e = .returned (.bool true) ∧ Below w.heap.size w w' := by
  rcases hg : grw a b n with ⟨x, y, z⟩
  have hg' := hg
  unfold grw at hg
  by_cases h1 : yB a b = false
  · rw [if_pos h1] at hg; cases hg
    exact grows_1 a b n _ _ _ w hT hg' (by decide)
  · rw [if_neg h1] at hg
    have h1 : yB a b = true := by simpa using h1
    have j := yB_true.1 h1
    by_cases h2 : 0 ≤ n ∧ -9999 ≤ a - n ∧ b + n ≤ 9999
    · rw [if_pos h2] at hg; cases hg
      exact grows_2 a b n _ _ w hT hg' h1 (yB_true.2 (by omega)) _ _ rfl rfl (by omega) (by omega) (by omega) (by omega) (by rw [IntWalk.i64_in (2 * n) (by omega), IntWalk.i64_in _ (by omega)]; exact beq_iff_eq.2 (by omega))
    · rw [if_neg h2] at hg; cases hg
      exact grows_1 a b n _ _ _ w hT hg' (by decide)
end Go.Proofs.YtihadabaehcmiaaDoor
