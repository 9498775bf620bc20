/- awake returns true. -/
import Derived.Test.YtihadabaehcmiaaDoorYAwake
namespace Go.Proofs.YtihadabaehcmiaaDoor
open Go Go.RowKit Go.Lib

theorem lit3 {w W : World} (hW : w.alloc (.cells #[.int .i64 4, .int .i64 6, .int .i64 1, .int .i64 3, .int .i64 9, .int .i64 9] 23) = W) : YL W (some ⟨w.heap.size, 0, none⟩) 3 [(4, 6), (1, 3), (9, 9)] := by
  have hb := boxA hW
  refine ⟨rfl, fun _ => ⟨_, 0, rfl, hb.2.lt, fun j u hu => ?_⟩⟩
  rw [Nat.zero_add, hb.2.at_ j, ← Array.getElem?_toList]
  exact hu
theorem lit2 {w W : World} (hW : w.alloc (.cells #[.int .i64 1, .int .i64 6, .int .i64 9, .int .i64 9] 23) = W) : YL W (some ⟨w.heap.size, 0, none⟩) 2 [(1, 6), (9, 9)] := by
  have hb := boxA hW
  refine ⟨rfl, fun _ => ⟨_, 0, rfl, hb.2.lt, fun j u hu => ?_⟩⟩
  rw [Nat.zero_add, hb.2.at_ j, ← Array.getElem?_toList]
  exact hu
set_option maxHeartbeats 4000000 in
set_option maxRecDepth 100000 in
theorem awake_yes : Awake := by
  intro w hT
  have HT := hide hT
  clear hT
  have C1 := hide (fun W (h : Lw W) => parse_v ⟨#[49, 52, 45, 51, 55, 32, 65, 68]⟩ W h (by decide) 14 37 0 prs1)
  have C2 := hide (fun W (h : Lw W) => parse_v ⟨#[51, 55, 45, 49, 52, 32, 65, 68]⟩ W h (by decide) 0 0 3 prs2)
  have C3 := hide (fun W => meet_yes 1 5 4 9 W (by decide) (by decide) (by decide))
  rw [show max (1 : Int) 4 = 4 from rfl, show min (5 : Int) 9 = 5 from rfl] at C3
  have C4 := hide (fun W => hull_yes 1 2 8 9 W (by decide) (by decide))
  rw [show min (1 : Int) 8 = 1 from rfl, show max (2 : Int) 9 = 9 from rfl] at C4
  have C5 := hide (fun W => grow_any 1 2 3 W (-2) 5 0 (by decide))
  have C7 := hide (fun W (h : Lw W) => text_v (-26) 14 W h _ txt3)
  have C8 := hide (fun W (h : Lw W) => text_v (-449) (-424) W h _ txt4)
  have C9 := hide (fun W => rel_any 1 5 4 9 W (by decide) (by decide))
  rw [show rel13 1 5 4 9 = 3 from by decide] at C9
  have C10 := hide (fun W => length_any (-449) (-424) W true (by decide))
  rw [if_pos rfl, show (-424 : Int) - -449 + 1 = 26 from rfl] at C10
  go_enter Tryd.func12, Tryd.ntmps12
  go_wp2_with fail
  refine (C1.out _ HT.out).mono ?_
  rintro e w1 ⟨rfl, hb⟩
  have B1 := hb
  clear hb
  go_wp2_with fail
  generalize hW1 : w1.alloc _ = W1
  obtain ⟨hb, b1⟩ := boxA hW1
  replace B1 := B1.trans (hb.mono B1.size)
  generalize w1.heap.size = g1 at *
  clear hW1 hb
  refine (C2.out _ (HT.out.below B1)).mono ?_
  rintro e w2 ⟨rfl, hb⟩
  replace b1 := b1.below' hb
  replace B1 := B1.trans (hb.mono B1.size)
  clear hb
  go_wp2_with fail
  generalize hW2 : w2.alloc _ = W2
  obtain ⟨hb, -⟩ := boxA hW2
  replace b1 := b1.below' hb
  replace B1 := B1.trans (hb.mono B1.size)
  clear hW2 hb
  refine (C3.out _).mono ?_
  rintro e w3 ⟨rfl, hb⟩
  replace b1 := b1.below' hb
  replace B1 := B1.trans (hb.mono B1.size)
  clear hb
  go_wp2_with fail
  generalize hW3 : w3.alloc _ = W3
  obtain ⟨hb, b3⟩ := boxA hW3
  replace b1 := b1.below' hb
  replace B1 := B1.trans (hb.mono B1.size)
  generalize w3.heap.size = g3 at *
  clear hW3 hb
  refine (C4.out _).mono ?_
  rintro e w4 ⟨rfl, hb⟩
  replace b1 := b1.below' hb
  replace b3 := b3.below' hb
  replace B1 := B1.trans (hb.mono B1.size)
  clear hb
  go_wp2_with fail
  generalize hW4 : w4.alloc _ = W4
  obtain ⟨hb, b4⟩ := boxA hW4
  replace b1 := b1.below' hb
  replace b3 := b3.below' hb
  replace B1 := B1.trans (hb.mono B1.size)
  generalize w4.heap.size = g4 at *
  clear hW4 hb
  refine (C5.out _).mono ?_
  rintro e w5 ⟨rfl, hb⟩
  replace b1 := b1.below' hb
  replace b3 := b3.below' hb
  replace b4 := b4.below' hb
  replace B1 := B1.trans (hb.mono B1.size)
  clear hb
  go_wp2_with fail
  generalize hW5 : w5.alloc _ = W5
  obtain ⟨hb, b5⟩ := boxA hW5
  have hs5 := hide (show W5.heap.size = w5.heap.size + 1 from by rw [← hW5]; simp)
  replace b1 := b1.below' hb
  replace b3 := b3.below' hb
  replace b4 := b4.below' hb
  replace B1 := B1.trans (hb.mono B1.size)
  generalize w5.heap.size = g5 at *
  clear hW5 hb
  go_wp2_with fail
  rw [← hs5.out]
  generalize hW6 : W5.alloc _ = W6
  obtain ⟨hb, -⟩ := boxA hW6
  have hy := lit3 hW6
  replace b1 := b1.below' hb
  replace b3 := b3.below' hb
  replace b4 := b4.below' hb
  replace b5 := b5.below' hb
  replace B1 := B1.trans (hb.mono B1.size)
  clear hW6 hb
  refine (cover_any _ _ _ _ _ hy (by simp [maxLen])).mono ?_
  rintro e w6 ⟨A, n, c, cov, er, rfl, hc, hn, hb, hr⟩
  obtain ⟨rfl, hcv⟩ : er = 0 ∧ cov = [(1, 6), (9, 9)] := by
    rcases hr with ⟨h, _⟩ | ⟨_, h, _⟩ | ⟨_, _, h, h2, _⟩
    · simp at h
    · exact absurd h (by decide)
    · exact ⟨h, cov1 h2⟩
  subst hcv
  have HC := hide hc
  have HN := hide hn
  replace b1 := b1.below' hb
  replace b3 := b3.below' hb
  replace b4 := b4.below' hb
  replace b5 := b5.below' hb
  replace B1 := B1.trans (hb.mono B1.size)
  have a1 : w6.cell? ⟨g1, 0, none⟩ = some (.int .i64 14) := b1.at_ 0
  have a2 : w6.cell? ⟨g1, 1, none⟩ = some (.int .i64 37) := b1.at_ 1
  have a3 : w6.cell? ⟨g3, 0, none⟩ = some (.int .i64 4) := b3.at_ 0
  have a4 : w6.cell? ⟨g3, 1, none⟩ = some (.int .i64 5) := b3.at_ 1
  have a5 : w6.cell? ⟨g4, 0, none⟩ = some (.int .i64 1) := b4.at_ 0
  have a6 : w6.cell? ⟨g4, 1, none⟩ = some (.int .i64 9) := b4.at_ 1
  have a7 : w6.cell? ⟨g5, 0, none⟩ = some (.int .i64 (-2)) := b5.at_ 0
  have a8 : w6.cell? ⟨g5, 1, none⟩ = some (.int .i64 5) := b5.at_ 1
  clear hb hc hn hr hy hs5 b1 b3 b4 b5
  go_wp2_with fail
  clear a1 a2 a3 a4 a5 a6 a7 a8
  generalize hW7 : w6.alloc _ = W7
  obtain ⟨hb, -⟩ := boxA hW7
  have HY := hide (lit2 hW7)
  have HC7 := hide (HC.out.keep hb)
  replace B1 := B1.trans (hb.mono B1.size)
  clear hW7 hb
  refine (lists_v _ _ _ _ _ _ _ _ _ HC7.out HY.out HN.out (by simp [maxLen]) true (by decide)).mono ?_
  rintro e w7 ⟨rfl, hb⟩
  replace B1 := B1.trans (hb.mono B1.size)
  clear hb
  go_wp2_with fail
  refine (C7.out _ (HT.out.below B1)).mono ?_
  rintro e w8 ⟨rfl, hb⟩
  replace B1 := B1.trans (hb.mono B1.size)
  clear hb
  go_wp2_with fail
  refine (C8.out _ (HT.out.below B1)).mono ?_
  rintro e w9 ⟨rfl, hb⟩
  replace B1 := B1.trans (hb.mono B1.size)
  clear hb
  go_wp2_with fail
  refine (C9.out _).mono ?_
  rintro e w10 ⟨rfl, hb⟩
  replace B1 := B1.trans (hb.mono B1.size)
  clear hb
  go_wp2_with fail
  refine (C10.out _).mono ?_
  rintro e w11 ⟨rfl, hb⟩
  replace B1 := B1.trans (hb.mono B1.size)
  clear hb
  go_wp2_with fail
  go_ret
  exact ⟨rfl, B1⟩
end Go.Proofs.YtihadabaehcmiaaDoor
