/- The contracts of counting.choose, Binomial. -/
import Derived.Test.YtjmiaodjapclbaaDoorCProd
namespace Go.Proofs.YtjmiaodjapclbaaDoor
open Go Go.RowKit

/-- the number of sets, for any int -/
def choI (n : Nat) (k : Int) : Nat := if 0 ≤ k ∧ k ≤ n then cho n k.toNat else 0
theorem GivesDM.fst' {a b : Nat} {er : Int} {w w' : World} {e : Ending} (h : GivesDM a b er w e w') :
    ∃ A n c B m d, e = .returned (.tuple #[.agg #[.slice A n c], .agg #[.slice B m d], .int .i64 er]) ∧ Cn w' A n c a ∧ Below w.heap.size w w' := by
  obtain ⟨A, n, c, B, m, d, h1, h2, -, h3⟩ := h.cn
  exact ⟨A, n, c, B, m, d, h1, h2, h3⟩
set_option maxHeartbeats 1000000 in
theorem choose_any (n : Nat) (k : Int) (hn : n ≤ 300) (w : World) (T : Nat) (hT : choI n k = T) : Calls Tryd.prog 44 #[.int .i64 (n : Int), .int .i64 k] w (GivesN T w) := by
  by_cases hk : 0 ≤ k ∧ k ≤ n
  · obtain ⟨j, rfl⟩ : ∃ j : Nat, k = (j : Int) := ⟨k.toNat, by omega⟩
    have hjn : j ≤ n := by omega
    obtain ⟨i, hi⟩ : ∃ i, min j (n - j) = i := ⟨_, rfl⟩
    have hin : i ≤ n := by omega
    have hci : cho n i = T := by
      rw [← hT]
      unfold choI
      rw [if_pos hk, Int.toNat_natCast]
      rcases Nat.le_total j (n - j) with h | h
      · rw [← hi, Nat.min_eq_left h]
      · rw [← hi, Nat.min_eq_right h, cho_sym hjn]
    have HQ := hide ((cho_quo hin).trans hci)
    have H0 := hide (Nat.ne_of_gt (prodf_pos 1 i (by omega)))
    have hmin : min (j : Int) ((n : Int) - (j : Int)) = (i : Int) := by omega
    have hlo : (n : Int) - (i : Int) + 1 = ((n - i + 1 : Nat) : Int) := by omega
    obtain ⟨lo, hl⟩ : ∃ lo, n - i + 1 = lo := ⟨_, rfl⟩
    rw [hl] at hlo HQ
    have HL := hide (show 1 ≤ lo ∧ lo + i = n + 1 ∧ i ≤ 300 from by omega)
    have HJ := hide hk
    clear hl hi hin hci hT hk
    obtain ⟨M, hM⟩ : ∃ M, M = 402 := ⟨_, rfl⟩
    have HA := hide (show prodf lo i < B9 ^ M from upB (prodf_lt lo i (by have := HL.out; omega)) (by have := HL.out; omega))
    have HB := hide (show prodf 1 i < B9 ^ M from upB (prodf_lt 1 i (by have := HL.out; omega)) (by have := HL.out; omega))
    go_enter Tryd.func44, Tryd.ntmps44
    go_wp2_with fail
    generalize hW : w.alloc _ = W
    obtain ⟨hbW, bR, -⟩ := boxesA1 hW
    clear hW
    refine (within_any j n _ true ⟨fun _ => rfl, fun _ => HJ.out⟩).mono ?_
    rintro e w1 ⟨rfl, rfl⟩
    go_wp2_with fail
    refine (cprod_any lo i HL.out.1 (by have := HL.out; omega) n (by have := HL.out; omega) _ _ rfl).mono fun e w2 h => ?_
    obtain ⟨A2, n2, c2, rfl, h2, hb2⟩ := GivesN.cn h
    clear h
    have hbA := hbW.trans (hb2.mono hbW.size)
    have bR := bR.below' hb2
    clear hb2
    go_wp2_with fail
    refine (cprod_any 1 i (by omega) (by have := HL.out; omega) i (by omega) _ _ rfl).mono fun e w3 h => ?_
    obtain ⟨A3, n3, c3, rfl, h3, hb3⟩ := GivesN.cn h
    clear h
    have hbA := hbA.trans (hb3.mono hbA.size)
    have bR := bR.below' hb3
    have h2 := h2.below hb3
    clear hb3
    go_wp2_with fail
    refine (div_n (L := M) (h2.nt HA.out) (h3.nt HB.out) (by omega) H0.out T _ HQ.out rfl).mono fun e w4 h => ?_
    obtain ⟨A4, n4, c4, A5, n5, c5, rfl, h4, hb4⟩ := h.fst'
    clear h
    have hbA := hbA.trans (hb4.mono hbA.size)
    have bR := bR.below' hb4
    clear hb4 h2 h3
    have g0 := bR.cell
    have f0 := bR.frozen 0
    have ltR := bR.lt
    go_wp2_with fail
    have h4 := h4.far (i := 0) bR noInt1 (.slice A4 n4 c4)
    have b3 := bR.put (.slice A4 n4 c4)
    have hbZ : Below w.heap.size w (w4.setCell ⟨w.heap.size, 0, none⟩ (.slice A4 n4 c4)) := hbA.setCell (Nat.le_refl _) _
    clear g0 f0
    generalize w4.setCell (⟨w.heap.size, 0, none⟩ : Addr) (.slice A4 n4 c4) = W5 at *
    have D : Below W5.heap.size W5 ((W5.alloc (.cells #[.slice A4 n4 c4] 25)).alloc (.cells #[.slice A5 n5 c5] 25)) := ((Below.refl _ _).alloc (Nat.le_refl _) _).alloc (by simp) _
    have b4 := b3.below' D
    have h4 := h4.below D
    generalize (W5.alloc _).alloc _ = W6 at *
    have k0 := b4.cell
    refine bodyPost_ret (v := .agg #[.slice A4 n4 c4]) (by simp [results, Tryd.results44, go_sem, k0]) rfl ?_
    exact ⟨A4, n4, c4, rfl, h4.1, h4.2.1, h4.2.2, hbZ.trans (D.mono hbZ.size)⟩
  · have hT0 : T = 0 := by rw [← hT]; unfold choI; rw [if_neg hk]
    subst hT0
    have HJ := hide hk
    clear hk hT
    go_enter Tryd.func44, Tryd.ntmps44
    go_wp2_with fail
    generalize hW : w.alloc _ = W
    obtain ⟨hbW, bR, -⟩ := boxesA1 hW
    clear hW
    refine (within_any k n _ false ⟨fun h => absurd h HJ.out, fun h => by cases h⟩).mono ?_
    rintro e w1 ⟨rfl, rfl⟩
    go_wp2_with fail
    refine (of_zero _).mono fun e w3 h => ?_
    obtain ⟨A2, n2, c2, rfl, h2, hb2⟩ := GivesN.cn h
    clear h
    have hbA := hbW.trans (hb2.mono hbW.size)
    have bR := bR.below' hb2
    have g0 := bR.cell
    have f0 := bR.frozen 0
    have h3 := h2.far (i := 0) bR noInt1 (.slice A2 n2 c2)
    have b3 := bR.put (.slice A2 n2 c2)
    go_wp2_with fail
    have k0 := b3.cell
    refine bodyPost_ret (v := .agg #[.slice A2 n2 c2]) (by simp [results, Tryd.results44, go_sem, k0]) rfl ?_
    exact ⟨A2, n2, c2, rfl, h3.1, h3.2.1, h3.2.2, hbA.setCell (Nat.le_refl _) _⟩
theorem cbin_err (i k : Int) (w : World) (h : ¬(0 ≤ i ∧ i ≤ 300)) : Calls Tryd.prog 18 #[.int .i64 i, .int .i64 k] w (GivesNE 0 2 w) := by
  have H := hide h
  clear h
  go_enter Tryd.func18, Tryd.ntmps18
  go_wp2_with fail
  generalize hW : w.alloc _ = W
  obtain ⟨hbW, bR, -⟩ := boxesA1 hW
  clear hW
  refine (within_any i 300 _ false ⟨fun h => absurd h H.out, fun h => by cases h⟩).mono ?_
  rintro e w1 ⟨rfl, rfl⟩
  have g0 := bR.cell
  have f0 := bR.frozen 0
  have b3 := bR.put (.slice none 0 0)
  go_wp2_with fail
  have k0 := b3.cell
  refine bodyPost_ret (v := .tuple #[.agg #[.slice none 0 0], .int .i64 2]) (by simp [results, Tryd.results18, go_sem, k0]) rfl ?_
  exact ⟨none, 0, 0, rfl, RL.nil_, by omega, by simp [maxLen], hbW.setCell (Nat.le_refl _) _⟩
theorem cbin_ok (n : Nat) (k : Int) (hn : n ≤ 300) (w : World) (T : Nat) (hT : choI n k = T) : Calls Tryd.prog 18 #[.int .i64 (n : Int), .int .i64 k] w (GivesNE T 0 w) := by
  have HT := hide hT
  clear hT
  go_enter Tryd.func18, Tryd.ntmps18
  go_wp2_with fail
  generalize hW : w.alloc _ = W
  obtain ⟨hbW, bR, -⟩ := boxesA1 hW
  clear hW
  refine (within_any n 300 _ true ⟨fun _ => rfl, fun _ => ⟨by omega, by omega⟩⟩).mono ?_
  rintro e w1 ⟨rfl, rfl⟩
  go_wp2_with fail
  refine (choose_any n k hn _ T HT.out).mono fun e w2 h => ?_
  obtain ⟨A2, n2, c2, rfl, h2, hb2⟩ := GivesN.cn h
  clear h
  have hbA := hbW.trans (hb2.mono hbW.size)
  have bR := bR.below' hb2
  have g0 := bR.cell
  have f0 := bR.frozen 0
  have h3 := h2.far (i := 0) bR noInt1 (.slice A2 n2 c2)
  have b3 := bR.put (.slice A2 n2 c2)
  go_wp2_with fail
  have k0 := b3.cell
  refine bodyPost_ret (v := .tuple #[.agg #[.slice A2 n2 c2], .int .i64 0]) (by simp [results, Tryd.results18, go_sem, k0]) rfl ?_
  exact ⟨A2, n2, c2, rfl, h3.1, h3.2.1, h3.2.2, hbA.setCell (Nat.le_refl _) _⟩
theorem later_any (n need number : Nat) (hn : n ≤ 64) (hv : number < n) (w : World) (T : Nat) (hT : cho (n - 1 - number) need = T) : Calls Tryd.prog 51 #[.int .i64 (n : Int), .int .i64 (need : Int), .int .i64 (number : Int)] w (GivesN T w) := by
  have HT := hide (show choI (n - 1 - number) (need : Int) = T from by
    unfold choI
    split
    · rw [Int.toNat_natCast]; exact hT
    · rw [← hT, cho_zero (by omega)])
  have hi : (n : Int) - 1 - (number : Int) = ((n - 1 - number : Nat) : Int) := by omega
  obtain ⟨m, hm⟩ : ∃ m, n - 1 - number = m := ⟨_, rfl⟩
  rw [hm] at hi HT
  have HM := hide (show m ≤ 300 from by omega)
  clear hT hm
  go_enter Tryd.func51, Tryd.ntmps51
  go_wp2_with fail
  generalize hW : w.alloc _ = W
  obtain ⟨hbW, bR, -⟩ := boxesA1 hW
  clear hW
  refine (choose_any m need HM.out _ T HT.out).mono fun e w2 h => ?_
  obtain ⟨A2, n2, c2, rfl, h2, hb2⟩ := GivesN.cn h
  clear h
  have hbA := hbW.trans (hb2.mono hbW.size)
  have bR := bR.below' hb2
  have g0 := bR.cell
  have f0 := bR.frozen 0
  have h3 := h2.far (i := 0) bR noInt1 (.slice A2 n2 c2)
  have b3 := bR.put (.slice A2 n2 c2)
  go_wp2_with fail
  have k0 := b3.cell
  refine bodyPost_ret (v := .agg #[.slice A2 n2 c2]) (by simp [results, Tryd.results51, go_sem, k0]) rfl ?_
  exact ⟨A2, n2, c2, rfl, h3.1, h3.2.1, h3.2.2, hbA.setCell (Nat.le_refl _) _⟩
end Go.Proofs.YtjmiaodjapclbaaDoor
