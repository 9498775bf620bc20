/- awake. -/
import Derived.Test.YtdoknlodnpeeoaaDoorLExp
namespace Go.Proofs.YtdoknlodnpeeoaaDoor
open Go Go.RowKit Go.Lib

def runW : List Int := [1, 2, 3, 4, 7, 9, 10]
theorem runW_T : runT runW = ⟨#[49, 45, 52, 44, 32, 55, 44, 32, 57, 45, 49, 48]⟩ := by decide +kernel
theorem runW_E : runE runW = 0 := by decide +kernel
theorem expW_1 : expR (⟨#[53, 45, 54]⟩ : ByteArray).data.toList = ([5, 6], 0) := by decide +kernel
theorem expW_2 : expR (⟨#[53, 44, 32, 54]⟩ : ByteArray).data.toList = ([], 3) := by decide +kernel
theorem parW_1 : parR (⟨#[82, 48, 55]⟩ : ByteArray).data.toList = (0, 0, 0, 3) := by decide +kernel
theorem parW_2 : parR (⟨#[82, 55, 99]⟩ : ByteArray).data.toList = (1, 7, 3, 0) := by decide +kernel
theorem pairW : labT 0 12 1 ++ ⟨#[47]⟩ ++ labT 1 7 0 = ⟨#[79, 49, 50, 97, 47, 82, 55]⟩ := by decide +kernel
theorem labW : labT 1 7 3 = ⟨#[82, 55, 99]⟩ := by decide +kernel
theorem cmpW : cL 0 12 0 1 2 0 = -1 := by decide +kernel
theorem pbW : pB 0 12 1 1 7 0 := ⟨by decide +kernel, by decide +kernel, rfl, rfl⟩
theorem il_runW {w : World} {g : Nat} {t : TypeId} (hg : Box w g #[.int .i64 1, .int .i64 2, .int .i64 3, .int .i64 4, .int .i64 7, .int .i64 9, .int .i64 10] t) : IL w (some ⟨g, 0, none⟩) 7 runW := by
  refine ⟨rfl, fun _ => ⟨g, 0, rfl, fun j x hx => ?_⟩⟩
  rw [Nat.zero_add, hg.at_]
  unfold runW at hx
  match j, hx with
  | 0, hx => simp at hx; subst hx; rfl
  | 1, hx => simp at hx; subst hx; rfl
  | 2, hx => simp at hx; subst hx; rfl
  | 3, hx => simp at hx; subst hx; rfl
  | 4, hx => simp at hx; subst hx; rfl
  | 5, hx => simp at hx; subst hx; rfl
  | 6, hx => simp at hx; subst hx; rfl
theorem il_two {w : World} {g : Nat} {t : TypeId} {a b : Int} (hg : Box w g #[.int .i64 a, .int .i64 b] t) : IL w (some ⟨g, 0, none⟩) 2 [a, b] := by
  refine ⟨rfl, fun _ => ⟨g, 0, rfl, fun j x hx => ?_⟩⟩
  rw [Nat.zero_add, hg.at_]
  match j, hx with
  | 0, hx => simp at hx; subst hx; rfl
  | 1, hx => simp at hx; subst hx; rfl
set_option maxRecDepth 100000 in
set_option maxHeartbeats 8000000 in
theorem awake_yes (w : World) (hT : Lw w) : Calls Tryd.prog 11 #[] w fun e w' => e = .returned (.bool true) ∧ Below w.heap.size w w' := by
  have HT := hide hT
  clear hT
  go_enter Tryd.func11, Tryd.ntmps11
  go_wp2_with fail
  generalize hW : w.alloc _ = W
  obtain ⟨B, bx, -⟩ := boxC hW
  clear hW
  refine (runs_all _ 7 7 runW _ (il_runW bx) (by omega) (by unfold maxLen; omega) (HT.out.below B) _ _ runW_T runW_E).mono ?_
  rintro e w1 ⟨rfl, hb⟩
  have B := B.trans (hb.mono B.size)
  clear hb bx
  go_wp2_with fail
  refine (expand_any ⟨#[53, 45, 54]⟩ _ (HT.out.below B) (by decide) _ _ expW_1).mono ?_
  rintro e w2 ⟨⟨A2, c2, rfl, r2, -, -⟩, hb⟩
  have B := B.trans (hb.mono B.size)
  clear hb
  go_wp2_with fail
  refine (parse_any ⟨#[82, 48, 55]⟩ _ (HT.out.below B) (by decide) _ _ _ _ parW_1).mono ?_
  rintro e w3 ⟨rfl, hb⟩
  have B := B.trans (hb.mono B.size)
  have r2 := r2.below hb
  clear hb
  go_wp2_with fail
  generalize hW : w3.alloc _ = W3
  obtain ⟨hb, -, -⟩ := boxC hW
  have B := B.trans (hb.mono B.size)
  have r2 := r2.below hb
  clear hW hb
  refine (expand_any ⟨#[53, 44, 32, 54]⟩ _ (HT.out.below B) (by decide) _ _ expW_2).mono ?_
  rintro e w4 ⟨⟨A4, c4, rfl, -, -, -⟩, hb⟩
  have B := B.trans (hb.mono B.size)
  have r2 := r2.below hb
  clear hb
  go_wp2_with fail
  refine (pair_any 0 12 1 1 7 0 _ (HT.out.below B)).mono ?_
  rintro e w5 ⟨S, r, rfl, hS, hb⟩
  obtain ⟨rfl, rfl⟩ : (⟨#[79, 49, 50, 97, 47, 82, 55]⟩ : ByteArray) = S ∧ (0 : Int) = r := by
    rcases hS with ⟨_, h1, h2⟩ | ⟨h, _⟩
    · exact ⟨(h1.trans pairW).symm, h2.symm⟩
    · exact (h pbW).elim
  have B := B.trans (hb.mono B.size)
  have r2 := r2.below hb
  clear hb hS
  go_wp2_with fail
  refine (parse_any ⟨#[82, 55, 99]⟩ _ (HT.out.below B) (by decide) _ _ _ _ parW_2).mono ?_
  rintro e w6 ⟨rfl, hb⟩
  have B := B.trans (hb.mono B.size)
  have r2 := r2.below hb
  clear hb
  go_wp2_with fail
  generalize hW : (w6.alloc _).alloc _ = W7
  obtain ⟨hb, b6, b7⟩ := boxD hW
  have B := B.trans (hb.mono B.size)
  have r2 := r2.below hb
  clear hW hb
  refine (ints_same A2 2 c2 [5, 6] _ 2 _ (rl_il r2) (il_two b7) (by omega)).mono ?_
  rintro e w8 ⟨rfl, hb⟩
  have B := B.trans (hb.mono B.size)
  have b6 := b6.below' hb
  clear hb b7
  have l6 := b6.lt
  have z0 : w8.cell? ⟨w6.heap.size, 0, none⟩ = some (.int .i64 1) := b6.at_ 0
  have z1 : w8.cell? ⟨w6.heap.size, 1, none⟩ = some (.int .i64 7) := b6.at_ 1
  have z2 : w8.cell? ⟨w6.heap.size, 2, none⟩ = some (.int .i64 3) := b6.at_ 2
  go_wp2_with fail
  refine (text_any 1 7 3 _ (HT.out.below B) _ labW).mono ?_
  rintro e w9 ⟨rfl, hb⟩
  have B := B.trans (hb.mono B.size)
  clear hb z0 z1 z2
  go_wp2_with fail
  refine (compare_any 0 12 0 1 2 0 _ _ cmpW).mono ?_
  rintro e w10 ⟨rfl, hb⟩
  have B := B.trans (hb.mono B.size)
  go_wp2_with fail
  go_ret
  exact ⟨rfl, B⟩
end Go.Proofs.YtdoknlodnpeeoaaDoor
