/- The contract of fraction.product. -/
import Derived.Test.YtoeknkakdoemfaaGreatDoorBaseE
import Derived.Deep.RegionHeld3
namespace Go.Proofs.YtoeknkakdoemfaaGreatDoor
open Go Go.RowKit

theorem mulL {L u v : Nat} (hu : u < B9 ^ (L + 1)) (hv : v < B9 ^ (L + 1)) : u * v < B9 ^ (2 * L + 2) := by
  have := mulB hu hv
  rw [show L + 1 + (L + 1) = 2 * L + 2 by omega] at this
  exact this
set_option maxHeartbeats 1000000 in
theorem fproduct_any (L : Nat) (hL : L ≤ 20000) (p : Bool) (A : Option Addr) (n c u : Nat) (B : Option Addr) (m d v : Nat) (p' : Bool) (A' : Option Addr) (n' c' u' : Nat) (B' : Option Addr) (m' d' v' : Nat) (w : World)
    (hA : Nt w L A n c u) (hB : Nt w L B m d v) (hA' : Nt w L A' n' c' u') (hB' : Nt w L B' m' d' v') :
    Calls Tryz.prog 62 #[.agg #[.bool p, .slice A n c, .slice B m d], .agg #[.bool p', .slice A' n' c', .slice B' m' d']] w (GivesQ (2 * L + 2) (p != p') (u * u') (v * v') w) := by
  have hU := hide (mulL hA.lt hA'.lt)
  have hV := hide (mulL hB.lt hB'.lt)
  obtain ⟨x, hx⟩ : ∃ x, u * u' = x := ⟨_, rfl⟩
  obtain ⟨y, hy⟩ : ∃ y, v * v' = y := ⟨_, rfl⟩
  rw [hx, hy]
  rw [hx] at hU
  rw [hy] at hV
  have HX := hide hx
  have HY := hide hy
  clear hx hy
  go_enter Tryz.func62, Tryz.ntmps62
  go_wp2_with fail
  generalize hW : ((w.alloc _).alloc _).alloc _ = W
  obtain ⟨hbW, b0, b1, bR, -⟩ := boxesA3 hW
  clear hW
  have hA := hA.below hbW
  have hB := hB.below hbW
  have hA' := hA'.below hbW
  have hB' := hB'.below hbW
  have lt0 := b0.lt
  have lt1 := b1.lt
  have ltR := bR.lt
  have P0 : Below W.heap.size W W.drew := (Below.refl _ _).drew
  have KS : Hid (∀ w', Below W.heap.size W w' → w'.cell? ⟨w.heap.size, 0, none⟩ = some (.bool p) ∧ w'.cell? ⟨w.heap.size, 1, none⟩ = some (.slice A n c) ∧ w'.cell? ⟨w.heap.size, 2, none⟩ = some (.slice B m d) ∧ w'.cell? ⟨w.heap.size + 1, 0, none⟩ = some (.bool p') ∧ w'.cell? ⟨w.heap.size + 1, 1, none⟩ = some (.slice A' n' c') ∧ w'.cell? ⟨w.heap.size + 1, 2, none⟩ = some (.slice B' m' d')) := fun w' h =>
    ⟨(b0.below h lt0).at_ 0, (b0.below h lt0).at_ 1, (b0.below h lt0).at_ 2, (b1.below h lt1).at_ 0, (b1.below h lt1).at_ 1, (b1.below h lt1).at_ 2⟩
  have KB : Hid (∀ w', Below W.heap.size W w' → Box w' (w.heap.size + 1 + 1) #[.bool false, .slice none 0 0, .slice none 0 0] 26) := fun w' h => bR.below h ltR
  have HF : Hid (∀ w', Box w' (w.heap.size + 1 + 1) #[.bool false, .slice none 0 0, .slice none 0 0] 26 → w'.cell? ⟨w.heap.size + 1 + 1, 0, none⟩ = some (.bool false) ∧ w'.cell? ⟨w.heap.size + 1 + 1, 1, none⟩ = some (.slice none 0 0) ∧ w'.cell? ⟨w.heap.size + 1 + 1, 2, none⟩ = some (.slice none 0 0) ∧ w'.frozen? ⟨w.heap.size + 1 + 1, 0, none⟩ = false ∧ w'.frozen? ⟨w.heap.size + 1 + 1, 1, none⟩ = false ∧ w'.frozen? ⟨w.heap.size + 1 + 1, 2, none⟩ = false) :=
    fun w' h => ⟨h.at_ 0, h.at_ 1, h.at_ 2, h.frozen 0, h.frozen 1, h.frozen 2⟩
  have ST : Hid (∀ w' (x y z : Value), Below W.heap.size W w' → (fun w' => w'.cell? ⟨w.heap.size, 0, none⟩ = some (.bool p) ∧ w'.cell? ⟨w.heap.size, 1, none⟩ = some (.slice A n c) ∧ w'.cell? ⟨w.heap.size, 2, none⟩ = some (.slice B m d) ∧ w'.cell? ⟨w.heap.size + 1, 0, none⟩ = some (.bool p') ∧ w'.cell? ⟨w.heap.size + 1, 1, none⟩ = some (.slice A' n' c') ∧ w'.cell? ⟨w.heap.size + 1, 2, none⟩ = some (.slice B' m' d')) (((w'.setCell ⟨w.heap.size + 1 + 1, 0, none⟩ x).setCell ⟨w.heap.size + 1 + 1, 1, none⟩ y).setCell ⟨w.heap.size + 1 + 1, 2, none⟩ z)) := fun w' x y z h => by
    obtain ⟨q0, q1, q2, q3, q4, q5⟩ := KS.out w' h
    refine ⟨?_, ?_, ?_, ?_, ?_, ?_⟩
    · rw [cell_far _ _ _ _ (by simp; omega), cell_far _ _ _ _ (by simp; omega), cell_far _ _ _ _ (by simp; omega)]; exact q0
    · rw [cell_far _ _ _ _ (by simp; omega), cell_far _ _ _ _ (by simp; omega), cell_far _ _ _ _ (by simp; omega)]; exact q1
    · rw [cell_far _ _ _ _ (by simp; omega), cell_far _ _ _ _ (by simp; omega), cell_far _ _ _ _ (by simp; omega)]; exact q2
    · rw [cell_far _ _ _ _ (by simp), cell_far _ _ _ _ (by simp), cell_far _ _ _ _ (by simp)]; exact q3
    · rw [cell_far _ _ _ _ (by simp), cell_far _ _ _ _ (by simp), cell_far _ _ _ _ (by simp)]; exact q4
    · rw [cell_far _ _ _ _ (by simp), cell_far _ _ _ _ (by simp), cell_far _ _ _ _ (by simp)]; exact q5
  clear b0 b1 lt0 lt1
  go_region_held3 (fun w' => w'.cell? ⟨w.heap.size, 0, none⟩ = some (.bool p) ∧ w'.cell? ⟨w.heap.size, 1, none⟩ = some (.slice A n c) ∧ w'.cell? ⟨w.heap.size, 2, none⟩ = some (.slice B m d) ∧ w'.cell? ⟨w.heap.size + 1, 0, none⟩ = some (.bool p') ∧ w'.cell? ⟨w.heap.size + 1, 1, none⟩ = some (.slice A' n' c') ∧ w'.cell? ⟨w.heap.size + 1, 2, none⟩ = some (.slice B' m' d'))
    (first | exact KS.out _ E8 | exact KS.out _ E7 | exact ST.out _ _ _ _ E8 | exact ST.out _ _ _ _ E7 | exact KS.out _ (Below.refl _ _) | exact KS.out _ P0)
    (first | (go_at_call_of 52 (Value.slice A n c); (with_reducible refine (mul_n (hA.below P0) (hA'.below P0) (by omega) x HX.out).mono ?_); rintro e w7 ⟨A7, n7, c7, rfl, r7, l7, m7, hxw7⟩; have E7 := (P0).trans (hxw7.mono (P0).size); have h7 : Cn w7 A7 n7 c7 x := ⟨r7, l7, m7⟩; clear r7 l7 m7) | (go_at_call_of 52 (Value.slice B m d); (with_reducible refine (mul_n (hB.below E7) (hB'.below E7) (by omega) y HY.out).mono ?_); rintro e w8 ⟨A8, n8, c8, rfl, r8, l8, m8, hxw8⟩; have E8 := (E7).trans (hxw8.mono (E7).size); have h8 : Cn w8 A8 n8 c8 y := ⟨r8, l8, m8⟩; clear r8 l8 m8; obtain ⟨g0, g1, g2, f0, f1, f2⟩ := HF.out _ (KB.out _ E8)))
  clear g0 g1 g2 f0 f1 f2
  have X10 := KB.out _ E8
  have hbZ := hbW.trans (E8.mono hbW.size)
  generalize hW10 : ((w8.setCell _ _).setCell _ _).setCell _ _ = W10
  obtain ⟨b10, N10, C10, B10, -⟩ := put3 X10 hW10
  clear hW10
  have k0 : W10.cell? ⟨w.heap.size + 1 + 1, 0, none⟩ = some (.bool (p != p')) := b10.at_ 0
  have k1 : W10.cell? ⟨w.heap.size + 1 + 1, 1, none⟩ = some (.slice A7 n7 c7) := b10.at_ 1
  have k2 : W10.cell? ⟨w.heap.size + 1 + 1, 2, none⟩ = some (.slice A8 n8 c8) := b10.at_ 2
  go_wp2
  refine bodyPost_ret (v := .agg #[.bool (p != p'), .slice A7 n7 c7, .slice A8 n8 c8]) (by simp [results, Tryz.results62, go_sem, k0, k1, k2]) rfl ?_
  exact ⟨A7, n7, c7, A8, n8, c8, rfl, (C10 _ _ _ _ (h7.below hxw8)).nt hU.out, (C10 _ _ _ _ h8).nt hV.out, B10 _ _ hbZ (by omega)⟩
end Go.Proofs.YtoeknkakdoemfaaGreatDoor
