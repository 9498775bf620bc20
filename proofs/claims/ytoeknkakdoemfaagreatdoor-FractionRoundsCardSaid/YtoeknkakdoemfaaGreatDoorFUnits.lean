/- The contract of fraction.unitsOfOne. -/
import Derived.Test.YtoeknkakdoemfaaGreatDoorBaseE
import Derived.Test.YtoeknkakdoemfaaGreatDoorPow
import Derived.Deep.RegionHeld3
namespace Go.Proofs.YtoeknkakdoemfaaGreatDoor
open Go Go.RowKit

theorem nd_ten : nd 10 = 2 := by
  unfold nd
  rw [if_neg (by decide), dig_pos 10 (by decide) 10 (by decide)]
  show (0 :: dig 10 1).length = 2
  rw [dig_small 10 (by decide) 1 (by decide) (by decide)]
  rfl
set_option maxHeartbeats 1000000 in
theorem units_any (k : Nat) (hk : k ≤ 200) (w : World) (T : Nat) (hT : 10 ^ k = T) :
    Calls Tryz.prog 50 #[.int .i64 (k : Int)] w (GivesN T w) := by
  have HT := hide hT
  clear hT
  obtain ⟨K, hK⟩ : ∃ K, K = 4000 := ⟨_, rfl⟩
  go_enter Tryz.func50, Tryz.ntmps50
  go_wp2_with fail
  generalize hW : w.alloc _ = W
  obtain ⟨hbW, b0, -⟩ := boxes1 hW
  clear hW
  refine (of_any 10 _ (by omega)).mono ?_
  rintro e w1 ⟨A1, n1, c1, rfl, h1, hn1, hc1, hb1⟩
  have hbA := hbW.trans (hb1.mono hbW.size)
  have b0 := b0.below' hb1
  have hl1 : n1 ≤ 1 := len_le h1.len (by decide)
  clear hb1 hbW
  go_wp2_with fail
  refine (pow_ok A1 n1 c1 _ k _ h1 hn1 hc1 (by omega) (dig_u32 10) (by omega) (by rw [vd, nd_ten]; omega) T (by rw [vd]; exact HT.out) K hK (fun _ => by rw [vd]; exact Nat.le_self_pow (by omega) 10)).mono ?_
  rintro e w2 ⟨A2, n2, c2, rfl, h2, hn2, hc2, hb2⟩
  have hbA := hbA.trans (hb2.mono hbA.size)
  have b0 := b0.below' hb2
  have g0 := b0.cell
  have f0 := b0.frozen 0
  have lt0 := b0.lt
  clear hb2 h1
  go_wp2_with fail
  have r3 := h2.put (i := 0) b0 (.slice A2 n2 c2)
  have b3 := b0.put (.slice A2 n2 c2)
  have hbZ : Below w.heap.size w (w2.setCell ⟨w.heap.size, 0, none⟩ (.slice A2 n2 c2)) := hbA.setCell (Nat.le_refl _) _
  clear g0 f0
  generalize w2.setCell (⟨w.heap.size, 0, none⟩ : Addr) (.slice A2 n2 c2) = W3 at *
  have D : Below W3.heap.size W3 (W3.alloc (.cells #[.slice A2 n2 c2] 24)) := (Below.refl _ _).alloc (Nat.le_refl _) _
  have k0 := (b3.below' D).cell
  refine bodyPost_ret (v := .agg #[.slice A2 n2 c2]) (by simp [results, Tryz.results50, go_sem, k0]) rfl ?_
  exact ⟨A2, n2, c2, rfl, r3.below D, hn2, hc2, hbZ.trans (D.mono hbZ.size)⟩
end Go.Proofs.YtoeknkakdoemfaaGreatDoor
