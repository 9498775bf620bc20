/- The contract of the reference's Of. -/
import Derived.Test.YtdoknlodnpeeoaaDoorYRNorm
namespace Go.Proofs.YtdoknlodnpeeoaaDoor
open Go Go.RowKit

theorem three_e {w W : World} {k : IntKind} {t : TypeId} {i j l : Int} (hW : w.alloc (.cells #[.int k i, .int k j, .int k l] t) = W) (x y z : Nat) (hi : i = (x : Int)) (hj : j = (y : Int)) (hl : l = (z : Int)) :
    Below w.heap.size w W ∧ RL W k (some ⟨w.heap.size, 0, none⟩) 3 [x, y, z] := by
  subst hW; subst hi; subst hj; subst hl
  exact ⟨(Below.refl _ _).alloc (Nat.le_refl _) _, Own.rl (t := t) (Own.new w k t [x, y, z]) rfl⟩
theorem of3 (n : Nat) : val B9 [n % 1000000000, n / 1000000000 % 1000000000, n / 1000000000 / 1000000000] = n := by
  show n % 1000000000 + 1000000000 * (n / 1000000000 % 1000000000 + 1000000000 * (n / 1000000000 / 1000000000 + 1000000000 * 0)) = n
  omega

set_option maxHeartbeats 1000000 in
theorem rof_any (n : Nat) (w : World) (hn : n < 18446744073709551616) :
    Calls Tryd.prog 52 #[.int .u64 (n : Int)] w (GivesN n w) := by
  have HV := hide (of3 n)
  have HB : Hid (∀ x ∈ [n % 1000000000, n / 1000000000 % 1000000000, n / 1000000000 / 1000000000], x < 4294967296) := by
    intro x hx
    simp at hx
    omega
  go_enter Tryd.func52, Tryd.ntmps52
  go_wp2_with fail
  generalize hW : (w.alloc _) = W
  obtain ⟨hbW, b0, hz⟩ := boxes1 hW
  clear hW
  generalize hW : (W.alloc _) = W2
  obtain ⟨hb2, hl⟩ := three_e hW (n % 1000000000) (n / 1000000000 % 1000000000) (n / 1000000000 / 1000000000) (by omega) (by omega) (by omega)
  clear hW
  rw [hz] at hl
  refine (rnorm_any _ 3 3 _ _ hl (by omega) (by simp [maxLen]) (by omega) HB.out n HV.out).mono ?_
  rintro e w1 ⟨A1, n1, c1, rfl, r1, hn1, hc1, hb1⟩
  have hb3 := hb2.trans (hb1.mono hb2.size)
  have b1 := b0.below' hb3
  have k1 := b1.cell
  have f1 := b1.frozen 0
  go_wp2
  refine bodyPost_ret (v := .agg #[.slice A1 n1 c1]) (by simp [results, Tryd.results52, go_sem, k1]) rfl ?_
  exact fin_struct hbW hb3 (Nat.le_refl _) b0 r1 hn1 hc1
end Go.Proofs.YtdoknlodnpeeoaaDoor
