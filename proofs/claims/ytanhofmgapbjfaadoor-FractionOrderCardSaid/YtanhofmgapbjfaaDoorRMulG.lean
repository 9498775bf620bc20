/- The reference's Mul and Of in the shape that its callers ask for. -/
import Derived.Test.YtanhofmgapbjfaaDoorRMul
import Derived.Test.YtanhofmgapbjfaaDoorROf
import Derived.Test.YtanhofmgapbjfaaDoorSimple
namespace Go.Proofs.YtanhofmgapbjfaaDoor
open Go Go.RowKit

theorem fin_boxE {w W : World} {g : Nat} {S A : Option Addr} {m d n c u : Nat} {t : TypeId} {er : Int} (hb : Below w.heap.size w W) (b : Box W g #[.slice S m d] t) (hg : w.heap.size ≤ g) (hr : RL W .u32 A n (dig B9 u)) (hn : n ≤ c) (hc : c ≤ maxLen) :
    GivesNE u er w (.returned (.tuple #[.agg #[.slice A n c], .int .i64 er])) (W.setCell ⟨g, 0, none⟩ (.slice A n c)) :=
  ⟨A, n, c, rfl, hr.put b _, hn, hc, hb.setCell hg _⟩
theorem fin_box {w W : World} {g : Nat} {S A : Option Addr} {m d n c u : Nat} {t : TypeId} (hb : Below w.heap.size w W) (b : Box W g #[.slice S m d] t) (hg : w.heap.size ≤ g) (hr : RL W .u32 A n (dig B9 u)) (hn : n ≤ c) (hc : c ≤ maxLen) :
    GivesN u w (.returned (.agg #[.slice A n c])) (W.setCell ⟨g, 0, none⟩ (.slice A n c)) :=
  ⟨A, n, c, rfl, hr.put b _, hn, hc, hb.setCell hg _⟩
theorem nd_pow {u k : Nat} (h : u < 10 ^ k) (hk : 1 ≤ k) : nd u ≤ k := by
  unfold nd
  split
  · exact hk
  · exact (dig_length_le 10 (by decide) k u).2 h
theorem nd_four {u : Nat} (h : u < B9 ^ 4) : nd u ≤ 36 := nd_pow (by rw [pow_B9] at h; exact h) (by decide)
theorem pow_four {u k : Nat} (h : u < B9 ^ 4) : u ^ k < B9 ^ (4 * k + 1) := by
  have h1 : u ^ k ≤ (B9 ^ 4) ^ k := Nat.pow_le_pow_left (Nat.le_of_lt h) k
  rw [← Nat.pow_mul] at h1
  exact Nat.lt_of_le_of_lt h1 (Nat.pow_lt_pow_right (by decide) (by omega))

theorem rof_one (w : World) : Calls Tryd.prog 62 #[.int .u64 1] w (GivesN 1 w) := rof_any 1 w (by omega)
theorem rmul_g (A : Option Addr) (n c u : Nat) (A' : Option Addr) (m d : Nat) (ys : List Nat) (w : World) (hr : RL w .u32 A n (dig B9 u)) (hn : n ≤ c) (hc : c ≤ maxLen) (hN : n ≤ 100000) (hr' : RL w .u32 A' m ys) (hm : m ≤ d) (hd : d ≤ maxLen) (hM : m ≤ 100000) (hy : ∀ x ∈ ys, x < 4294967296) (v T : Nat) (hv : val B9 ys = v) (hT : u * v = T) :
    Calls Tryd.prog 46 #[.agg #[.slice A n c], .agg #[.slice A' m d]] w (GivesN T w) :=
  rmul_any A n c (dig B9 u) A' m d ys w hr hn hc hN (fun x hx => by have : x < 1000000000 := dig_lt B9 (by decide) _ x hx; omega) hr' hm hd hM hy u v (val_dig B9 (by decide) u) hv T hT

end Go.Proofs.YtanhofmgapbjfaaDoor
