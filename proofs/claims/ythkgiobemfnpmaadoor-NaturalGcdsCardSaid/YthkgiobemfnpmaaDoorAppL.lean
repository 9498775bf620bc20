/- The contract of natural.appendLimb. -/
import Derived.Test.YthkgiobemfnpmaaDoorDivS
import Derived.Deep.LoopGhost
namespace Go.Proofs.YthkgiobemfnpmaaDoor
open Go Go.RowKit

theorem u8_info : (Tryd.prog.info? 5).map (fun i => (i.zero, i.size, i.bytes)) = some (some (.int .u8 0), 1, 1) := by kernel_rfl

/-- the first k of the nine digits of a limb, as bytes -/
def d9 (x k : Nat) : List Nat := (List.range k).map fun j => 48 + x / (10 ^ (9 - j) / 10) % 10
theorem d9_succ (x k : Nat) : d9 x (k + 1) = d9 x k ++ [48 + x / (10 ^ (9 - k) / 10) % 10] := by simp [d9, List.range_succ]
theorem unit_step {k : Nat} (h : k ≤ 8) : 10 ^ (9 - k) / 10 / 10 = 10 ^ (9 - (k + 1)) / 10 ∧ 1 ≤ 10 ^ (9 - k) / 10 ∧ 10 ^ (9 - k) / 10 ≤ 100000000 := by
  have e : 10 ^ (9 - k) / 10 = 10 ^ (8 - k) := by
    rw [show 9 - k = (8 - k) + 1 from by omega, Nat.pow_succ, Nat.mul_div_cancel _ (by decide)]
  refine ⟨by rw [e]; congr 2; omega, by rw [e]; exact Nat.one_le_pow _ _ (by decide), ?_⟩
  rw [e]
  have := Nat.pow_le_pow_right (show 0 < 10 by decide) (show 8 - k ≤ 8 by omega)
  exact this

/-- a row of bytes -/
def GivesRow (base : Nat) (bs : List Nat) (w : World) (e : Ending) (w' : World) : Prop :=
  ∃ A n c, e = .returned (.slice A n c) ∧ Row w' base .u8 5 A n c bs ∧ Below base w w' ∧ w.heap.size ≤ w'.heap.size

set_option maxHeartbeats 1000000 in
theorem appendLimb_any (base : Nat) (A : Option Addr) (n c : Nat) (bs : List Nat) (x : Nat) (w : World) (hb : base ≤ w.heap.size) (hr : Row w base .u8 5 A n c bs) (hN : n ≤ 100000000) (hx : x < 1000000000) :
    Calls Tryd.prog 54 #[.slice A n c, .int .u32 (x : Int)] w (GivesRow base (bs ++ d9 x 9) w) := by
  go_enter Tryd.func54, Tryd.ntmps54
  go_wp2
  go_loopg [0, 5] 9 (fun gk s t wr => ∃ (k U : Nat) (A : Option Addr) (m c : Nat), k + gk = 9 ∧ s = .slice A m c ∧ m = n + k ∧ t = .int .u32 (U : Int) ∧ U = 10 ^ (9 - k) / 10 ∧ Row wr base .u8 5 A m c (bs ++ d9 x k) ∧ Below base w wr ∧ w.heap.size ≤ wr.heap.size)
  case atStart => exact ⟨0, 100000000, A, n, c, rfl, rfl, rfl, rfl, by decide, by simpa [d9] using hr, Below.refl _ _, Nat.le_refl _⟩
  case round =>
    obtain ⟨k, U, A, m, c, hk, rfl, hm, rfl, hU, hrow, hbel, hsz⟩ := hrel
    have HM := hide hm
    have hmb : m ≤ 100000009 := by omega
    by_cases h9 : k = 9
    · have hU0 : U = 0 := by rw [hU, h9]
      have HK := hide h9
      subst hU0
      clear hm hU hk h9
      go_wp2
      go_ret
      refine ⟨A, m, c, rfl, ?_, hbel, hsz⟩
      rw [← HK.out]; exact hrow
    · obtain ⟨u1, u2, u3⟩ := unit_step (k := k) (by omega)
      rw [← hU] at u1 u2 u3
      obtain ⟨Q, hQ⟩ : ∃ Q, Q = x / U := ⟨_, rfl⟩
      have hQb : Q < 1000000000 := by rw [hQ]; exact Nat.lt_of_le_of_lt (Nat.div_le_self _ _) hx
      have hq : (x : Int) / (U : Int) = (Q : Int) := by rw [cast_div, hQ]
      have HN := hide (show d9 x (k + 1) = d9 x k ++ [48 + Q % 10] from by rw [d9_succ, ← hU, ← hQ])
      have HU := hide u1
      have HK := hide (show k + 1 + (gk - 1) = 9 from by omega)
      have hgk : 1 ≤ gk := by omega
      have hbs : base ≤ wr.heap.size := by omega
      clear hm hU hk hQ u1 h9
      go_wp2_with (at_builtin; refine wpList_append_rl _ rfl _ _ 60 rfl base 5 .u8 1 Tryd.underlying60 u8_info A m c _ rfl (hrow.alloc _) (some ⟨wr.heap.size, 0, none⟩) 1 1 [48 + Q % 10] rfl (RL.one wr .u8 5 (by omega)) (by omega) (m + 1) rfl (by omega) (by simp; omega) ?_; intro A' c' w1 hrow1 hbel1 hsz1)
      go_roundg (gk - 1)
      case measure => omega
      case rel =>
        refine ⟨k + 1, U / 10, A', m + 1, c', HK.out, rfl, by have := HM.out; omega, by go_num, HU.out, ?_, (hbel.alloc hbs _).trans hbel1, by have := hsz1; simp at this; omega⟩
        rw [HN.out, ← List.append_assoc]
        exact hrow1
end Go.Proofs.YthkgiobemfnpmaaDoor
