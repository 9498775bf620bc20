/- The order of numbers, and Floor, in the words of rational numbers. -/
import Derived.Test.YtoeknkakdoemfaaGreatDoorBaseL
namespace Go.Proofs.YtoeknkakdoemfaaGreatDoor
open Go Go.RowKit

/-- the sign of a comparison -/
def cs (x y : Rat) : Int := (x - y).num.sign
theorem rsign_neg (r : Rat) : (-r).num.sign = -r.num.sign := by rw [Rat.neg_num, Int.sign_neg]
theorem cs_swap (x y : Rat) : cs x y = -cs y x := by
  unfold cs
  rw [← rsign_neg, Rat.neg_sub]
theorem sign_lo (i : Int) : -1 ≤ i.sign := by
  rcases Int.lt_trichotomy i 0 with h | h | h
  · rw [Int.sign_eq_neg_one_of_neg h]; decide
  · subst h; decide
  · rw [Int.sign_eq_one_of_pos h]; decide
theorem sign_hi (i : Int) : i.sign ≤ 1 := by
  rcases Int.lt_trichotomy i 0 with h | h | h
  · rw [Int.sign_eq_neg_one_of_neg h]; decide
  · subst h; decide
  · rw [Int.sign_eq_one_of_pos h]; decide
theorem cs_zero (x y : Rat) : cs x y = 0 ↔ x = y := by
  unfold cs
  rw [Int.sign_eq_zero_iff_zero, Rat.num_eq_zero]
  constructor
  · intro h
    have h2 : x - y + y = 0 + y := by rw [h]
    rwa [Rat.sub_add_cancel, Rat.zero_add] at h2
  · rintro rfl
    exact Rat.sub_self
theorem cs_add (x y z : Rat) : cs (x + z) (y + z) = cs x y := by
  unfold cs
  have h : x + z - (y + z) = x - y := by
    rw [Rat.sub_eq_add_neg, Rat.neg_add, Rat.sub_eq_add_neg, Rat.add_assoc]
    congr 1
    rw [Rat.add_comm (-y) (-z), ← Rat.add_assoc, Rat.add_neg_cancel, Rat.zero_add]
  rw [h]
theorem num_pos_iff (r : Rat) : 0 < r.num ↔ 0 < r := by
  have h1 := @Rat.num_nonneg (-r)
  rw [Rat.neg_num] at h1
  rw [← Rat.not_le, ← Int.not_le]
  constructor
  · intro h h2
    exact h (by
      have : 0 ≤ -r := by rw [← Rat.neg_zero]; exact Rat.neg_le_neg h2
      have := h1.2 this
      omega)
  · intro h h2
    exact h (by
      have : 0 ≤ -r := h1.1 (by omega)
      have := Rat.neg_le_neg this
      rwa [Rat.neg_neg, Rat.neg_zero] at this)
theorem rsign_mul (r z : Rat) : (r * z).num.sign = r.num.sign * z.num.sign := by
  rw [Rat.num_mul]
  have hg : 0 < Nat.gcd (r.num * z.num).natAbs (r.den * z.den) := Nat.gcd_pos_of_pos_right _ (Nat.mul_pos (Nat.pos_of_ne_zero r.den_nz) (Nat.pos_of_ne_zero z.den_nz))
  rw [← Int.sign_mul]
  generalize r.num * z.num = n at hg
  generalize r.den * z.den = d at hg
  have hd : ((n.natAbs.gcd d : Nat) : Int) ∣ n := by
    rw [← Int.dvd_natAbs]
    exact Int.natCast_dvd_natCast.2 (Nat.gcd_dvd_left _ _)
  obtain ⟨k, hk⟩ := hd
  have hgp : (0 : Int) < ((n.natAbs.gcd d : Nat) : Int) := by omega
  generalize ((n.natAbs.gcd d : Nat) : Int) = g at hk hgp
  subst hk
  rw [Int.mul_ediv_cancel_left _ (by omega), Int.sign_mul, Int.sign_eq_one_of_pos hgp, Int.one_mul]
theorem cs_mul (x y z : Rat) : cs (x * z) (y * z) = cs x y * z.num.sign := by
  unfold cs
  rw [← rsign_mul]
  congr 2
  rw [Rat.sub_eq_add_neg, Rat.sub_eq_add_neg, Rat.add_mul, Rat.neg_mul]
theorem cs_le (x y : Rat) : cs x y ≤ 0 ↔ x ≤ y := by
  rw [cs_swap, Rat.le_iff_sub_nonneg, ← Rat.num_nonneg]
  unfold cs
  have h := @Int.sign_nonneg_iff (y - x).num
  omega
theorem cs_lt (x y : Rat) : cs x y < 0 ↔ x < y := by
  rw [cs_swap, Rat.lt_iff_sub_pos, ← num_pos_iff]
  unfold cs
  have h := @Int.sign_pos_iff (y - x).num
  omega
/-- a fraction from its parts -/
theorem qv_parts (r : Rat) : qv (decide (r.num < 0)) r.num.natAbs r.den = r := by
  have h : (if decide (r.num < 0) = true then -(r.num.natAbs : Int) else (r.num.natAbs : Int)) = r.num := by
    by_cases hn : r.num < 0
    · simp only [hn, decide_true, if_true]; omega
    · simp only [hn, decide_false, if_false, Bool.false_eq_true]; omega
  unfold qv
  rw [h, Rat.mkRat_self]
theorem qv_one (p : Bool) (u : Nat) : qv p u 1 = ((if p then -(u : Int) else (u : Int) : Int) : Rat) := by
  unfold qv
  rw [Rat.mkRat_eq_div, Rat.div_def]
  have : ((1 : Nat) : Rat)⁻¹ = 1 := Rat.inv_eq_of_mul_eq_one (by rw [Rat.mul_one]; rfl)
  rw [this, Rat.mul_one]
theorem qv_red (p : Bool) (u v g : Nat) (hg : g ≠ 0) : qv p (u * g) (v * g) = qv p u v := by
  unfold qv
  have h : (if p then -((u * g : Nat) : Int) else ((u * g : Nat) : Int)) = (if p then -(u : Int) else (u : Int)) * (g : Int) := by
    cases p <;> simp [Int.neg_mul]
  rw [h, Rat.mkRat_mul_right hg]
theorem fl_floor (p : Bool) (u v : Nat) : fl p u v = ((qv p u v).floor : Rat) := by
  unfold fl
  by_cases hv : v = 0
  · rw [if_pos hv, hv, qv_zero]; rfl
  · rw [if_neg hv, qv_one, Rat.floor_def, qv_num hv, qv_den hv]
    have hg : 0 < Nat.gcd u v := Nat.gcd_pos_of_pos_right _ (Nat.pos_of_ne_zero hv)
    obtain ⟨a, ha⟩ := Nat.gcd_dvd_left u v
    obtain ⟨b, hb⟩ := Nat.gcd_dvd_right u v
    have hb0 : b ≠ 0 := by rintro rfl; exact hv (by rw [hb]; simp)
    generalize Nat.gcd u v = g at ha hb hg
    subst ha
    subst hb
    rw [Nat.mul_div_cancel_left _ hg, Nat.mul_div_cancel_left _ hg, Nat.mul_mod_mul_left, Nat.mul_div_mul_left _ _ hg]
    congr 1
    have hz : (g * (a % b) = 0) ↔ a % b = 0 := by
      rw [Nat.mul_eq_zero]
      constructor
      · rintro (h | h)
        · omega
        · exact h
      · exact Or.inr
    cases p
    · simp
    · simp only [if_true, hz]
      have h1 : (a : Int) = b * (a / b : Nat) + (a % b : Nat) := by
        rw [← Int.natCast_mul, ← Int.natCast_add, Nat.div_add_mod]
      have h2 := Nat.mod_lt a (Nat.pos_of_ne_zero hb0)
      split
      · rename_i h3
        rw [h3] at h1
        rw [h1, Int.natCast_zero, Int.add_zero, ← Int.mul_neg, Int.mul_ediv_cancel_left _ (by omega)]
      · rename_i h3
        have h4 : -(a : Int) = (b : Int) * (-((a / b + 1 : Nat) : Int)) + ((b : Int) - (a % b : Nat)) := by
          rw [h1]
          have : (b : Int) * (-((a / b + 1 : Nat) : Int)) = -((b : Int) * (a / b : Nat)) - b := by
            rw [Int.natCast_add, Int.mul_neg, Int.mul_add]; omega
          rw [this]; omega
        rw [h4, Int.mul_add_ediv_left _ _ (by omega), Int.ediv_eq_zero_of_lt (by omega) (by omega)]
        omega
theorem floor_le' (r : Rat) : cs (r.floor : Rat) r ≤ 0 := (cs_le _ _).2 (Rat.floor_le r)
theorem lt_floor' (r : Rat) : cs r ((r.floor : Rat) + 1) < 0 := by
  rw [cs_lt]
  have h := Rat.lt_floor_add_one r
  rwa [Rat.intCast_add] at h
theorem cs_trans {x y z : Rat} (h1 : cs x y ≤ 0) (h2 : cs y z ≤ 0) : cs x z ≤ 0 := (cs_le _ _).2 (Rat.le_trans ((cs_le _ _).1 h1) ((cs_le _ _).1 h2))
end Go.Proofs.YtoeknkakdoemfaaGreatDoor
