/- Fractions in memory by their numbers: heights, and the contracts of package fraction in these words. -/
import Derived.Test.YtoeknkakdoemfaaGreatDoorFOrder
import Derived.Test.YtoeknkakdoemfaaGreatDoorBaseL
import Derived.Test.YtoeknkakdoemfaaGreatDoorFWrap
import Derived.Test.YtoeknkakdoemfaaGreatDoorFBase
import Derived.Test.YtoeknkakdoemfaaGreatDoorFTexts
namespace Go.Proofs.YtoeknkakdoemfaaGreatDoor
open Go Go.RowKit

/-- the height of a number: its numerator and its denominator are below a power of the base -/
def Ht (r : Rat) (L : Nat) : Prop := r.num.natAbs < B9 ^ L ∧ r.den < B9 ^ L
theorem Ht.up {r : Rat} {i j : Nat} (h : Ht r i) (hij : i ≤ j) : Ht r j := ⟨upB h.1 hij, upB h.2 hij⟩
theorem Ht.mul {x y : Rat} {i j : Nat} (hx : Ht x i) (hy : Ht y j) : Ht (x * y) (i + j) := by
  refine ⟨?_, ?_⟩
  · rw [Rat.num_mul]
    refine Nat.lt_of_le_of_lt (Int.natAbs_ediv_le_natAbs _ _) ?_
    rw [Int.natAbs_mul]
    exact mulB hx.1 hy.1
  · rw [Rat.den_mul]
    exact Nat.lt_of_le_of_lt (Nat.div_le_self _ _) (mulB hx.2 hy.2)
theorem Ht.add {x y : Rat} {i j : Nat} (hx : Ht x i) (hy : Ht y j) : Ht (x + y) (i + j + 1) := by
  refine ⟨?_, ?_⟩
  · rw [Rat.num_add]
    refine Nat.lt_of_le_of_lt (Int.natAbs_ediv_le_natAbs _ _) ?_
    refine Nat.lt_of_le_of_lt (Int.natAbs_add_le _ _) ?_
    rw [Int.natAbs_mul, Int.natAbs_mul]
    have h1 := mulB hx.1 hy.2
    have h2 := mulB hy.1 hx.2
    rw [Nat.add_comm j i] at h2
    exact addB h1 h2
  · rw [Rat.den_add]
    exact upB (Nat.lt_of_le_of_lt (Nat.div_le_self _ _) (mulB hx.2 hy.2)) (by omega)
theorem Ht.neg {x : Rat} {i : Nat} (h : Ht x i) : Ht (-x) i := by
  refine ⟨?_, h.2⟩
  rw [Rat.neg_num, Int.natAbs_neg]; exact h.1
theorem Ht.sub {x y : Rat} {i j : Nat} (hx : Ht x i) (hy : Ht y j) : Ht (x - y) (i + j + 1) := by
  rw [Rat.sub_eq_add_neg]; exact hx.add hy.neg
theorem Ht.inv {x : Rat} {i : Nat} (h : Ht x i) : Ht x⁻¹ i := by
  have h1 : x.num.sign.natAbs ≤ 1 := by
    rcases Int.lt_trichotomy x.num 0 with h | h | h
    · rw [Int.sign_eq_neg_one_of_neg h]; decide
    · rw [h]; decide
    · rw [Int.sign_eq_one_of_pos h]; decide
  have h2 := h.2
  have h3 := Nat.pos_of_ne_zero x.den_nz
  refine ⟨?_, ?_⟩
  · rw [Rat.num_inv, Int.natAbs_mul, Int.natAbs_natCast]
    exact Nat.lt_of_le_of_lt (Nat.mul_le_mul_right _ h1) (by omega)
  · rw [Rat.den_inv]
    split
    · rcases i with _ | i
      · rw [Nat.pow_zero] at h2; omega
      · have h4 : B9 ^ i * 1000000000 = B9 ^ (i + 1) := by rw [Nat.pow_succ]
        have h5 : 0 < B9 ^ i := Nat.pow_pos (by decide)
        omega
    · exact h.1
theorem Ht.div {x y : Rat} {i j : Nat} (hx : Ht x i) (hy : Ht y j) : Ht (x / y) (i + j) := by
  rw [Rat.div_def]; exact hx.mul hy.inv
theorem one_lt_B {i : Nat} (hi : 1 ≤ i) : 1 < B9 ^ i := by
  have h6 : B9 ^ 1 ≤ B9 ^ i := Nat.pow_le_pow_right (by decide) hi
  have h7 : B9 ^ 1 = 1000000000 := rfl
  omega
theorem Ht.int {k : Int} {i : Nat} (h : k.natAbs < B9 ^ i) (hi : 1 ≤ i) : Ht (k : Rat) i := by
  refine ⟨by rw [Rat.num_intCast]; exact h, ?_⟩
  rw [Rat.den_intCast]
  exact one_lt_B hi
theorem Ht.floor {x : Rat} {i : Nat} (h : Ht x i) (hi : 1 ≤ i) : Ht (x.floor : Rat) i := by
  refine Ht.int ?_ hi
  rw [Rat.floor_def]
  exact Nat.lt_of_le_of_lt (Int.natAbs_ediv_le_natAbs _ _) h.1

/-- a fraction in memory of the number r, its naturals of at most L limbs -/
def Fr (w : World) (L : Nat) (p : Bool) (A : Option Addr) (n c : Nat) (B : Option Addr) (m d : Nat) (r : Rat) : Prop :=
  ∃ u v, Nt w L A n c u ∧ Nt w L B m d v ∧ qv p u v = r
/-- the canonical one -/
def Fc (w : World) (p : Bool) (A : Option Addr) (n c : Nat) (B : Option Addr) (m d : Nat) (r : Rat) : Prop :=
  p = decide (r.num < 0) ∧ Cn w A n c r.num.natAbs ∧ Cn w B m d r.den
/-- the call gives the canonical fraction of a number -/
def GivesF (r : Rat) (w : World) (e : Ending) (w' : World) : Prop :=
  ∃ p A n c B m d, e = .returned (.agg #[.bool p, .slice A n c, .slice B m d]) ∧ Fc w' p A n c B m d r ∧ Below w.heap.size w w'
/-- and an error's number -/
def GivesFE (r : Rat) (er : Int) (w : World) (e : Ending) (w' : World) : Prop :=
  ∃ p A n c B m d, e = .returned (.tuple #[.agg #[.bool p, .slice A n c, .slice B m d], .int .i64 er]) ∧ Fc w' p A n c B m d r ∧ Below w.heap.size w w'
theorem GivesR.f {r : Rat} {w w' : World} {e : Ending} (h : GivesR r w e w') : GivesF r w e w' := by
  obtain ⟨A, n, c, B, m, d, h1, h2, h3, h4⟩ := h
  exact ⟨_, A, n, c, B, m, d, h1, ⟨rfl, h2, h3⟩, h4⟩
theorem GivesRE.f {r : Rat} {er : Int} {w w' : World} {e : Ending} (h : GivesRE r er w e w') : GivesFE r er w e w' := by
  obtain ⟨A, n, c, B, m, d, h1, h2, h3, h4⟩ := h
  exact ⟨_, A, n, c, B, m, d, h1, ⟨rfl, h2, h3⟩, h4⟩
section
variable {w w' : World} {L : Nat} {p : Bool} {A : Option Addr} {n c : Nat} {B : Option Addr} {m d : Nat} {x : Rat} {p' : Bool} {A' : Option Addr} {n' c' : Nat} {B' : Option Addr} {m' d' : Nat} {y : Rat}
theorem Fr.below (h : Fr w L p A n c B m d x) (hb : Below w.heap.size w w') : Fr w' L p A n c B m d x := by
  obtain ⟨u, v, h1, h2, h3⟩ := h
  exact ⟨u, v, h1.below hb, h2.below hb, h3⟩
theorem Fr.up (h : Fr w L p A n c B m d x) {M : Nat} (hL : L ≤ M) : Fr w M p A n c B m d x := by
  obtain ⟨u, v, h1, h2, h3⟩ := h
  exact ⟨u, v, h1.up hL, h2.up hL, h3⟩
theorem Fc.below (h : Fc w p A n c B m d x) (hb : Below w.heap.size w w') : Fc w' p A n c B m d x := ⟨h.1, h.2.1.below hb, h.2.2.below hb⟩
theorem Fc.fr (h : Fc w p A n c B m d x) (hx : Ht x L) : Fr w L p A n c B m d x := by
  obtain ⟨rfl, h1, h2⟩ := h
  exact ⟨_, _, h1.nt hx.1, h2.nt hx.2, qv_parts x⟩
theorem Fr.ht (h : Fr w L p A n c B m d x) : Ht x (L + 1) := by
  obtain ⟨u, v, h1, h2, rfl⟩ := h
  have l1 := h1.lt
  have l2 := h2.lt
  refine ⟨Nat.lt_of_le_of_lt (qv_le p u v).1 l1, ?_⟩
  by_cases hv : v = 0
  · subst hv
    rw [qv_zero]
    exact one_lt_B (by omega)
  · rw [qv_den hv]
    exact Nat.lt_of_le_of_lt (Nat.div_le_self _ _) l2
theorem Fr.far (h : Fr w L p A n c B m d x) {g i : Nat} {vs : Array Value} {t : TypeId} (hg : Box w g vs t) (hv : NoInt vs) (v : Value) : Fr (w.setCell ⟨g, i, none⟩ v) L p A n c B m d x := by
  obtain ⟨u, v', h1, h2, h3⟩ := h
  exact ⟨u, v', h1.far hg hv v, h2.far hg hv v, h3⟩
theorem Fc.far (h : Fc w p A n c B m d x) {g i : Nat} {vs : Array Value} {t : TypeId} (hg : Box w g vs t) (hv : NoInt vs) (v : Value) : Fc (w.setCell ⟨g, i, none⟩ v) p A n c B m d x := ⟨h.1, h.2.1.far hg hv v, h.2.2.far hg hv v⟩

theorem fnorm_f (hx : Fr w L p A n c B m d x) (h1L : 1 ≤ L) (hL : L ≤ 50000) : Calls Tryz.prog 14 #[.agg #[.bool p, .slice A n c, .slice B m d]] w (GivesF x w) := by
  obtain ⟨u, v, h1, h2, h3⟩ := hx
  exact (fnorm_any L h1L hL p A n c u B m d v w h1 h2 x h3).mono fun _ _ h => h.f
theorem fsign_f (hx : Fr w L p A n c B m d x) (hL : L ≤ 20000) (r : Int) (hr : x.num.sign = r) : Calls Tryz.prog 29 #[.agg #[.bool p, .slice A n c, .slice B m d]] w fun e w' => e = .returned (.int .i64 r) ∧ Below w.heap.size w w' := by
  obtain ⟨u, v, h1, h2, h3⟩ := hx
  exact fsign_any L hL p A n c u B m d v w h1 h2 r (by rw [sg_sign, h3]; exact hr)
theorem ftext_f (hx : Fr w L p A n c B m d x) (h1L : 1 ≤ L) (hL : L ≤ 10000) (hT : Tab w) : Calls Tryz.prog 10 #[.agg #[.bool p, .slice A n c, .slice B m d]] w fun e w' => e = .returned (.string (qtext x)) ∧ Below w.heap.size w w' := by
  obtain ⟨u, v, h1, h2, h3⟩ := hx
  exact ftext_any L h1L hL p A n c u B m d v w h1 h2 hT x h3
theorem fadd_f (hx : Fr w L p A n c B m d x) (hy : Fr w L p' A' n' c' B' m' d' y) (h1L : 1 ≤ L) (hL : L ≤ 10000) (r : Rat) (hr : x + y = r) : Calls Tryz.prog 28 #[.agg #[.bool p, .slice A n c, .slice B m d], .agg #[.bool p', .slice A' n' c', .slice B' m' d']] w (GivesF r w) := by
  obtain ⟨u, v, h1, h2, h3⟩ := hx
  obtain ⟨u', v', i1, i2, i3⟩ := hy
  exact (fadd_any L h1L hL p A n c u B m d v p' A' n' c' u' B' m' d' v' w h1 h2 i1 i2 r (by rw [h3, i3]; exact hr)).mono fun _ _ h => h.f
theorem fsub_f (hx : Fr w L p A n c B m d x) (hy : Fr w L p' A' n' c' B' m' d' y) (h1L : 1 ≤ L) (hL : L ≤ 10000) (r : Rat) (hr : x - y = r) : Calls Tryz.prog 27 #[.agg #[.bool p, .slice A n c, .slice B m d], .agg #[.bool p', .slice A' n' c', .slice B' m' d']] w (GivesF r w) := by
  obtain ⟨u, v, h1, h2, h3⟩ := hx
  obtain ⟨u', v', i1, i2, i3⟩ := hy
  exact (fsub_any L h1L hL p A n c u B m d v p' A' n' c' u' B' m' d' v' w h1 h2 i1 i2 r (by rw [h3, i3]; exact hr)).mono fun _ _ h => h.f
theorem fmul_f (hx : Fr w L p A n c B m d x) (hy : Fr w L p' A' n' c' B' m' d' y) (h1L : 1 ≤ L) (hL : L ≤ 10000) (r : Rat) (hr : x * y = r) : Calls Tryz.prog 26 #[.agg #[.bool p, .slice A n c, .slice B m d], .agg #[.bool p', .slice A' n' c', .slice B' m' d']] w (GivesF r w) := by
  obtain ⟨u, v, h1, h2, h3⟩ := hx
  obtain ⟨u', v', i1, i2, i3⟩ := hy
  exact (fmul_any L (by omega) p A n c u B m d v p' A' n' c' u' B' m' d' v' w h1 h2 i1 i2 r (by rw [h3, i3]; exact hr)).mono fun _ _ h => h.f
theorem fcmp_f (hx : Fr w L p A n c B m d x) (hy : Fr w L p' A' n' c' B' m' d' y) (h1L : 1 ≤ L) (hL : L ≤ 5000) (r : Int) (hr : cs x y = r) : Calls Tryz.prog 15 #[.agg #[.bool p, .slice A n c, .slice B m d], .agg #[.bool p', .slice A' n' c', .slice B' m' d']] w fun e w' => e = .returned (.int .i64 r) ∧ Below w.heap.size w w' := by
  obtain ⟨u, v, h1, h2, h3⟩ := hx
  obtain ⟨u', v', i1, i2, i3⟩ := hy
  exact fcmp_any L h1L hL p A n c u B m d v p' A' n' c' u' B' m' d' v' w h1 h2 i1 i2 r (by rw [h3, i3]; exact hr)
theorem fdiv_f (hx : Fr w L p A n c B m d x) (hy : Fr w L p' A' n' c' B' m' d' y) (hL : L ≤ 10000) (h0 : y ≠ 0) (r : Rat) (hr : x / y = r) : Calls Tryz.prog 30 #[.agg #[.bool p, .slice A n c, .slice B m d], .agg #[.bool p', .slice A' n' c', .slice B' m' d']] w (GivesFE r 0 w) := by
  obtain ⟨u, v, h1, h2, h3⟩ := hx
  obtain ⟨u', v', i1, i2, i3⟩ := hy
  exact (fdiv_ok L hL p A n c u B m d v p' A' n' c' u' B' m' d' v' w h1 h2 i1 i2 (by rw [sg_sign, i3]; exact fun h => h0 (Rat.num_eq_zero.1 (Int.sign_eq_zero_iff_zero.1 h))) r (by rw [h3, i3]; exact hr)).mono fun _ _ h => h.f
theorem fdiv_f0 (hy : Fr w L p' A' n' c' B' m' d' y) (hL : L ≤ 10000) (h0 : y = 0) : Calls Tryz.prog 30 #[.agg #[.bool p, .slice A n c, .slice B m d], .agg #[.bool p', .slice A' n' c', .slice B' m' d']] w fun e w' => e = .returned (.tuple #[.agg #[.bool false, .slice none 0 0, .slice none 0 0], .int .i64 12]) ∧ Below w.heap.size w w' := by
  obtain ⟨u', v', i1, i2, i3⟩ := hy
  exact fdiv_zero L hL p A n c B m d p' A' n' c' u' B' m' d' v' w i1 i2 (by rw [sg_sign, i3, h0]; rfl)
theorem fbase_f (hx : Fc w p A n c B m d x) (hy : Fc w p' A' n' c' B' m' d' x) (hh : Ht x L) (hL : L ≤ 100000) : Calls Tryz.prog 13 #[.agg #[.bool p, .slice A n c, .slice B m d], .agg #[.bool p', .slice A' n' c', .slice B' m' d']] w fun e w' => e = .returned (.bool true) ∧ Below w.heap.size w w' := by
  obtain ⟨rfl, h1, h2⟩ := hx
  obtain ⟨rfl, i1, i2⟩ := hy
  have l1 : n ≤ L := len_le h1.1.len hh.1
  have l2 : m ≤ L := len_le h2.1.len hh.2
  exact fbase_same _ A n c _ B m d _ A' n' c' B' m' d' w h1 h2 i1 i2 (by omega) (by omega)
end
theorem qv_int (i : Int) : qv (decide (i < 0)) i.natAbs 1 = (i : Rat) := by
  rw [qv_one]
  congr 1
  by_cases hn : i < 0
  · simp only [hn, decide_true, if_true]; omega
  · simp only [hn, decide_false, if_false, Bool.false_eq_true]; omega
theorem qv_quo (i j : Int) : qv (decide (i < 0) != decide (j < 0)) i.natAbs j.natAbs = (i : Rat) / (j : Rat) := by
  rw [← qv_int i, ← qv_int j, qv_div, Nat.mul_one, Nat.one_mul]
theorem fof_f (i j : Int) (w : World) (h1 : -9223372036854775808 ≤ i) (h2 : i ≤ 9223372036854775807) (h3 : -9223372036854775808 ≤ j) (h4 : j ≤ 9223372036854775807) (r : Rat) (hr : (i : Rat) / (j : Rat) = r) :
    Calls Tryz.prog 25 #[.int .i64 i, .int .i64 j] w (GivesF r w) :=
  (fof_any i j w h1 h2 h3 h4 r (by rw [qv_quo]; exact hr)).mono fun _ _ h => h.f
end Go.Proofs.YtoeknkakdoemfaaGreatDoor
