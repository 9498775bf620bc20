/- The body of YearsMeets. -/
import Derived.Test.YtihadabaehcmiaaDoorYMeetsA
import Derived.Test.YtihadabaehcmiaaDoorYMeetsB
import Derived.Test.YtihadabaehcmiaaDoorYMeetsC
import Derived.Test.YtihadabaehcmiaaDoorYMeetsD
namespace Go.Proofs.YtihadabaehcmiaaDoor
open Go Go.RowKit

theorem i16_of {k : Int} (x : (Lit.int .i16 k).wf = true) : -32768 ≤ k ∧ k ≤ 32767 := by
  simp [Lit.wf, IntKind.bits, IntKind.signed, IntKind.min, IntKind.max] at x
  omega
theorem meets_all (a b c d k : Int) (x : (Lit.int .i16 k).wf = true) (w : World) (hT : Lw w) :
    Calls Tryd.prog 8 #[.agg #[.int .i64 a, .int .i64 b], .agg #[.int .i64 c, .int .i64 d], .int .i16 k] w fun e w' => e = .returned (.bool true) ∧ Below w.heap.size w w' := by
  obtain ⟨k0, k1⟩ := i16_of x
  clear x
  rcases Bool.eq_false_or_eq_true (yB a b) with h1 | h1
  · rcases Bool.eq_false_or_eq_true (yB c d) with h2 | h2
    · obtain ⟨j1, j2, j3⟩ := yB_true.1 h1
      obtain ⟨i1, i2, i3⟩ := yB_true.1 h2
      have h4 : yB (min a c) (max b d) = true := yB_true.2 (by omega)
      by_cases h3 : max a c ≤ min b d
      · by_cases pa1 : k < a
        · by_cases pb1 : k < c
          · exact meets_lly a b c d k w hT h1 h2 k0 k1 (decide_eq_false (by omega)) (decide_eq_false (by omega)) _ _ rfl rfl _ _ rfl rfl h3 (decide_eq_false (by omega)) h4 _ _ _ rfl rfl rfl (by omega) (by omega)
          · by_cases pb2 : k ≤ d
            · exact meets_liy a b c d k w hT h1 h2 k0 k1 (decide_eq_false (by omega)) (decide_eq_true (by omega)) (decide_eq_true (by omega)) _ _ rfl rfl _ _ rfl rfl h3 (decide_eq_false (by omega)) (decide_eq_true (by omega)) (decide_eq_true (by omega)) h4 _ _ _ rfl rfl rfl (by omega) (by omega)
            · exact meets_lgy a b c d k w hT h1 h2 k0 k1 (decide_eq_false (by omega)) (decide_eq_true (by omega)) (decide_eq_false (by omega)) _ _ rfl rfl _ _ rfl rfl h3 (decide_eq_false (by omega)) h4 _ _ _ rfl rfl rfl (by omega) (by omega)
        · by_cases pa2 : k ≤ b
          · by_cases pb1 : k < c
            · exact meets_ily a b c d k w hT h1 h2 k0 k1 (decide_eq_true (by omega)) (decide_eq_true (by omega)) (decide_eq_false (by omega)) _ _ rfl rfl _ _ rfl rfl h3 (decide_eq_false (by omega)) (decide_eq_true (by omega)) (decide_eq_true (by omega)) h4 _ _ _ rfl rfl rfl (by omega) (by omega)
            · by_cases pb2 : k ≤ d
              · exact meets_iiy a b c d k w hT h1 h2 k0 k1 (decide_eq_true (by omega)) (decide_eq_true (by omega)) (decide_eq_true (by omega)) (decide_eq_true (by omega)) _ _ rfl rfl _ _ rfl rfl h3 (decide_eq_true (by omega)) (decide_eq_true (by omega)) (decide_eq_true (by omega)) (decide_eq_true (by omega)) h4 _ _ _ rfl rfl rfl (by omega) (by omega)
              · exact meets_igy a b c d k w hT h1 h2 k0 k1 (decide_eq_true (by omega)) (decide_eq_true (by omega)) (decide_eq_true (by omega)) (decide_eq_false (by omega)) _ _ rfl rfl _ _ rfl rfl h3 (decide_eq_true (by omega)) (decide_eq_false (by omega)) (decide_eq_true (by omega)) (decide_eq_true (by omega)) h4 _ _ _ rfl rfl rfl (by omega) (by omega)
          · by_cases pb1 : k < c
            · exact meets_gly a b c d k w hT h1 h2 k0 k1 (decide_eq_true (by omega)) (decide_eq_false (by omega)) (decide_eq_false (by omega)) _ _ rfl rfl _ _ rfl rfl h3 (decide_eq_false (by omega)) h4 _ _ _ rfl rfl rfl (by omega) (by omega)
            · by_cases pb2 : k ≤ d
              · exact meets_giy a b c d k w hT h1 h2 k0 k1 (decide_eq_true (by omega)) (decide_eq_false (by omega)) (decide_eq_true (by omega)) (decide_eq_true (by omega)) _ _ rfl rfl _ _ rfl rfl h3 (decide_eq_true (by omega)) (decide_eq_false (by omega)) (decide_eq_true (by omega)) (decide_eq_true (by omega)) h4 _ _ _ rfl rfl rfl (by omega) (by omega)
              · exact meets_ggy a b c d k w hT h1 h2 k0 k1 (decide_eq_true (by omega)) (decide_eq_false (by omega)) (decide_eq_true (by omega)) (decide_eq_false (by omega)) _ _ rfl rfl _ _ rfl rfl h3 (decide_eq_true (by omega)) (decide_eq_false (by omega)) h4 _ _ _ rfl rfl rfl (by omega) (by omega)
      · by_cases pa1 : k < a
        · by_cases pb1 : k < c
          · exact meets_lln a b c d k w hT h1 h2 k0 k1 (decide_eq_false (by omega)) (decide_eq_false (by omega)) _ _ rfl rfl (by omega) h4 _ _ _ rfl rfl rfl (by omega) (by omega)
          · by_cases pb2 : k ≤ d
            · exact meets_lin a b c d k w hT h1 h2 k0 k1 (decide_eq_false (by omega)) (decide_eq_true (by omega)) (decide_eq_true (by omega)) _ _ rfl rfl (by omega) (decide_eq_true (by omega)) (decide_eq_true (by omega)) h4 _ _ _ rfl rfl rfl (by omega) (by omega)
            · exact meets_lgn a b c d k w hT h1 h2 k0 k1 (decide_eq_false (by omega)) (decide_eq_true (by omega)) (decide_eq_false (by omega)) _ _ rfl rfl (by omega) h4 _ _ _ rfl rfl rfl (by omega) (by omega)
        · by_cases pa2 : k ≤ b
          · by_cases pb1 : k < c
            · exact meets_iln a b c d k w hT h1 h2 k0 k1 (decide_eq_true (by omega)) (decide_eq_true (by omega)) (decide_eq_false (by omega)) _ _ rfl rfl (by omega) (decide_eq_true (by omega)) (decide_eq_true (by omega)) h4 _ _ _ rfl rfl rfl (by omega) (by omega)
            · by_cases pb2 : k ≤ d
              · exact absurd h3 (by omega)
              · exact meets_ign a b c d k w hT h1 h2 k0 k1 (decide_eq_true (by omega)) (decide_eq_true (by omega)) (decide_eq_true (by omega)) (decide_eq_false (by omega)) _ _ rfl rfl (by omega) (decide_eq_true (by omega)) (decide_eq_true (by omega)) h4 _ _ _ rfl rfl rfl (by omega) (by omega)
          · by_cases pb1 : k < c
            · exact meets_gln a b c d k w hT h1 h2 k0 k1 (decide_eq_true (by omega)) (decide_eq_false (by omega)) (decide_eq_false (by omega)) _ _ rfl rfl (by omega) h4 _ _ _ rfl rfl rfl (by omega) (by omega)
            · by_cases pb2 : k ≤ d
              · exact meets_gin a b c d k w hT h1 h2 k0 k1 (decide_eq_true (by omega)) (decide_eq_false (by omega)) (decide_eq_true (by omega)) (decide_eq_true (by omega)) _ _ rfl rfl (by omega) (decide_eq_true (by omega)) (decide_eq_true (by omega)) h4 _ _ _ rfl rfl rfl (by omega) (by omega)
              · exact meets_ggn a b c d k w hT h1 h2 k0 k1 (decide_eq_true (by omega)) (decide_eq_false (by omega)) (decide_eq_true (by omega)) (decide_eq_false (by omega)) _ _ rfl rfl (by omega) h4 _ _ _ rfl rfl rfl (by omega) (by omega)
    · exact meets_g2 a b c d k w hT h1 h2
  · exact meets_g1 a b c d k w hT h1
end Go.Proofs.YtihadabaehcmiaaDoor
