/- Keys, sides and changes: the small functions of both sides. -/
import Derived.Test.YtadmiecoahohiaaUT
namespace Go.Proofs.Ytadmiecoahohiaa
open Go Go.RowKit Go.Lib

theorem keyE_any (x : Ent) (w : World) : Calls Try.prog 39 #[.agg #[.int .i64 x.k, .int .i64 x.v]] w fun e w' => e = .returned (.int .i64 x.k) ∧ Gr w w' := by
  go_enter Try.func39, Try.ntmps39
  go_wp2_with fail
  go_ret
  exact ⟨rfl, (by ((repeat (first | (with_reducible assumption) | (with_reducible exact Gr.refl _) | (with_reducible refine Gr.drew ?_) | (with_reducible refine Gr.alloc ?_ _) | (with_reducible refine Gr.trans ?_ (by assumption)))); (first | done | fail)))⟩

theorem keyC_any (x : Chg) (w : World) : Calls Try.prog 42 #[.agg #[.int .i64 x.k, .int .i64 x.o, .int .i64 x.n, .bool x.h, .bool x.s]] w fun e w' => e = .returned (.int .i64 x.k) ∧ Gr w w' := by
  go_enter Try.func42, Try.ntmps42
  go_wp2_with fail
  go_ret
  exact ⟨rfl, (by ((repeat (first | (with_reducible assumption) | (with_reducible exact Gr.refl _) | (with_reducible refine Gr.drew ?_) | (with_reducible refine Gr.alloc ?_ _) | (with_reducible refine Gr.trans ?_ (by assumption)))); (first | done | fail)))⟩

theorem before_any (x : Chg) (w : World) : Calls Try.prog 34 #[.agg #[.int .i64 x.k, .int .i64 x.o, .int .i64 x.n, .bool x.h, .bool x.s]] w fun e w' => e = .returned (.agg #[.int .i64 x.o, .bool x.h]) ∧ Gr w w' := by
  go_enter Try.func34, Try.ntmps34
  go_wp2_with fail
  exact bodyPost_ret (v := .agg #[.int .i64 x.o, .bool x.h]) (by simp [results, Try.results34, go_sem]) rfl ⟨rfl, (by ((repeat (first | (with_reducible assumption) | (with_reducible exact Gr.refl _) | (with_reducible refine Gr.drew ?_) | (with_reducible refine Gr.alloc ?_ _) | (with_reducible refine Gr.trans ?_ (by assumption)))); (first | done | fail)))⟩

theorem after_any (x : Chg) (w : World) : Calls Try.prog 33 #[.agg #[.int .i64 x.k, .int .i64 x.o, .int .i64 x.n, .bool x.h, .bool x.s]] w fun e w' => e = .returned (.agg #[.int .i64 x.n, .bool x.s]) ∧ Gr w w' := by
  go_enter Try.func33, Try.ntmps33
  go_wp2_with fail
  exact bodyPost_ret (v := .agg #[.int .i64 x.n, .bool x.s]) (by simp [results, Try.results33, go_sem]) rfl ⟨rfl, (by ((repeat (first | (with_reducible assumption) | (with_reducible exact Gr.refl _) | (with_reducible refine Gr.drew ?_) | (with_reducible refine Gr.alloc ?_ _) | (with_reducible refine Gr.trans ?_ (by assumption)))); (first | done | fail)))⟩

theorem rold_any (x : Chg) (w : World) : Calls Try.prog 37 #[.agg #[.int .i64 x.k, .int .i64 x.o, .int .i64 x.n, .bool x.h, .bool x.s]] w fun e w' => e = .returned (.agg #[.int .i64 x.o, .bool x.h]) ∧ Gr w w' := by
  go_enter Try.func37, Try.ntmps37
  go_wp2_with fail
  exact bodyPost_ret (v := .agg #[.int .i64 x.o, .bool x.h]) (by simp [results, Try.results37, go_sem]) rfl ⟨rfl, (by ((repeat (first | (with_reducible assumption) | (with_reducible exact Gr.refl _) | (with_reducible refine Gr.drew ?_) | (with_reducible refine Gr.alloc ?_ _) | (with_reducible refine Gr.trans ?_ (by assumption)))); (first | done | fail)))⟩

theorem rnew_any (x : Chg) (w : World) : Calls Try.prog 36 #[.agg #[.int .i64 x.k, .int .i64 x.o, .int .i64 x.n, .bool x.h, .bool x.s]] w fun e w' => e = .returned (.agg #[.int .i64 x.n, .bool x.s]) ∧ Gr w w' := by
  go_enter Try.func36, Try.ntmps36
  go_wp2_with fail
  exact bodyPost_ret (v := .agg #[.int .i64 x.n, .bool x.s]) (by simp [results, Try.results36, go_sem]) rfl ⟨rfl, (by ((repeat (first | (with_reducible assumption) | (with_reducible exact Gr.refl _) | (with_reducible refine Gr.drew ?_) | (with_reducible refine Gr.alloc ?_ _) | (with_reducible refine Gr.trans ?_ (by assumption)))); (first | done | fail)))⟩

theorem chgOf_any (k : Int) (f t : Sd) (w : World) : Calls Try.prog 32 #[.int .i64 k, .agg #[.int .i64 f.v, .bool f.i], .agg #[.int .i64 t.v, .bool t.i]] w fun e w' => e = .returned (.agg #[.int .i64 k, .int .i64 f.v, .int .i64 t.v, .bool f.i, .bool t.i]) ∧ Gr w w' := by
  go_enter Try.func32, Try.ntmps32
  go_wp2_with fail
  exact bodyPost_ret (v := .agg #[.int .i64 k, .int .i64 f.v, .int .i64 t.v, .bool f.i, .bool t.i]) (by simp [results, Try.results32, go_sem]) rfl ⟨rfl, (by ((repeat (first | (with_reducible assumption) | (with_reducible exact Gr.refl _) | (with_reducible refine Gr.drew ?_) | (with_reducible refine Gr.alloc ?_ _) | (with_reducible refine Gr.trans ?_ (by assumption)))); (first | done | fail)))⟩

set_option maxHeartbeats 2000000 in
theorem single_any (x : Chg) (w : World) (r : Bool) (hr : decide (One x) = r) : Calls Try.prog 45 #[.agg #[.int .i64 x.k, .int .i64 x.o, .int .i64 x.n, .bool x.h, .bool x.s]] w fun e w' => e = .returned (.bool r) ∧ Gr w w' := by
  obtain ⟨k, o, n, h, s⟩ := x
  have q1 : One ⟨k, o, n, h, s⟩ ↔ (h = false → o = 0) ∧ (s = false → n = 0) ∧ ((⟨o, h⟩ : Sd) ≠ ⟨n, s⟩) := Iff.rfl
  cases h <;> cases s
  · -- false false
    by_cases ho : o = 0
    · by_cases hn : n = 0
      · subst ho
        subst hn
        obtain rfl : r = false := by rw [← hr]; exact decide_eq_false (fun hh => (q1.1 hh).2.2 rfl)
        clear q1 hr
        go_enter Try.func45, Try.ntmps45
        go_wp2_with fail
        go_ret
        exact ⟨rfl, (by ((repeat (first | (with_reducible assumption) | (with_reducible exact Gr.refl _) | (with_reducible refine Gr.drew ?_) | (with_reducible refine Gr.alloc ?_ _) | (with_reducible refine Gr.trans ?_ (by assumption)))); (first | done | fail)))⟩
      · subst ho
        obtain rfl : r = false := by rw [← hr]; exact decide_eq_false (fun hh => hn ((q1.1 hh).2.1 rfl))
        have e1 : (n == 0) = false := beq_eq_false_iff_ne.2 hn
        clear q1 hr
        go_enter Try.func45, Try.ntmps45
        go_wp2_with fail
        go_ret
        exact ⟨rfl, (by ((repeat (first | (with_reducible assumption) | (with_reducible exact Gr.refl _) | (with_reducible refine Gr.drew ?_) | (with_reducible refine Gr.alloc ?_ _) | (with_reducible refine Gr.trans ?_ (by assumption)))); (first | done | fail)))⟩
    · obtain rfl : r = false := by rw [← hr]; exact decide_eq_false (fun hh => ho ((q1.1 hh).1 rfl))
      have e1 : (o == 0) = false := beq_eq_false_iff_ne.2 ho
      clear q1 hr
      go_enter Try.func45, Try.ntmps45
      go_wp2_with fail
      go_ret
      exact ⟨rfl, (by ((repeat (first | (with_reducible assumption) | (with_reducible exact Gr.refl _) | (with_reducible refine Gr.drew ?_) | (with_reducible refine Gr.alloc ?_ _) | (with_reducible refine Gr.trans ?_ (by assumption)))); (first | done | fail)))⟩
  · -- false true
    by_cases ho : o = 0
    · subst ho
      obtain rfl : r = true := by rw [← hr]; exact decide_eq_true (q1.2 ⟨fun _ => rfl, fun h => (by cases h), fun h => (by injection h with _ h; cases h)⟩)
      clear q1 hr
      go_enter Try.func45, Try.ntmps45
      go_wp2_with fail
      go_ret
      exact ⟨rfl, (by ((repeat (first | (with_reducible assumption) | (with_reducible exact Gr.refl _) | (with_reducible refine Gr.drew ?_) | (with_reducible refine Gr.alloc ?_ _) | (with_reducible refine Gr.trans ?_ (by assumption)))); (first | done | fail)))⟩
    · obtain rfl : r = false := by rw [← hr]; exact decide_eq_false (fun hh => ho ((q1.1 hh).1 rfl))
      have e1 : (o == 0) = false := beq_eq_false_iff_ne.2 ho
      clear q1 hr
      go_enter Try.func45, Try.ntmps45
      go_wp2_with fail
      go_ret
      exact ⟨rfl, (by ((repeat (first | (with_reducible assumption) | (with_reducible exact Gr.refl _) | (with_reducible refine Gr.drew ?_) | (with_reducible refine Gr.alloc ?_ _) | (with_reducible refine Gr.trans ?_ (by assumption)))); (first | done | fail)))⟩
  · -- true false
    by_cases hn : n = 0
    · subst hn
      obtain rfl : r = true := by rw [← hr]; exact decide_eq_true (q1.2 ⟨fun h => (by cases h), fun _ => rfl, fun h => (by injection h with _ h; cases h)⟩)
      clear q1 hr
      go_enter Try.func45, Try.ntmps45
      go_wp2_with fail
      go_ret
      exact ⟨rfl, (by ((repeat (first | (with_reducible assumption) | (with_reducible exact Gr.refl _) | (with_reducible refine Gr.drew ?_) | (with_reducible refine Gr.alloc ?_ _) | (with_reducible refine Gr.trans ?_ (by assumption)))); (first | done | fail)))⟩
    · obtain rfl : r = false := by rw [← hr]; exact decide_eq_false (fun hh => hn ((q1.1 hh).2.1 rfl))
      have e1 : (n == 0) = false := beq_eq_false_iff_ne.2 hn
      clear q1 hr
      go_enter Try.func45, Try.ntmps45
      go_wp2_with fail
      go_ret
      exact ⟨rfl, (by ((repeat (first | (with_reducible assumption) | (with_reducible exact Gr.refl _) | (with_reducible refine Gr.drew ?_) | (with_reducible refine Gr.alloc ?_ _) | (with_reducible refine Gr.trans ?_ (by assumption)))); (first | done | fail)))⟩
  · -- true true
    by_cases ho : o = n
    · subst ho
      obtain rfl : r = false := by rw [← hr]; exact decide_eq_false (fun hh => (q1.1 hh).2.2 rfl)
      have e1 : (o == o) = true := beq_iff_eq.2 rfl
      clear q1 hr
      go_enter Try.func45, Try.ntmps45
      go_wp2_with fail
      go_ret
      exact ⟨rfl, (by ((repeat (first | (with_reducible assumption) | (with_reducible exact Gr.refl _) | (with_reducible refine Gr.drew ?_) | (with_reducible refine Gr.alloc ?_ _) | (with_reducible refine Gr.trans ?_ (by assumption)))); (first | done | fail)))⟩
    · obtain rfl : r = true := by rw [← hr]; exact decide_eq_true (q1.2 ⟨fun h => (by cases h), fun h => (by cases h), fun h => (by injection h with h _; exact ho h)⟩)
      have e1 : (o == n) = false := beq_eq_false_iff_ne.2 ho
      clear q1 hr
      go_enter Try.func45, Try.ntmps45
      go_wp2_with fail
      go_ret
      exact ⟨rfl, (by ((repeat (first | (with_reducible assumption) | (with_reducible exact Gr.refl _) | (with_reducible refine Gr.drew ?_) | (with_reducible refine Gr.alloc ?_ _) | (with_reducible refine Gr.trans ?_ (by assumption)))); (first | done | fail)))⟩
end Go.Proofs.Ytadmiecoahohiaa
