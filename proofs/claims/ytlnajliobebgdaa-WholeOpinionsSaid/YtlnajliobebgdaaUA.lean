/- Keys, sides and changes: the small functions of both sides. -/
import Derived.Test.YtlnajliobebgdaaUT
namespace Go.Proofs.Ytlnajliobebgdaa
open Go Go.RowKit Go.Lib

theorem keyE_any (x : Ent) (w : World) : Calls Try.prog 21 #[.agg #[.int .i64 x.k, .int .i64 x.v]] w fun e w' => e = .returned (.int .i64 x.k) ∧ Gr w w' := by
  go_enter Try.func21, Try.ntmps21
  go_wp2_with fail
  go_ret
  exact ⟨rfl, (by ((repeat (first | (with_reducible assumption) | (with_reducible exact Gr.refl _) | (with_reducible refine Gr.drew ?_) | (with_reducible refine Gr.alloc ?_ _) | (with_reducible refine Gr.trans ?_ (by assumption)))); (first | done | fail)))⟩

theorem keyC_any (x : Chg) (w : World) : Calls Try.prog 19 #[.agg #[.int .i64 x.k, .int .i64 x.o, .int .i64 x.n, .bool x.h, .bool x.s]] w fun e w' => e = .returned (.int .i64 x.k) ∧ Gr w w' := by
  go_enter Try.func19, Try.ntmps19
  go_wp2_with fail
  go_ret
  exact ⟨rfl, (by ((repeat (first | (with_reducible assumption) | (with_reducible exact Gr.refl _) | (with_reducible refine Gr.drew ?_) | (with_reducible refine Gr.alloc ?_ _) | (with_reducible refine Gr.trans ?_ (by assumption)))); (first | done | fail)))⟩

theorem before_any (x : Chg) (w : World) : Calls Try.prog 17 #[.agg #[.int .i64 x.k, .int .i64 x.o, .int .i64 x.n, .bool x.h, .bool x.s]] w fun e w' => e = .returned (.agg #[.int .i64 x.o, .bool x.h]) ∧ Gr w w' := by
  go_enter Try.func17, Try.ntmps17
  go_wp2_with fail
  exact bodyPost_ret (v := .agg #[.int .i64 x.o, .bool x.h]) (by simp [results, Try.results17, go_sem]) rfl ⟨rfl, (by ((repeat (first | (with_reducible assumption) | (with_reducible exact Gr.refl _) | (with_reducible refine Gr.drew ?_) | (with_reducible refine Gr.alloc ?_ _) | (with_reducible refine Gr.trans ?_ (by assumption)))); (first | done | fail)))⟩

theorem after_any (x : Chg) (w : World) : Calls Try.prog 22 #[.agg #[.int .i64 x.k, .int .i64 x.o, .int .i64 x.n, .bool x.h, .bool x.s]] w fun e w' => e = .returned (.agg #[.int .i64 x.n, .bool x.s]) ∧ Gr w w' := by
  go_enter Try.func22, Try.ntmps22
  go_wp2_with fail
  exact bodyPost_ret (v := .agg #[.int .i64 x.n, .bool x.s]) (by simp [results, Try.results22, go_sem]) rfl ⟨rfl, (by ((repeat (first | (with_reducible assumption) | (with_reducible exact Gr.refl _) | (with_reducible refine Gr.drew ?_) | (with_reducible refine Gr.alloc ?_ _) | (with_reducible refine Gr.trans ?_ (by assumption)))); (first | done | fail)))⟩

theorem chgOf_any (k : Int) (f t : Sd) (w : World) : Calls Try.prog 15 #[.int .i64 k, .agg #[.int .i64 f.v, .bool f.i], .agg #[.int .i64 t.v, .bool t.i]] w fun e w' => e = .returned (.agg #[.int .i64 k, .int .i64 f.v, .int .i64 t.v, .bool f.i, .bool t.i]) ∧ Gr w w' := by
  go_enter Try.func15, Try.ntmps15
  go_wp2_with fail
  exact bodyPost_ret (v := .agg #[.int .i64 k, .int .i64 f.v, .int .i64 t.v, .bool f.i, .bool t.i]) (by simp [results, Try.results15, go_sem]) rfl ⟨rfl, (by ((repeat (first | (with_reducible assumption) | (with_reducible exact Gr.refl _) | (with_reducible refine Gr.drew ?_) | (with_reducible refine Gr.alloc ?_ _) | (with_reducible refine Gr.trans ?_ (by assumption)))); (first | done | fail)))⟩

end Go.Proofs.Ytlnajliobebgdaa
