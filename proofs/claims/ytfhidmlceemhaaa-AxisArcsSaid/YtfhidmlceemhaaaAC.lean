/- The counts of a list: axis.count, countSome. -/
import Derived.Test.YtfhidmlceemhaaaAD
import Derived.Laws.Tables
import Derived.Laws.ResultCell
import Derived.Laws.Rows
namespace Go.Proofs.Ytfhidmlceemhaaa
open Go Go.RowKit Go.Lib
open AM
/-- the counts as a list, as a value, and in a block -/
def ctL (l : List Int) : List Nat := (List.range 12).map (ctX l)
theorem ctL_len (l : List Int) : (ctL l).length = 12 := by unfold ctL; simp
theorem ctL_at (l : List Int) {h : Nat} (hh : h < 12) : (ctL l)[h]? = some (ctX l h) := by
  unfold ctL
  rw [List.getElem?_map, List.getElem?_range hh]
  rfl
theorem ctL_set (l : List Int) {x : Int} {n : Nat} (hx : x = (n : Int)) : (ctL l).set n (ctX l n + 1) = ctL (l ++ [x]) := by
  apply List.ext_getElem?
  intro j
  by_cases hj : j < 12
  · rw [ctL_at _ hj, ctX_snoc, List.getElem?_set]
    by_cases e : n = j
    · subst e
      rw [if_pos rfl, if_pos (by rw [ctL_len]; exact hj), if_pos hx]
    · rw [if_neg e, ctL_at _ hj, if_neg (by omega)]
      rfl
  · rw [List.getElem?_eq_none (by rw [List.length_set, ctL_len]; omega), List.getElem?_eq_none (by rw [ctL_len]; omega)]
def cX (l : List Int) : Array Value := (cells .i64 (ctL l)).toArray
theorem zeros12 : (#[.int .i64 0, .int .i64 0, .int .i64 0, .int .i64 0, .int .i64 0, .int .i64 0, .int .i64 0, .int .i64 0, .int .i64 0, .int .i64 0, .int .i64 0, .int .i64 0] : Array Value) = cX [] := by kernel_rfl
theorem cX_size (l : List Int) : (cX l).size = 12 := by simp [cX, cells_length, ctL_len]
theorem cX_info (l : List Int) : (Try.prog.info? 41).map (·.size) = some (cX l).size := by rw [cX_size]; kernel_rfl
theorem cX_one (l : List Int) : (cX l).all (·.oneCell') = true := by
  rw [Array.all_eq_true_iff_forall_mem]
  intro v hv
  exact cells_one .i64 (ctL l) v (by simpa [cX] using hv)
def OC (w : World) (g : Nat) (l : List Int) : Prop := Own w g .i64 41 (ctL l)
section
variable {w w' : World} {g : Nat} {l : List Int}
theorem OC.row (h : OC w g l) : w.heap[g]? = some (.cells (cX l) 41 (0, 0)) := h
theorem OC.of (h : w.heap[g]? = some (.cells (cX l) 41 (0, 0))) : OC w g l := h
theorem OC.lt (h : OC w g l) : g < w.heap.size := Own.lt h
theorem OC.cell (h : OC w g l) {i : Nat} (hi : i < 12) : w.cell? ⟨g, i, none⟩ = some (.int .i64 (ctX l i : Int)) := Own.cell h (ctL_at l hi)
theorem OC.frozen (h : OC w g l) (j : Nat) : w.frozen? ⟨g, j, none⟩ = false := Own.frozen h j
theorem OC.below' (h : OC w g l) (hb : Below w.heap.size w w') : OC w' g l := Own.below' h hb
theorem OC.far (h : OC w g l) {p : Addr} (hp : g ≠ p.block) (u : Value) : OC (w.setCell p u) g l := Own.far h hp u
theorem OC.drewN (h : OC w g l) (m : Nat) : OC (w.drewN m) g l := h
theorem OC.put (h : OC w g l) {x : Int} {n : Nat} (hx : x = (n : Int)) {v : Int} (e : v = (ctX l n : Int) + 1) : OC (w.setCell ⟨g, n, none⟩ (.int .i64 v)) g (l ++ [x]) := by
  have := Own.put h n (v := v) (x := ctX l n + 1) (by omega)
  unfold OC
  rwa [ctL_set l hx] at this
theorem OC.setRow (h : OC w g l) (m : List Int) : OC (w.setRow g (cX m)) g m := setRow_heap w g _ _ _ _ h
theorem OC.setOther (h : OC w g l) {k : Nat} (hk : g ≠ k) (cs : Array Value) : OC (w.setRow k cs) g l := (setRow_other w k g cs hk).trans h
end
theorem below_rowC {B g : Nat} {a w : World} (h : Below B a w) (hg : B ≤ g) (cs : Array Value) : Below B a (w.setRow g cs) :=
  h.trans ⟨rfl, rfl, rfl, by simp, fun i hi => setRow_other w g i cs (by omega)⟩
theorem boxC1 {w W : World} {c0 : Array Value} (hW : w.alloc (.cells c0 41) = W) (l : List Int) (h0 : c0 = cX l) :
    Below w.heap.size w W ∧ OC W w.heap.size l ∧ W.heap.size = w.heap.size + 1 := by
  subst h0
  subst hW
  exact ⟨(Below.refl _ _).alloc (Nat.le_refl _) _, Own.new _ _ _ _, by simp⟩
theorem results_cell_row_tmp {P : Program} {fn : Func} {p u : Tmp} {ty : TypeId} (h : fn.results = #[.cell p ty, .tmp u]) (tmps : Array Value) (w : World) (g : Nat) (t : TypeId) (cs : Array Value) (fr : Nat × Nat) (d : TypeDesc)
    (hp : tmps.getD p undef = .pointer (some ⟨g, 0, none⟩)) (x : Value) (hx : tmps.getD u undef = x) (hg : w.heap[g]? = some (.cells cs t fr))
    (hu : P.underlying ty = some d) (hd : (match d with | .struct _ | .array _ _ => true | _ => false) = true) (hi : (P.info? ty).map (·.size) = some cs.size) :
    (results fn tmps).run P w = .ok (.tuple #[.agg cs, x]) w := by
  rw [results_cell_tmp h, hp, hx]
  simp [asAddr, Result.andThen, run_loadVar_row w g t ty cs fr d hg hu hd hi]
theorem OC.stored {w : World} {g : Nat} {l : List Int} (h : OC w g l) (m : List Int) : Sem.run Try.prog (storeCells ⟨g, 0, none⟩ (cX m).toList) w = .ok () (w.setRow g (cX m)) := by
  have := run_storeCells_from (P := Try.prog) g 41 (cX m).toList 0 (cX l) w h.row (by simp [cX_size]) (fun v hv => (Array.all_eq_true_iff_forall_mem.1 (cX_one m)) v (by simpa using hv))
  have e : (cX l).toList.drop 12 = [] := List.drop_of_length_le (by simp [cX_size])
  simpa [cX_size, e] using this
/-- what count gives -/
def cR10 (l : List Int) : Array Value := if chkX l = 0 then cX l else cX []
theorem cR10_size (l : List Int) : (cR10 l).size = 12 := by unfold cR10; split <;> exact cX_size _
set_option maxHeartbeats 2000000 in
theorem count_full (A : Option Addr) (n c : Nat) (w : World) (h : 64 < n) :
    Calls Try.prog 32 #[.slice A n c] w fun e w' => e = .returned (.tuple #[.agg (cX []), .int .i64 6]) ∧ Below w.heap.size w w' := by
  have d1 : decide ((n : Int) > 64) = true := decide_eq_true (by omega)
  have d2 : decide ((64 : Int) < (n : Int)) = true := decide_eq_true (by omega)
  go_enter Try.func32, Try.ntmps32
  have F := boxC1 (rfl : w.alloc (.cells _ 41) = _) [] zeros12
  go_wp2_with fail
  have hr := F.2.1.row
  refine bodyPost_ret (v := .tuple #[.agg (cX []), .int .i64 6]) (results_cell_row_tmp rfl _ _ w.heap.size 41 _ (0, 0) _ rfl _ rfl hr Try.underlying41 rfl (cX_info _)) rfl ?_
  exact ⟨rfl, F.1⟩
set_option maxHeartbeats 8000000 in
theorem count_small (A : Option Addr) (n c : Nat) (l : List Int) (w : World) (hr : IS w A n l) (h : n ≤ 64) :
    Calls Try.prog 32 #[.slice A n c] w fun e w' => e = .returned (.tuple #[.agg (cR10 l), .int .i64 (chkX l)]) ∧ Below w.heap.size w w' := by
  have HR := hide hr
  have HL := hide hr.1
  have d1 : decide ((n : Int) > 64) = false := decide_eq_false (by omega)
  have d2 : decide ((64 : Int) < (n : Int)) = false := decide_eq_false (by omega)
  clear hr
  go_enter Try.func32, Try.ntmps32
  go_wp2_with fail
  generalize hW : (w.alloc _).alloc _ = W
  obtain ⟨B, o2, o4⟩ : Below w.heap.size w W ∧ OC W w.heap.size [] ∧ OC W (w.heap.size + 1) [] := by
    obtain ⟨a1, a2, a3⟩ := boxC1 (rfl : w.alloc (.cells _ 41) = _) [] zeros12
    obtain ⟨b1, b2, b3⟩ := boxC1 hW [] zeros12
    rw [a3] at b2
    exact ⟨nxt a1 b1, a2.below' b1, b2⟩
  clear hW
  go_loopw [13] (fun v wr => ∃ k : Nat, k ≤ n ∧ v = .int .i64 (k : Int) ∧ Hid ((l.take k).all hrX = true) ∧ Hid (OC wr w.heap.size []) ∧ Hid (OC wr (w.heap.size + 1) (l.take k)) ∧ Hid (Below w.heap.size w wr)) (fun v _ => n - (RowKit.intOf v).toNat)
  case atStart => exact ⟨0, Nat.zero_le _, rfl, rfl, o2, o4, B⟩
  case round =>
    clear B o2 o4
    obtain ⟨k, hk, rfl, HA, H2, H4, HB⟩ := hrel
    have l4 := H4.out.lt
    by_cases hlt : k < n
    · obtain ⟨b, o, x, rfl, hl, hxk, k0⟩ := (HR.out.keep HB.out).at_ hlt
      have HXK := hide hxk
      have i0 : decide ((k : Int) < (n : Int)) = true := decide_eq_true (by omega)
      have i2 : (0 : Int) ≤ (k : Int) := by omega
      have i3 : (k : Int) < (n : Int) := by omega
      clear hxk
      by_cases hx : 0 ≤ x ∧ x < 12
      · have HX := hide (hrX_iff.2 hx)
        obtain ⟨m, rfl⟩ : ∃ m : Nat, x = (m : Int) := ⟨x.toNat, by omega⟩
        have hm : m < 12 := by omega
        clear hx
        go_wp2_with fail
        refine (hour_any (m : Int) _ true HX.out).mono ?_
        rintro e w1 ⟨rfl, rfl⟩
        have z2 := H4.out.cell hm
        have z3 := H4.out.frozen m
        obtain ⟨u, hu⟩ : ∃ u, ctX (l.take k) m = u := ⟨_, rfl⟩
        have hu2 : u ≤ 64 := by rw [← hu]; have := ctX_le (l.take k) m; rw [List.length_take] at this; omega
        rw [hu] at z2
        have HU := hide hu
        clear hu
        have w3 : IntKind.i64.wrap ((u : Int) + 1) = (u : Int) + 1 := IntWalk.i64_in _ (by omega)
        have i4 : (0 : Int) ≤ (m : Int) := by omega
        have i5 : (m : Int) < 12 := by omega
        go_wp2_with fail
        go_roundw
        case measure => simp [RowKit.intOf]; omega
        case rel =>
          refine ⟨k + 1, by omega, by go_num, ?_, hide (H2.out.far (by simp) _), hide ?_, hide (HB.out.setCell (by simp) _)⟩
          · rw [take_next HXK.out]
            unfold Hid
            rw [List.all_append, HA.out, List.all_cons, HX.out]
            rfl
          · rw [take_next HXK.out]
            exact OC.put H4.out rfl (by rw [HU.out])
      · have HX := hide (hrX_not.2 hx)
        have HE := hide (show chkX l = 1 from chkX_arg (by rw [HL.out]; exact h) (all_not HXK.out hx))
        clear hx
        go_wp2_with fail
        refine (hour_any x _ false HX.out).mono ?_
        rintro e w1 ⟨rfl, rfl⟩
        have Z := zeros12
        have ZS := H2.out.stored []
        go_wp2_with fail
        have hr := (H2.out.setRow []).row
        rw [HE.out]
        refine bodyPost_ret (v := .tuple #[.agg (cX []), .int .i64 1]) (results_cell_row_tmp rfl _ _ w.heap.size 41 _ (0, 0) _ rfl _ rfl hr Try.underlying41 rfl (cX_info _)) rfl ?_
        exact ⟨by rw [show cR10 l = cX [] from if_neg (by rw [HE.out]; decide)], below_rowC HB.out (Nat.le_refl _) _⟩
    · obtain rfl : k = n := by omega
      have i0 : decide ((k : Int) < (k : Int)) = false := decide_eq_false (by omega)
      have HT := hide (show l.take k = l from List.take_of_length_le (by rw [HL.out]; exact Nat.le_refl _))
      rw [HT.out] at H4 HA
      have HE := hide (show chkX l = 0 from chkX_ok.2 ⟨by rw [HL.out]; exact h, HA.out⟩)
      go_wp2_with (first | (refine wpList_load_row rfl 41 _ rfl (w.heap.size + 1) rfl 41 _ (0, 0) _ H4.out.row Try.underlying41 rfl (cX_info _) ?_) | (refine wpList_store_row rfl 41 _ _ rfl w.heap.size _ rfl rfl 41 _ H2.out.row (cX_info _) (by rw [cX_size, cX_size]) (cX_one _) ?_))
      have hr := (H2.out.setRow l).row
      rw [HE.out]
      refine bodyPost_ret (v := .tuple #[.agg (cX l), .int .i64 0]) (results_cell_row_tmp rfl _ _ w.heap.size 41 _ (0, 0) _ rfl _ rfl hr Try.underlying41 rfl (cX_info _)) rfl ?_
      exact ⟨by rw [show cR10 l = cX l from if_pos HE.out], below_rowC HB.out (Nat.le_refl _) _⟩
theorem count_any (A : Option Addr) (n c : Nat) (l : List Int) (w : World) (hr : IS w A n l) :
    Calls Try.prog 32 #[.slice A n c] w fun e w' => e = .returned (.tuple #[.agg (cR10 l), .int .i64 (chkX l)]) ∧ Below w.heap.size w w' := by
  by_cases h : n ≤ 64
  · exact count_small A n c l w hr h
  · have e : chkX l = 6 := chkX_full (by rw [hr.1]; omega)
    rw [show cR10 l = cX [] from if_neg (by rw [e]; decide), e]
    exact count_full A n c w (by omega)
set_option maxHeartbeats 2000000 in
theorem some_any (A : Option Addr) (n c : Nat) (l : List Int) (w : World) (hr : IS w A n l) :
    Calls Try.prog 35 #[.slice A n c] w fun e w' => e = .returned (.tuple #[.agg (cR10 l), .int .i64 (chkSX l)]) ∧ Below w.heap.size w w' := by
  by_cases h : n = 0
  · subst h
    obtain rfl : l = [] := List.length_eq_zero_iff.1 hr.1
    clear hr
    go_enter Try.func35, Try.ntmps35
    have F := boxC1 (rfl : w.alloc (.cells _ 41) = _) [] zeros12
    go_wp2_with fail
    have hr := F.2.1.row
    refine bodyPost_ret (v := .tuple #[.agg (cX []), .int .i64 7]) (results_cell_row_tmp rfl _ _ w.heap.size 41 _ (0, 0) _ rfl _ rfl hr Try.underlying41 rfl (cX_info _)) rfl ?_
    exact ⟨rfl, F.1⟩
  · have HR := hide hr
    have d1 : ((n : Int) == 0) = false := beq_eq_false_iff_ne.2 (by omega)
    have e : chkSX l = chkX l := chkSX_ne (fun e => h (by rw [← hr.1, e]; rfl))
    rw [e]
    clear hr e
    go_enter Try.func35, Try.ntmps35
    go_wp2_with fail
    generalize hW : w.alloc _ = W
    obtain ⟨B, o2, -⟩ := boxC1 hW [] zeros12
    clear hW
    refine (count_any A n c l _ (HR.out.keep B)).mono ?_
    rintro e w1 ⟨rfl, hb⟩
    replace o2 := o2.below' hb
    replace B := nxt B hb
    obtain ⟨m, hm⟩ : ∃ m, cR10 l = cX m := by unfold cR10; split <;> exact ⟨_, rfl⟩
    rw [hm]
    replace hm := hide hm
    go_wp2_with (first | (refine wpList_store_row rfl 41 _ _ rfl w.heap.size _ rfl rfl 41 _ o2.row (cX_info _) (by rw [cX_size, cX_size]) (cX_one _) ?_))
    have hr := (o2.setRow m).row
    refine bodyPost_ret (v := .tuple #[.agg (cX m), .int .i64 (chkX l)]) (results_cell_row_tmp rfl _ _ w.heap.size 41 _ (0, 0) _ rfl _ rfl hr Try.underlying41 rfl (cX_info _)) rfl ?_
    exact ⟨by rw [hm.out], below_rowC B (Nat.le_refl _) _⟩
end Go.Proofs.Ytfhidmlceemhaaa
