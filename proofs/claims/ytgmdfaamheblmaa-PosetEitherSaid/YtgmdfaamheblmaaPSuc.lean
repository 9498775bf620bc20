/- Successors, predecessors. -/
import Derived.Test.YtgmdfaamheblmaaPVal
import Derived.Laws.Rows
import Derived.Laws.Tables
import Derived.StillTailTactics
namespace Go.Proofs.Ytgmdfaamheblmaa
open Go Go.RowKit PM

def noR : Nat → Nat → Bool := fun _ _ => false
/-- the value of a relation's sets -/
def cR (R : Nat → Nat → Bool) : Array Value := (cells .u32 (rowsR R)).toArray
theorem zeros24 : (#[.int .u32 0, .int .u32 0, .int .u32 0, .int .u32 0, .int .u32 0, .int .u32 0, .int .u32 0, .int .u32 0, .int .u32 0, .int .u32 0, .int .u32 0, .int .u32 0, .int .u32 0, .int .u32 0, .int .u32 0, .int .u32 0, .int .u32 0, .int .u32 0, .int .u32 0, .int .u32 0, .int .u32 0, .int .u32 0, .int .u32 0, .int .u32 0] : Array Value) = cR noR := by kernel_rfl
theorem cR_size (R : Nat → Nat → Bool) : (cR R).size = 24 := by simp [cR, cells_length, rowsR_len]
theorem cR_info (R : Nat → Nat → Bool) : (Try.prog.info? 54).map (·.size) = some (cR R).size := by rw [cR_size]; kernel_rfl
theorem cR_one (R : Nat → Nat → Bool) : (cR R).all (·.oneCell') = true := by
  rw [Array.all_eq_true_iff_forall_mem]
  intro v hv
  exact cells_one .u32 (rowsR R) v (by simpa [cR] using hv)
theorem cR_ext {R S : Nat → Nat → Bool} (h : ∀ i j, i < 24 → j < 24 → R i j = S i j) : cR R = cR S := by unfold cR; rw [rowsR_ext h]
/-- sets in a block -/
def OR (w : World) (g : Nat) (R : Nat → Nat → Bool) : Prop := Own w g .u32 54 (rowsR R)
section
variable {w w' : World} {g : Nat} {R S : Nat → Nat → Bool}
theorem OR.row (h : OR w g R) : w.heap[g]? = some (.cells (cR R) 54 (0, 0)) := h
theorem OR.of (h : w.heap[g]? = some (.cells (cR R) 54 (0, 0))) : OR w g R := h
theorem OR.lt (h : OR w g R) : g < w.heap.size := Own.lt h
theorem OR.cell (h : OR w g R) {i : Nat} (hi : i < 24) : w.cell? ⟨g, i, none⟩ = some (.int .u32 (msk (R i) : Int)) := Own.cell h (rowsR_at R hi)
theorem OR.frozen (h : OR w g R) (j : Nat) : w.frozen? ⟨g, j, none⟩ = false := Own.frozen h j
theorem OR.below' (h : OR w g R) (hb : Below w.heap.size w w') : OR w' g R := Own.below' h hb
theorem OR.far (h : OR w g R) {p : Addr} (hp : g ≠ p.block) (u : Value) : OR (w.setCell p u) g R := Own.far h hp u
theorem OR.drew (h : OR w g R) : OR w.drew g R := h
theorem OR.drewN (h : OR w g R) (m : Nat) : OR (w.drewN m) g R := h
theorem OR.put (h : OR w g R) {i : Nat} (hi : i < 24) (hs : ∀ a b, a ≠ i → R a b = S a b) {v : Int} (e : v = (msk (S i) : Int)) : OR (w.setCell ⟨g, i, none⟩ (.int .u32 v)) g S := by
  have := Own.put h i e
  unfold OR
  rwa [rowsR_set hi hs] at this
theorem OR.setRow (h : OR w g R) (S : Nat → Nat → Bool) : OR (w.setRow g (cR S)) g S := setRow_heap w g _ _ _ _ h
theorem OR.setOther (h : OR w g R) {k : Nat} (hk : g ≠ k) (cs : Array Value) : OR (w.setRow k cs) g R := (setRow_other w k g cs hk).trans h
theorem OR.cast (h : OR w g R) (e : ∀ i j, i < 24 → j < 24 → R i j = S i j) : OR w g S := by unfold OR at *; rwa [← rowsR_ext e]
end
theorem below_row {B g : Nat} {a w : World} (h : Below B a w) (hg : B ≤ g) (cs : Array Value) : Below B a (w.setRow g cs) :=
  h.trans ⟨rfl, rfl, rfl, by simp, fun i hi => setRow_other w g i cs (by omega)⟩
theorem boxO {w W : World} {c0 c1 : Array Value} (hW : (w.alloc (.cells c0 54)).alloc (.cells c1 54) = W) (R S : Nat → Nat → Bool) (h0 : c0 = cR R) (h1 : c1 = cR S) :
    Below w.heap.size w W ∧ OR W w.heap.size R ∧ OR W (w.heap.size + 1) S := by
  subst h0; subst h1
  exact boxD hW
theorem boxO1 {w W : World} {c0 : Array Value} (hW : w.alloc (.cells c0 54) = W) (R : Nat → Nat → Bool) (h0 : c0 = cR R) :
    Below w.heap.size w W ∧ OR W w.heap.size R := by
  subst h0
  obtain ⟨a, b, _⟩ := boxC hW
  exact ⟨a, b⟩
theorem take_nextA {bs : List (Nat × Nat)} {k : Nat} {p : Nat × Nat} (h : bs[k]? = some p) : bs.take (k + 1) = bs.take k ++ [p] := by
  rw [List.take_add_one, h]; rfl
theorem adj_snoc (l : List (Nat × Nat)) (p q i j : Nat) : adj (l ++ [(p, q)]) i j = (adj l i j || (i == p && j == q)) := by
  rw [Bool.eq_iff_iff, adj_iff, List.mem_append, Bool.or_eq_true, adj_iff, Bool.and_eq_true, beq_iff_eq, beq_iff_eq]
  simp
set_option maxHeartbeats 4000000 in
theorem suc_any (A : Option Addr) (m c : Nat) (n : Nat) (bs : List (Nat × Nat)) (w : World) (hd : Dig n bs) (hx : YL w A m (bs.map zA)) :
    Calls Try.prog 43 #[.slice A m c] w fun e w' => e = .returned (.agg (cR (adj (bs)))) ∧ Below w.heap.size w w' := by
  have HX := hide hx
  have HD := hide hd
  have hml : m ≤ 576 := by have := hd.len576; have := hx.1; simp at this; omega
  clear hx hd
  go_enter Try.func43, Try.ntmps43
  go_wp2_with fail
  generalize hW : (w.alloc _).alloc _ = W
  obtain ⟨B, o2, o3⟩ := boxO hW noR noR zeros24 zeros24
  clear hW
  go_loopw [8] (fun v8 wr => ∃ (k : Nat), k ≤ m ∧ v8 = .int .i64 ((k : Nat) : Int) ∧ Below w.heap.size w wr ∧ OR wr w.heap.size noR ∧ OR wr (w.heap.size + 1) (adj (bs.take k))) (fun v8 _ => m - (RowKit.intOf v8).toNat)
  case atStart => exact ⟨0, by omega, rfl, B, o2, o3⟩
  case round =>
    clear B o2 o3
    obtain ⟨k, hk, rfl, B, o2, o3⟩ := hrel
    by_cases hlt : k < m
    · obtain ⟨b, o, y, rfl, hbl, hy, k0, k1⟩ := (HX.out.keep B).at_ hlt
      obtain ⟨⟨p, q⟩, hp, rfl⟩ := zA_at hy
      have hf := HD.out.fits _ (List.mem_of_getElem? hp)
      have hn := HD.out.le
      simp only at hf
      have hp24 : p < 24 := by omega
      have hq24 : q < 24 := by omega
      simp only [zA] at k0 k1
      have HP := hide hp
      clear hy hp
      go_wp2_with fail
      generalize hW : wr.alloc _ = W'
      obtain ⟨hb, bx, -⟩ := boxC hW
      clear hW
      have B := B.trans (hb.mono B.size)
      have o2 := o2.below' hb
      have o3 := o3.below' hb
      have z0 : W'.cell? ⟨wr.heap.size, 0, none⟩ = some (.int .i64 (p : Int)) := bx.at_ 0
      have z1 : W'.cell? ⟨wr.heap.size, 1, none⟩ = some (.int .i64 (q : Int)) := bx.at_ 1
      have lx := bx.lt
      have z2 := o3.cell hp24
      have z3 := o3.frozen p
      clear k0 k1
      have i1 : (0 : Int) ≤ (p : Int) := by omega
      have i2 : (p : Int) < 24 := by omega
      refine wp_region_still_tail 10 (by kernel_rfl) (by kernel_rfl) ?_
      simp only [List.take_succ_cons, List.take_zero, List.drop_succ_cons, List.drop_zero]
      iterate 8 still_step
      still_call ((with_any _ q hq24 _ _ rfl).mono fun _ _ ⟨h, h'⟩ => ⟨h, h'.symm⟩)
      still_step
      refine wpStill_nil ?_
      change wpList _ _ _ _ _ W'.drew
      go_wp2_with fail
      go_roundw
      case measure => simp [RowKit.intOf]; omega
      case rel =>
        refine ⟨k + 1, by omega, by go_num, (B.drew).setCell (by simp) _, o2.drew.far (by simp) _, OR.put (R := (adj (bs.take k))) o3.drew hp24 (fun x y hx => by rw [take_nextA HP.out, adj_snoc, beq_eq_false_iff_ne.2 hx, Bool.false_and, Bool.or_false]) (by rw [take_nextA HP.out]; congr 1; refine msk_ext fun j _ => ?_; rw [adj_snoc, beq_self_eq_true, Bool.true_and])⟩
    · obtain rfl : k = m := by omega
      have HE : Hid (bs.take k = bs) := List.take_of_length_le (by have := HX.out.1; simp at this; omega)
      rw [HE.out] at o3
      go_wp2_with (first | (refine wpList_load_row rfl 54 _ rfl (w.heap.size + 1) rfl 54 _ (0, 0) _ o3.row Try.underlying54 rfl (cR_info _) ?_) | (refine wpList_store_row rfl 54 _ _ rfl w.heap.size _ rfl rfl 54 _ o2.row (cR_info _) (by rw [cR_size, cR_size]) (cR_one _) ?_))
      have hr := (o2.setRow (adj (bs))).row
      refine bodyPost_ret (v := .agg (cR (adj (bs)))) (results_cell_row rfl _ _ w.heap.size 54 _ (0, 0) _ rfl hr Try.underlying54 rfl (cR_info _)) rfl ?_
      exact ⟨rfl, below_row B (Nat.le_refl _) _⟩
set_option maxHeartbeats 4000000 in
theorem pre_any (A : Option Addr) (m c : Nat) (n : Nat) (bs : List (Nat × Nat)) (w : World) (hd : Dig n bs) (hx : YL w A m (bs.map zA)) :
    Calls Try.prog 53 #[.slice A m c] w fun e w' => e = .returned (.agg (cR (fun i j => adj (bs) j i))) ∧ Below w.heap.size w w' := by
  have HX := hide hx
  have HD := hide hd
  have hml : m ≤ 576 := by have := hd.len576; have := hx.1; simp at this; omega
  clear hx hd
  go_enter Try.func53, Try.ntmps53
  go_wp2_with fail
  generalize hW : (w.alloc _).alloc _ = W
  obtain ⟨B, o2, o3⟩ := boxO hW noR noR zeros24 zeros24
  clear hW
  go_loopw [8] (fun v8 wr => ∃ (k : Nat), k ≤ m ∧ v8 = .int .i64 ((k : Nat) : Int) ∧ Below w.heap.size w wr ∧ OR wr w.heap.size noR ∧ OR wr (w.heap.size + 1) (fun i j => adj (bs.take k) j i)) (fun v8 _ => m - (RowKit.intOf v8).toNat)
  case atStart => exact ⟨0, by omega, rfl, B, o2, o3⟩
  case round =>
    clear B o2 o3
    obtain ⟨k, hk, rfl, B, o2, o3⟩ := hrel
    by_cases hlt : k < m
    · obtain ⟨b, o, y, rfl, hbl, hy, k0, k1⟩ := (HX.out.keep B).at_ hlt
      obtain ⟨⟨p, q⟩, hp, rfl⟩ := zA_at hy
      have hf := HD.out.fits _ (List.mem_of_getElem? hp)
      have hn := HD.out.le
      simp only at hf
      have hp24 : p < 24 := by omega
      have hq24 : q < 24 := by omega
      simp only [zA] at k0 k1
      have HP := hide hp
      clear hy hp
      go_wp2_with fail
      generalize hW : wr.alloc _ = W'
      obtain ⟨hb, bx, -⟩ := boxC hW
      clear hW
      have B := B.trans (hb.mono B.size)
      have o2 := o2.below' hb
      have o3 := o3.below' hb
      have z0 : W'.cell? ⟨wr.heap.size, 0, none⟩ = some (.int .i64 (p : Int)) := bx.at_ 0
      have z1 : W'.cell? ⟨wr.heap.size, 1, none⟩ = some (.int .i64 (q : Int)) := bx.at_ 1
      have lx := bx.lt
      have z2 := o3.cell hq24
      have z3 := o3.frozen q
      clear k0 k1
      have i1 : (0 : Int) ≤ (q : Int) := by omega
      have i2 : (q : Int) < 24 := by omega
      refine wp_region_still_tail 10 (by kernel_rfl) (by kernel_rfl) ?_
      simp only [List.take_succ_cons, List.take_zero, List.drop_succ_cons, List.drop_zero]
      iterate 8 still_step
      still_call ((with_any _ p hp24 _ _ rfl).mono fun _ _ ⟨h, h'⟩ => ⟨h, h'.symm⟩)
      still_step
      refine wpStill_nil ?_
      change wpList _ _ _ _ _ W'.drew
      go_wp2_with fail
      go_roundw
      case measure => simp [RowKit.intOf]; omega
      case rel =>
        refine ⟨k + 1, by omega, by go_num, (B.drew).setCell (by simp) _, o2.drew.far (by simp) _, OR.put (R := (fun i j => adj (bs.take k) j i)) o3.drew hq24 (fun x y hx => by show adj _ y x = adj _ y x; rw [take_nextA HP.out, adj_snoc, beq_eq_false_iff_ne.2 hx, Bool.and_false, Bool.or_false]) (by rw [take_nextA HP.out]; congr 1; refine msk_ext fun j _ => ?_; show _ = adj _ j q; rw [adj_snoc, beq_self_eq_true, Bool.and_true])⟩
    · obtain rfl : k = m := by omega
      have HE : Hid (bs.take k = bs) := List.take_of_length_le (by have := HX.out.1; simp at this; omega)
      rw [HE.out] at o3
      go_wp2_with (first | (refine wpList_load_row rfl 54 _ rfl (w.heap.size + 1) rfl 54 _ (0, 0) _ o3.row Try.underlying54 rfl (cR_info _) ?_) | (refine wpList_store_row rfl 54 _ _ rfl w.heap.size _ rfl rfl 54 _ o2.row (cR_info _) (by rw [cR_size, cR_size]) (cR_one _) ?_))
      have hr := (o2.setRow (fun i j => adj (bs) j i)).row
      refine bodyPost_ret (v := .agg (cR (fun i j => adj (bs) j i))) (results_cell_row rfl _ _ w.heap.size 54 _ (0, 0) _ rfl hr Try.underlying54 rfl (cR_info _)) rfl ?_
      exact ⟨rfl, below_row B (Nat.le_refl _) _⟩
end Go.Proofs.Ytgmdfaamheblmaa
