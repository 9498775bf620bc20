/- Rows of sets. -/
import Derived.Test.YtgmdfaamheblmaaPRet
import Derived.Test.YtgmdfaamheblmaaPOrd
import Derived.Test.YtgmdfaamheblmaaPStp
import Derived.Deep.MidRow
import Derived.Great.BuildSlice
import Derived.Deep.RegionLaw
namespace Go.Proofs.Ytgmdfaamheblmaa
open Go Go.RowKit PM

/-- the cells of a list of sets -/
def flE (Es : List (Nat → Nat → Bool)) : List Value := Es.flatMap fun R => cells .u32 (rowsR R)
theorem cellsR_len (R : Nat → Nat → Bool) : (cells .u32 (rowsR R)).length = 24 := by rw [cells_length, rowsR_len]
theorem flE_app (Es Fs) : flE (Es ++ Fs) = flE Es ++ flE Fs := List.flatMap_append
theorem flE_len : ∀ (Es : List (Nat → Nat → Bool)), (flE Es).length = Es.length * 24
  | [] => rfl
  | R :: Es => by
    have ih := flE_len Es
    have e : flE (R :: Es) = cells .u32 (rowsR R) ++ flE Es := rfl
    rw [e, List.length_append, cellsR_len, ih, List.length_cons]
    omega
theorem flE_at : ∀ (Es : List (Nat → Nat → Bool)) (k : Nat) (R : Nat → Nat → Bool), Es[k]? = some R → ∀ j v, (cells .u32 (rowsR R))[j]? = some v → (flE Es)[k * 24 + j]? = some v
  | [], k, R, h, _, _, _ => by simp at h
  | S :: Es, 0, R, h, j, v, hv => by
    simp at h; subst h
    have e : flE (S :: Es) = cells .u32 (rowsR S) ++ flE Es := rfl
    rw [e, Nat.zero_mul, Nat.zero_add, List.getElem?_append_left (List.getElem?_eq_some_iff.1 hv).1]
    exact hv
  | S :: Es, k + 1, R, h, j, v, hv => by
    have ih := flE_at Es k R (by simpa using h) j v hv
    have e : flE (S :: Es) = cells .u32 (rowsR S) ++ flE Es := rfl
    rw [e, List.getElem?_append_right (by rw [cellsR_len]; omega), cellsR_len, show (k + 1) * 24 + j - 24 = k * 24 + j by omega]
    exact ih
theorem flE_one (Es : List (Nat → Nat → Bool)) : ∀ u ∈ flE Es, u.oneCell' = true := by
  intro u hu
  obtain ⟨R, _, hR⟩ := List.mem_flatMap.1 hu
  exact cells_one _ _ u hR
/-- a row of sets of the call's own -/
def ER (w : World) (base : Nat) (A : Option Addr) (q c : Nat) (Es : List (Nat → Nat → Bool)) : Prop := w.ownsRow base 54 24 (.slice A q c) q (flE Es)
section
variable {w w' : World} {base q c : Nat} {A : Option Addr} {Es : List (Nat → Nat → Bool)}
theorem ER.len (h : ER w base A q c Es) : Es.length = q := by have := h.1; rw [flE_len] at this; omega
theorem ER.lt (h : ER w base A q c Es) : ∀ b o, A = some ⟨b, o, none⟩ → base ≤ b ∧ b < w.heap.size := fun b o e => World.ownsRow.lt h b (by rw [e]; rfl)
theorem ER.below (h : ER w base A q c Es) (hb : Below w.heap.size w w') : ER w' base A q c Es :=
  World.ownsRow.kept (row := none) h ⟨hb.os, hb.tape, hb.output, hb.size, fun i hi _ => hb.block i hi⟩ (by cases A <;> simp [Value.ownBlock])
theorem ER.head (h : ER w base A q c Es) (hq : 0 < q) : ∃ g, A = some ⟨g, 0, none⟩ ∧ base ≤ g ∧ g < w.heap.size := by
  have hl := ER.lt h
  rcases h.2 with ⟨_, h0⟩ | ⟨g, cap, cur, hv, hg, _⟩
  · omega
  · injection hv with e1 _ _
    exact ⟨g, e1, hl g 0 e1⟩
theorem ER.range {g : Nat} (h : ER w base (some ⟨g, 0, none⟩) q c Es) {k : Nat} {R : Nat → Nat → Bool} (hk : Es[k]? = some R) : w.rangeAt g (k * 24) (cells .u32 (rowsR R)) := by
  intro j v hv
  have := World.ownsRow.cells h (g := g) rfl (k * 24 + j) v (flE_at Es k R hk j v hv)
  have ea : (⟨g, 0, none⟩ : Addr).add (k * 24 + j) = ⟨g, k * 24 + j, none⟩ := by unfold Addr.add; split <;> simp_all
  rw [ea] at this
  exact this
end
theorem sets_info : (Try.prog.info? 54).map (fun i => (i.zero, i.size, i.bytes)) = some (some (.agg (cR noR)), 24, 96) := by kernel_rfl
theorem cR_list (R : Nat → Nat → Bool) : (cR R).toList = cells .u32 (rowsR R) := rfl
/-- 'append(s, x)': s the call's own row of sets, x sets in a new block. -/
theorem run_append_er {P : Program} (w : World) (base : Nat) (t ty : TypeId) (ht : P.underlying t = some (.slice 54)) (h2 : (P.info? 54).map (fun i => (i.zero, i.size, i.bytes)) = some (some (.agg (cR noR)), 24, 96))
    (S : Option Addr) (q cs : Nat) (Es : List (Nat → Nat → Bool)) (hown : ER w base S q cs Es) (g c : Nat) (R : Nat → Nat → Bool) (hr : OR w g R) (hN : q + 1 ≤ 1000) (hbase : base ≤ w.heap.size) :
    ∃ A' c' w', (Builtin.append_ #[t, t] ty #[.slice S q cs, .slice (some ⟨g, 0, none⟩) 1 c]).run P w = .ok (.slice A' (q + 1) c') w' ∧ ER w' base A' (q + 1) c' (Es ++ [R]) ∧ GrowA base S w w' := by
  obtain ⟨i, hi, hz, hs, hb⟩ := info_parts h2
  have hcl : ∀ b o, S = some ⟨b, o, none⟩ → base ≤ b := fun b o e => (hown.lt b o e).1
  have hS : S = none ∨ ∃ g, S = some ⟨g, 0, none⟩ := by
    rcases hown.2 with ⟨h1, _⟩ | ⟨g, cap, cur, h1, _⟩
    · injection h1 with e _ _; exact .inl e
    · injection h1 with e _ _; exact .inr ⟨g, e⟩
  have hnews : ∀ j u, (cells .u32 (rowsR R))[j]? = some u → w.cell? ((⟨g, 0, none⟩ : Addr).add j) = some u := by
    intro j u hu
    have ea : (⟨g, 0, none⟩ : Addr).add j = ⟨g, j, none⟩ := by unfold Addr.add; split <;> simp_all
    rw [ea, cell_of_row w g j _ _ (0, 0) hr.row]
    unfold cR
    rw [List.getElem?_toArray]; exact hu
  obtain ⟨v', w', hrun, r1, r2, _⟩ := run_append_own (P := P) w base t ty 54 i _ 24 96 ht hi hz hs hb (by exact cR_size noR) (by decide) _ q (flE Es) hown ⟨g, 0, none⟩ 1 c (cells .u32 (rowsR R)) (by rw [cellsR_len]) hnews (cells_one _ _) (by simp only [maxLen]; omega) (by omega) hbase
  have hv : ∃ A' c', v' = .slice A' (q + 1) c' := by
    rcases r1.2 with ⟨h, h0⟩ | ⟨g', cap', _, h, _⟩
    · omega
    · exact ⟨_, _, h⟩
  obtain ⟨A', c', rfl⟩ := hv
  refine ⟨A', c', w', hrun, ?_, growA_of hbase hcl hS r2⟩
  unfold ER
  rw [flE_app]
  have e : flE [R] = cells .u32 (rowsR R) := by unfold flE; simp
  rw [e]; exact r1
theorem fill_one (cs : Array Value) (h : cs.size = 24) : Instr.fill (fun i => some (i * 24, 24)) ((Array.range (1 * 24)).map ((Value.agg (cR noR)).cells[· % (Value.agg (cR noR)).cells.size]!)) [(0, .agg cs)] = some cs := by
  have := Great.fill_whole (s := 24) (by decide) [.agg cs] ((Array.range (1 * 24)).map ((Value.agg (cR noR)).cells[· % (Value.agg (cR noR)).cells.size]!)) (fun v hv => by
    simp at hv; subst hv; exact h) (by simp)
  have e : (([Value.agg cs].zipIdx 0).map fun x => (x.2, x.1)) = [(0, .agg cs)] := rfl
  rw [e] at this
  rw [this]
  simp [Value.cells]
theorem fill_two (cs : Array Value) (h : cs.size = 24) : Instr.fill (fun i => some (i * 24, 24)) ((Array.range (2 * 24)).map ((Value.agg (cR noR)).cells[· % (Value.agg (cR noR)).cells.size]!)) [(0, .agg (cR noR)), (1, .agg cs)] = some ((cR noR) ++ cs) := by
  have := Great.fill_whole (s := 24) (by decide) [.agg (cR noR), .agg cs] ((Array.range (2 * 24)).map ((Value.agg (cR noR)).cells[· % (Value.agg (cR noR)).cells.size]!)) (fun v hv => by
    simp at hv
    rcases hv with rfl | rfl
    · exact cR_size noR
    · exact h) (by simp)
  have e : (([Value.agg (cR noR), Value.agg cs].zipIdx 0).map fun x => (x.2, x.1)) = [(0, .agg (cR noR)), (1, .agg cs)] := rfl
  rw [e] at this
  rw [this]
  congr 1
  apply Array.ext'
  simp [Value.cells]
section
variable {P : Program} {w : World} {ops : Array Oper} {rest : List Oper} {o : Oper} {a : Act} {Q : Exit → Act → World → Prop}
theorem step_append_er {K : Act → World → Prop} {E : Prop} (hgd : o.guard = none) (s x : Operand) (t : TypeId)
    (ho : o.op = .call { callee := .builtin .append, args := #[s, x], argTypes := #[t, t] }) (ht : P.underlying t = some (.slice 54))
    (h2 : (P.info? 54).map (fun i => (i.zero, i.size, i.bytes)) = some (some (.agg (cR noR)), 24, 96))
    (base : Nat) (S : Option Addr) (q cs : Nat) (Es : List (Nat → Nat → Bool)) (hs : a.eval s = .slice S q cs) (hown : ER w base S q cs Es) (g c : Nat) (R : Nat → Nat → Bool) (hx : a.eval x = .slice (some ⟨g, 0, none⟩) 1 c) (hr : OR w g R) (p : Nat) (hp : p = q + 1) (hN : p ≤ 1000) (hbase : base ≤ w.heap.size)
    (hK : ∀ A' c' w', ER w' base A' p c' (Es ++ [R]) → GrowA base S w w' → K (a.put o.dst (.slice A' p c')) w') :
    if Region.wanted o (yielded ops a.tmps) = true then Oper.wp P o a w K Q else E := by
  have hw : Region.wanted o (yielded ops a.tmps) = true := by simp [Region.wanted, hgd]
  rw [if_pos hw]
  subst hp
  obtain ⟨A', c', w', hrun, h3, h4⟩ := run_append_er (P := P) w base t o.type ht h2 S q cs Es hown g c R hr hN hbase
  unfold Oper.wp execOp
  simp only [ho, resolve, invoke, builtin, Sem.run_bind, Sem.run_pure, Result.andThen_ok, List.map_toArray, List.map_cons, List.map_nil, hs, hx, hrun]
  exact hK _ _ _ h3 h4
theorem step_load_mid {K : Act → World → Prop} {E : Prop} (hgd : o.guard = none) (x : Operand) (ho : o.op = .load 54 x)
    (g k : Nat) (hx : a.eval x = .pointer (some ⟨g, k, none⟩)) (R : Nat → Nat → Bool) (hr : w.rangeAt g k (cells .u32 (rowsR R))) (hu : P.underlying 54 = some (.array 24 52)) (hi : (P.info? 54).map (·.size) = some 24)
    (hK : K (a.put o.dst (.agg (cR R))) w) :
    if Region.wanted o (yielded ops a.tmps) = true then Oper.wp P o a w K Q else E := by
  have hw : Region.wanted o (yielded ops a.tmps) = true := by simp [Region.wanted, hgd]
  rw [if_pos hw]
  exact wp_load_mid 54 x ho g k hx _ _ hr hu rfl (by rw [cellsR_len]; exact hi) hK
theorem step_load_or {K : Act → World → Prop} {E : Prop} (hgd : o.guard = none) (x : Operand) (ho : o.op = .load 54 x)
    (g : Nat) (hx : a.eval x = .pointer (some ⟨g, 0, none⟩)) (R : Nat → Nat → Bool) (hr : OR w g R) (hu : P.underlying 54 = some (.array 24 52)) (hi : (P.info? 54).map (·.size) = some 24)
    (hK : K (a.put o.dst (.agg (cR R))) w) :
    if Region.wanted o (yielded ops a.tmps) = true then Oper.wp P o a w K Q else E := by
  have hw : Region.wanted o (yielded ops a.tmps) = true := by simp [Region.wanted, hgd]
  rw [if_pos hw]
  exact wp_load_row 54 x ho g hx _ _ _ _ hr.row hu rfl (by rw [cR_size]; exact hi) hK
theorem step_build_er {K : Act → World → Prop} {E : Prop} (hgd : o.guard = none) (x : Operand) (t : TypeId) (ho : o.op = .buildSlice t 1 #[(0, x)])
    (F : Nat → Nat → Bool) (hx : a.eval x = .agg (cR F)) (ht : P.underlying t = some (.slice 54))
    (h2 : (P.info? 54).map (fun i => (i.zero, i.size, i.bytes)) = some (some (.agg (cR noR)), 24, 96))
    (hK : K (a.put o.dst (.slice (some ⟨w.heap.size, 0, none⟩) 1 1)) (w.alloc (.cells (cR F) 54))) :
    if Region.wanted o (yielded ops a.tmps) = true then Oper.wp P o a w K Q else E := by
  have hw : Region.wanted o (yielded ops a.tmps) = true := by simp [Region.wanted, hgd]
  rw [if_pos hw]
  obtain ⟨i, hi, hz, hs, hb⟩ := info_parts h2
  refine wp_buildSlice t 54 1 _ ho (cR F) i _ ht hi hz (by rw [hs]; decide) (by rw [hs]; decide) ?_ hK
  rw [hs]
  have e : ((#[(0, x)] : Array (Nat × Operand)).map fun (i, x) => (i, a.eval x)).toList = [(0, .agg (cR F))] := by simp [hx]
  rw [e]
  exact fill_one _ (cR_size F)
theorem wpList_build_er2 (hgd : o.guard = none) (x y : Operand) (t : TypeId) (ho : o.op = .buildSlice t 2 #[(0, x), (1, y)])
    (F : Nat → Nat → Bool) (hx : a.eval x = .agg (cR noR)) (hy : a.eval y = .agg (cR F)) (ht : P.underlying t = some (.slice 54))
    (h2 : (P.info? 54).map (fun i => (i.zero, i.size, i.bytes)) = some (some (.agg (cR noR)), 24, 96))
    (hK : wpList P ops Q rest (a.put o.dst (.slice (some ⟨w.heap.size, 0, none⟩) 2 2)) (w.alloc (.cells (cR noR ++ cR F) 54))) : wpList P ops Q (o :: rest) a w := by
  obtain ⟨i, hi, hz, hs, hb⟩ := info_parts h2
  refine wpList_buildSlice hgd t 54 2 _ ho (cR noR ++ cR F) i _ ht hi hz (by rw [hs]; decide) (by rw [hs]; decide) ?_ hK
  rw [hs]
  have e : ((#[(0, x), (1, y)] : Array (Nat × Operand)).map fun (i, x) => (i, a.eval x)).toList = [(0, .agg (cR noR)), (1, .agg (cR F))] := by simp [hx, hy]
  rw [e]
  exact fill_two _ (cR_size F)
end
theorem er_two (w : World) (base : Nat) (F : Nat → Nat → Bool) (hb : base ≤ w.heap.size) : ER (w.alloc (.cells (cR noR ++ cR F) 54)) base (some ⟨w.heap.size, 0, none⟩) 2 2 [noR, F] := by
  have := World.ownsRow_lit (base := base) (e := 54) (size := 24) w (cR noR ++ cR F) 2 hb (by simp [maxLen]) (by rw [Array.size_append, cR_size, cR_size])
  unfold ER
  have e : (cR noR ++ cR F).toList = flE [noR, F] := by
    rw [Array.toList_append, cR_list, cR_list]
    unfold flE; simp
  rwa [e] at this
end Go.Proofs.Ytgmdfaamheblmaa
