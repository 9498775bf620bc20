/- specimen.Import. -/
import Derived.Test.YtaapcfflnklpjaaGreatDoorSO
import Derived.Test.YtaapcfflnklpjaaGreatDoorST
namespace Go.Proofs.YtaapcfflnklpjaaGreatDoor
open Go Go.RowKit Go.Lib
attribute [local go_sem] Oper.semAt_some
theorem own_lie {w w' : World} {base size n : Nat} {e : TypeId} {v : Value} {xs : List Value} (h : w.ownsRow base e size v n xs) (hk : ∀ k, base ≤ k → k < w.heap.size → w'.heap[k]? = w.heap[k]?) : w'.ownsRow base e size v n xs := by
  refine ⟨h.1, ?_⟩
  rcases h.2 with h | ⟨g, c, cur, e1, hb, hg, r⟩
  · exact .inl h
  · exact .inr ⟨g, c, cur, e1, hb, (hk g hb (Array.getElem?_eq_some_iff.1 hg).1).trans hg, r⟩
/-- what Import gives -/
def GivesI (l : List UInt8) (w : World) (e : Ending) (w' : World) : Prop :=
  ∃ A n c xs er, e = .returned (.tuple #[.slice A n c, .int .i64 er]) ∧ SL w' A n xs ∧ n ≤ 5000 ∧ IR9 l xs er ∧ Below w.heap.size w w'
theorem box_imp {w W : World} {v0 v1 : Value} {t0 t1 : TypeId} (hW : (w.alloc (.cells #[v0] t0)).alloc (.cells #[v1] t1) = W) : Below w.heap.size w W ∧ Box W w.heap.size #[v0] t0 ∧ Box W (w.heap.size + 1) #[v1] t1 ∧ W.heap.size = w.heap.size + 2 := by
  subst hW
  have e2 := Box.new (w.alloc (.cells #[v0] t0)) #[v1] t1
  rw [World.size_alloc] at e2
  exact ⟨((Below.refl _ _).alloc (Nat.le_refl _) _).alloc (by simp) _, (Box.new _ _ _).alloc _, e2, by simp⟩
set_option maxHeartbeats 2000000 in
theorem import_full (s : ByteArray) (w : World) (hs : s.size ≤ 5000) (h : 4096 < s.size) :
    Calls Tryz.prog 34 #[.string s] w (GivesI s.data.toList w) := by
  have d0 : decide ((4096 : Int) < (s.size : Int)) = true := decide_eq_true (by omega)
  have HL := hide (show 4096 < s.data.toList.length by rw [← Lib.size_eq]; exact h)
  go_enter Tryz.func34, Tryz.ntmps34
  go_wp2_with fail
  generalize hW : (w.alloc _).alloc _ = W
  obtain ⟨B, b0, b1, hz⟩ := box_imp hW
  clear hW
  have c0 := b0.cell
  have c1 := b1.cell
  refine bodyPost_ret (v := .tuple #[.slice none 0 0, .int .i64 6]) (by simp [results, Tryz.results34, go_sem, *]) rfl ?_
  exact ⟨none, 0, 0, [], 6, rfl, SL.nil_ _ _, by omega, .inr (.inr ⟨HL.out, rfl, rfl⟩), B⟩
def trimB (l : List UInt8) : List UInt8 := Lib.trimSuffix l [10]
theorem reads_len : ∀ {ls : List (List UInt8)} {xs : List Spc}, Reads ls xs → xs.length = ls.length
  | [], [], _ => rfl
  | [], _ :: _, h => h.elim
  | _ :: _, [], h => h.elim
  | _ :: _, _ :: _, h => by rw [List.length_cons, List.length_cons, reads_len h.2]
theorem sl_box {w : World} {g : Nat} {X : Spc} {t : TypeId} (h : Box w g #[.int .i64 X.i, .int .i64 X.o, .int .i64 X.r, .int .i64 X.a, .int .i64 X.b, .int .i64 X.h, .int .i64 X.m] t) : SL w (some ⟨g, 0, none⟩) 1 [X] :=
  ⟨rfl, fun _ => ⟨g, 0, rfl, h.lt, fun j u hu => by
    rw [Nat.zero_add, h.at_ j]
    have : flatS [X] = encS X := by rw [flatS_cons, flatS_nil, List.append_nil]
    rw [this] at hu
    simpa [encS] using hu⟩⟩
section
variable {w : World} {ops : Array Oper} {rest : List Oper} {o : Oper} {a : Act} {Q : Exit → Act → World → Prop} {F : Fence} {k : Nat}
theorem wpListIn_app_s (hgd : o.guard = none) (s x : Operand)
    (ho : o.op = .call { callee := .builtin .append, args := #[s, x], argTypes := #[31, 31] })
    (base : Nat) (v : Value) (xs : List Spc) (hs : a.eval s = v) (hown : OwnS w base v xs)
    (A : Option Addr) (m c : Nat) (ys : List Spc) (hx : a.eval x = .slice A m c) (hr : SL w A m ys) (hN : xs.length + m ≤ 100000) (hbase : base ≤ w.heap.size)
    (hK : ∀ v' w', OwnS w' base v' (xs ++ ys) → Below base w w' → wpListIn F k Tryz.prog ops Q rest (a.put o.dst v') w') : wpListIn F k Tryz.prog ops Q (o :: rest) a w := by
  obtain ⟨v', w', hrun, h3, h4⟩ := run_app_s w base o.type v xs hown A m c ys hr hN hbase
  refine wpListIn_plain hgd fun K hK' => ?_
  unfold Oper.wpIn
  refine ⟨?_, ?_⟩
  · simp [Oper.about, ho, resolve, Target.leads, Sem.run_pure]
  · rw [Oper.semAt_plain F _ _ (by rw [ho]; intro d hd; cases hd)]
    simp only [execOp, ho, resolve, invoke, builtin, Sem.run_bind, Sem.run_pure, Result.andThen_ok, List.map_toArray, List.map_cons, List.map_nil, hs, hx, hrun]
    exact hK' _ _ (hK _ _ h3 h4)
end
theorem Box.putO9 {w : World} {g l : Nat} {vs : Array Value} {t : TypeId} (h : Box w g vs t) (o : Obj) (hl : g ≠ l) : Box (w.putObj l o) g vs t := (World.putObj_heap_other hl).trans h
theorem below_putO9 {B l : Nat} {w W : World} (h : Below B w W) (o : Obj) (hl : B ≤ l) : Below B w (W.putObj l o) :=
  ⟨h.os, h.tape, h.output, by rw [World.putObj_size]; exact h.size, fun k hk => (World.putObj_heap_other (by omega)).trans (h.block k hk)⟩
/-- between two rounds -/
def II (g : Nat) (w : World) (pre : List Piece) (W : World) : Prop :=
  ∃ (xs : List Spc) (v : Value), Reads ((lst pre).map trimB) xs ∧ Box W g #[.slice none 0 0] 31 ∧ Box W (g + 1) #[.int .i64 0] 27 ∧ Box W (g + 1 + 1) #[v] 31 ∧ OwnS W (g + 6) v xs ∧ Below g w W
/-- where a round has said 'no more' -/
def IX (g : Nat) (w : World) (c : Code) (pre : List Piece) (W : World) : Prop := c = .ret ∧ (∃ l ∈ (lst pre).map trimB, ∀ y, ¬IsSp l y) ∧ Box W g #[.slice none 0 0] 31 ∧ Box W (g + 1) #[.int .i64 3] 27 ∧ Below g w W
theorem II.set {g : Nat} {w W : World} {pre} (h : II g w pre W) (v : Value) : II g w pre (W.setCell ⟨g + 1 + 1 + 1, 0, none⟩ v) := by
  obtain ⟨xs, v0, hf, b0, b1, b2, hr, hb⟩ := h
  exact ⟨xs, v0, hf, b0.far (show g ≠ g + 1 + 1 + 1 by omega) v, b1.far (show g + 1 ≠ g + 1 + 1 + 1 by omega) v, b2.far (show g + 1 + 1 ≠ g + 1 + 1 + 1 by omega) v, own_lie hr fun k hk _ => Below.heap_setCell _ _ _ _ (by show k ≠ g + 1 + 1 + 1; omega), hb.setCell (show g ≤ g + 1 + 1 + 1 by omega) v⟩
theorem II.drew {g : Nat} {w W : World} {pre} (h : II g w pre W) : II g w pre W.drew := by
  obtain ⟨xs, v0, hf, b0, b1, b2, hr, hb⟩ := h
  exact ⟨xs, v0, hf, b0, b1, b2, own_lie hr fun _ _ _ => rfl, hb.drew⟩
theorem II.put {g : Nat} {w W : World} {pre} (h : II g w pre W) (o : Obj) : II g w pre (W.putObj (g + 5) o) := by
  obtain ⟨xs, v0, hf, b0, b1, b2, hr, hb⟩ := h
  exact ⟨xs, v0, hf, b0.putO9 o (by omega), b1.putO9 o (by omega), b2.putO9 o (by omega), own_lie hr fun k hk _ => World.putObj_heap_other (by omega), below_putO9 hb o (by omega)⟩
theorem IX.set {g : Nat} {w W : World} {c pre} (h : IX g w c pre W) (v : Value) : IX g w c pre (W.setCell ⟨g + 1 + 1 + 1, 0, none⟩ v) := by
  obtain ⟨hc, hf, b0, b1, hb⟩ := h
  exact ⟨hc, hf, b0.far (show g ≠ g + 1 + 1 + 1 by omega) v, b1.far (show g + 1 ≠ g + 1 + 1 + 1 by omega) v, hb.setCell (show g ≤ g + 1 + 1 + 1 by omega) v⟩
theorem IX.put {g : Nat} {w W : World} {c pre} (h : IX g w c pre W) (o : Obj) : IX g w c pre (W.putObj (g + 5) o) := by
  obtain ⟨hc, hf, b0, b1, hb⟩ := h
  exact ⟨hc, hf, b0.putO9 o (by omega), b1.putO9 o (by omega), below_putO9 hb o (by omega)⟩
theorem lines_few {pre : List Piece} {s : ByteArray} (h : lst pre = linesL s.data.toList) (hs : s.size ≤ 4096) : (lst pre).length ≤ 5000 := by
  have g : ∀ (l cur : List UInt8), (linesF cur l).length ≤ l.length + 1 := by
    intro l
    induction l with
    | nil => intro cur; unfold linesF; split <;> simp
    | cons c l ih =>
      intro cur
      unfold linesF
      split
      · have := ih []; simp; omega
      · have := ih (cur ++ [c]); simp; omega
  have := g s.data.toList []
  rw [h]
  unfold linesL
  rw [← Lib.size_eq] at this
  omega
theorem imp_world {w W : World} {s : ByteArray} (hW : (((w.alloc (.cells #[.slice none 0 0] 31)).alloc (.cells #[.int .i64 0] 27)).alloc (.cells #[.slice none 0 0] 31)).alloc (.cells #[.string s] 9) = W) :
    W.heap.size = w.heap.size + 4 ∧ Below w.heap.size w W ∧ Box W w.heap.size #[.slice none 0 0] 31 ∧ Box W (w.heap.size + 1) #[.int .i64 0] 27 ∧ Box W (w.heap.size + 1 + 1) #[.slice none 0 0] 31 ∧ Box W (w.heap.size + 1 + 1 + 1) #[.string s] 9 := by
  have step : ∀ (V : World) (o : Obj), (V.alloc o).heap.size = V.heap.size + 1 := fun V o => by simp
  have nb : ∀ {V : World} {g : Nat} {vs : Array Value} {t : TypeId}, V.heap.size = g → Box (V.alloc (.cells vs t)) g vs t := fun h => by subst h; exact Box.new _ _ _
  have z1 := step w (.cells #[.slice none 0 0] 31)
  have x0 := Box.new w #[.slice none 0 0] 31
  have y1 : Below w.heap.size w (w.alloc (.cells #[.slice none 0 0] 31)) := (Below.refl _ _).alloc (Nat.le_refl _) _
  generalize w.alloc _ = V1 at *
  have z2 := step V1 (.cells #[.int .i64 0] 27)
  have x1 := nb (vs := #[.int .i64 0]) (t := 27) z1
  have x0 := x0.alloc (.cells #[.int .i64 0] 27)
  have y1 := y1.alloc y1.size (.cells #[.int .i64 0] 27)
  rw [z1] at z2
  generalize V1.alloc _ = V2 at *
  have z3 := step V2 (.cells #[.slice none 0 0] 31)
  have x2 := nb (vs := #[.slice none 0 0]) (t := 31) z2
  have x0 := x0.alloc (.cells #[.slice none 0 0] 31)
  have x1 := x1.alloc (.cells #[.slice none 0 0] 31)
  have y1 := y1.alloc y1.size (.cells #[.slice none 0 0] 31)
  rw [z2] at z3
  generalize V2.alloc _ = V3 at *
  have z4 := step V3 (.cells #[.string s] 9)
  have x3 := nb (vs := #[.string s]) (t := 9) z3
  subst hW
  exact ⟨by omega, y1.alloc y1.size _, x0.alloc _, x1.alloc _, x2.alloc _, x3⟩
set_option maxHeartbeats 2000000 in
set_option maxRecDepth 100000 in
theorem import_long (s : ByteArray) (w : World) (hT : Lw w) (hs : s.size ≤ 4096) :
    Calls Tryz.prog 34 #[.string s] w (GivesI s.data.toList w) := by
  have HT := hide hT
  have d0 : decide ((4096 : Int) < (s.size : Int)) = false := decide_eq_false (by omega)
  clear hT
  refine (callsIn_wide (n := 5)).1 ?_
  refine callsIn_of_wp_marks Tryz.func34 rfl trivial ?_ rfl
  simp only [Tryz.ntmps34, List.size_toArray, List.length_cons, List.length_nil, Nat.reduceAdd, Nat.reduceSub, Array.replicate_succ, Array.replicate_zero, List.push_toArray, List.append_toArray, List.nil_append, List.cons_append]
  gi_wp2_with (refine ⟨trivial, ?_⟩; gi_at_call 70; refine (callsIn_wide.2 (lines_any s _)).mono ?_; rintro e w' ⟨rfl, rfl⟩)
  generalize hW : World.alloc (World.alloc (World.alloc (World.alloc w _) _) _) _ = W4
  obtain ⟨hz, hb4, b0, b1, b2, b3⟩ := imp_world hW
  clear hW
  have hit := lines_iter 4 (by decide) (w.heap.size + 1 + 1 + 1) (W4.heap.size + 1) (w.heap.size + 3) W4.heap.size (by omega) (by omega) s (by omega) W4 b3
  refine range_state9 rfl (by decide) (gf := 100) rfl trivial (enters_of Tryz.func100 (by kernel_rfl) rfl) (fun _ => rfl) (lo := w.heap.size + 3) (by omega) (Bs := w.heap.size + 1 + 1 + 1) (by omega) hit
    (II w.heap.size w) (IX w.heap.size w) (fun _ _ v h => h.set v) (fun _ _ h => h.drew) (fun _ _ _ v h => h.set v) (fun _ _ o h => by rw [hz]; exact h.put o) (fun _ _ _ o h => by rw [hz]; exact h.put o)
    (fun _ _ _ => trivial) ?h0
    (fun x => { tmps := #[.string s, undef, .pointer (some ⟨w.heap.size, 0, none⟩), .pointer (some ⟨w.heap.size + 1, 0, none⟩), .pointer (some ⟨w.heap.size + 1 + 1, 0, none⟩), .string x.1, undef, undef, undef, undef, .string s, .int .i64 s.size, .bool false, .string s, .func (.func 100) #[] #[.pointer (some ⟨w.heap.size + 1 + 1 + 1, 0, none⟩)], .string x.1, undef, undef, undef, undef, undef, undef, undef, undef, undef, undef, undef, undef, undef, undef, undef, undef, undef, undef, undef, undef, undef, undef, undef, undef, undef], defers := [] }) ?assign ?body ?done ?stop
  case h0 =>
    intro o o'
    exact ⟨[], .slice none 0 0, trivial, (b0.alloc o).alloc o', (b1.alloc o).alloc o', (b2.alloc o).alloc o', OwnS.nil_ _ _, (hb4.alloc hb4.size o).alloc (by have := hb4.size; simp; omega) o'⟩
  case assign =>
    intro x A K hK
    simp only [encP]
    gi_wp2
    exact hK
  case body =>
    clear hit hb4 b0 b1 b2 b3
    rintro pre x A ⟨xs, v, hf, b0, b1, b2, hr, hb⟩ hlt hN
    have HF := hide hf
    have hlen := reads_len hf
    rw [List.length_map] at hlen
    unfold lst at hlen
    rw [List.length_map] at hlen
    have HLEN := hide (show xs.length < 5000 by omega)
    clear hlen
    obtain ⟨S, hS⟩ : ∃ S, strB (trimB x.1.data.toList) = S := ⟨_, rfl⟩
    have hSz : S.size ≤ 5000 := by
      rw [← hS, strB_size]
      have h1 := trims_len x.1.data.toList [10]
      have h2 := x.2
      rw [← Lib.size_eq] at h1
      exact Nat.le_trans h1 h2
    obtain ⟨X, er, hp⟩ := PR.ex S.data.toList
    have HP := hide hp
    have HSS := hide hS
    rw [hz]
    have hszA : w.heap.size + 6 ≤ A.heap.size := by omega
    clear hf hlt hN hz hS hp
    gi_wp2_with fail
    refine ⟨trivial, ?_⟩
    refine (CallsIn.inRound (w.heap.size + 4 + 1) (callsIn_wide.2 (trims_any x.1 ⟨#[10]⟩ x.2 _ S HSS.out))).mono ?_
    rintro e w' ⟨rfl, rfl⟩
    gi_wp2_with fail
    refine ⟨trivial, ?_⟩
    refine (CallsIn.inRound (w.heap.size + 4 + 1) (callsIn_wide.2 (parse9_any S _ (HT.out.below hb) hSz X er HP.out))).mono ?_
    rintro e w1 ⟨rfl, hbe⟩
    have HL := hide (show Lie (w.heap.size + 3) (w.heap.size + 4 + 2) w' w1 from Lie.of_below (hbe.mono (by omega)))
    replace b0 := b0.below' hbe
    replace b1 := b1.below' hbe
    replace b2 := b2.below' hbe
    replace hr := hr.keep hbe
    replace hb := hb.trans (hbe.mono (by omega))
    have hsz1 := Nat.le_trans hszA hbe.size
    clear hbe hszA
    rcases HP.out with ⟨rfl, hI⟩ | ⟨rfl, rfl, hI⟩
    · obtain ⟨Av, cv, rfl, -, -⟩ := hr.form
      have hRS := HF.out.snoc hI
      have HRS := hide (show Reads ((lst (pre ++ [x])).map trimB) (xs ++ [X]) by
        rw [lst_snoc, List.map_append]
        have e : (List.map trimB [x.1.data.toList]) = [S.data.toList] := by rw [← HSS.out, data_strB]; rfl
        rw [e]
        exact hRS)
      have c2 := b2.cell
      have f2 := b2.frozen 0
      have l2 := b2.lt
      have F : Below w1.heap.size w1 ((w1.alloc (.cells #[.int .i64 X.i, .int .i64 X.o, .int .i64 X.r, .int .i64 X.a, .int .i64 X.b, .int .i64 X.h, .int .i64 X.m] 23)).alloc (.cells #[.int .i64 X.i, .int .i64 X.o, .int .i64 X.r, .int .i64 X.a, .int .i64 X.b, .int .i64 X.h, .int .i64 X.m] 23)) := ((Below.refl _ _).alloc (Nat.le_refl _) _).alloc (by simp) _
      have HOR := hide (hr.keep F)
      have hbx := Box.new (w1.alloc (.cells #[.int .i64 X.i, .int .i64 X.o, .int .i64 X.r, .int .i64 X.a, .int .i64 X.b, .int .i64 X.h, .int .i64 X.m] 23)) #[.int .i64 X.i, .int .i64 X.o, .int .i64 X.r, .int .i64 X.a, .int .i64 X.b, .int .i64 X.h, .int .i64 X.m] 23
      rw [World.size_alloc] at hbx
      have HBX := hide (sl_box hbx)
      have hs2 : w.heap.size + 6 ≤ ((w1.alloc (.cells #[.int .i64 X.i, .int .i64 X.o, .int .i64 X.r, .int .i64 X.a, .int .i64 X.b, .int .i64 X.h, .int .i64 X.m] 23)).alloc (.cells #[.int .i64 X.i, .int .i64 X.o, .int .i64 X.r, .int .i64 X.a, .int .i64 X.b, .int .i64 X.h, .int .i64 X.m] 23)).heap.size := by simp; omega
      have E9 := hide (show (xs ++ [X]).length = xs.length + 1 by simp)
      clear hRS hbx hI
      gi_wp2_with (gi_at_builtin; refine wpListIn_app_s rfl _ _ rfl (w.heap.size + 6) _ xs rfl HOR.out _ 1 _ [X] rfl HBX.out (by have := HLEN.out; omega) hs2 ?_; intro v9 w9 hr9 hG9; obtain ⟨A9, c9, rfl, -, -⟩ := hr9.form; rw [E9.out] at hr9 ⊢; have g0 := (b0.below' F).below hG9 (by omega); have g1 := (b1.below' F).below hG9 (by omega); have g2 := (b2.below' F).below hG9 (by omega); have c29 := g2.cell; have f29 := g2.frozen 0; have l29 := g2.lt)
      have hs9 : w.heap.size + 6 ≤ w9.heap.size := Nat.le_trans hs2 hG9.size
      refine ⟨?_, xs ++ [X], .slice A9 (xs.length + 1) c9, HRS.out, ?_, ?_, ?_, ?_, ?_⟩
      · exact ((HL.out.trans (Lie.of_below (F.mono (by omega)))).trans (Lie.of_below (hG9.mono (by omega)))).trans (Lie.set _ (by omega))
      · exact g0.far (show w.heap.size ≠ w.heap.size + 1 + 1 by omega) _
      · exact g1.far (show w.heap.size + 1 ≠ w.heap.size + 1 + 1 by omega) _
      · exact g2.put _
      · exact own_lie hr9 fun k hk _ => Below.heap_setCell _ _ _ _ (by show k ≠ w.heap.size + 1 + 1; omega)
      · exact ((hb.trans (F.mono (by omega))).trans (hG9.mono (by omega))).setCell (by show w.heap.size ≤ w.heap.size + 1 + 1; omega) _
    · have c0 := b0.cell
      have c1 := b1.cell
      have f0 := b0.frozen 0
      have f1 := b1.frozen 0
      have l0 := b0.lt
      have l1 := b1.lt
      have HM := hide (show ∃ l ∈ (lst (pre ++ [x])).map trimB, ∀ y, ¬IsSp l y from ⟨trimB x.1.data.toList, by rw [lst_snoc, List.map_append]; exact List.mem_append_right _ (by simp), by rw [← data_strB (trimB x.1.data.toList), HSS.out]; exact hI⟩)
      gi_wp2
      refine ⟨(HL.out.trans ((Lie.set _ (by omega)).trans (Lie.set _ (by omega)))).trans (Lie.of_below ((Below.refl _ _).alloc (by simp; omega) _)), rfl, HM.out, ?_, ?_, ?_⟩
      · exact ((b0.put _).far (by show w.heap.size ≠ w.heap.size + 1; omega) _).alloc _
      · exact ((b1.far (by show w.heap.size + 1 ≠ w.heap.size; omega) _).put _).alloc _
      · exact ((hb.setCell (by exact Nat.le_refl _) _).setCell (by show w.heap.size ≤ w.heap.size + 1; omega) _).alloc (by simp; omega) _
  case done =>
    rintro xs9 A hS ⟨xs, v, hf, b0, b1, b2, hr, hb⟩ hK
    clear hit hb4 b3
    have HZ := hide hz
    clear hz
    obtain ⟨Av, cv, rfl, hsl, -⟩ := hr.form
    have hRD : Reads (trims s.data.toList) xs := by
      unfold trims
      rw [← hS]
      exact hf
    have hsl4 : s.data.toList.length ≤ 4096 := by rw [← Lib.size_eq]; exact hs
    have HRD := hide hRD
    have HSL := hide hsl
    have HW := hide hr
    have HN := hide (show xs.length ≤ 5000 by
      have h1 := reads_len hRD
      unfold trims at h1
      rw [List.length_map, ← hS] at h1
      rw [h1]
      exact lines_few hS hs)
    have c2 := b2.cell
    have l0 := b0.lt
    have l1 := b1.lt
    have l2 := b2.lt
    have hKl : W4.heap.size < A.heap.size := (Array.getElem?_eq_some_iff.1 hK).1
    have HK := hide hK
    obtain ⟨ec, hec⟩ : ∃ r, chk xs = r := ⟨_, rfl⟩
    have hcc := chk_cases xs
    rw [hec] at hcc
    have HEC := hide hec
    clear hS hf hRD hsl hr hK hec
    rcases hcc with rfl | rfl | rfl | rfl
    · gi_wp2_with (refine ⟨trivial, ?_⟩; gi_at_call 32; refine (callsIn_wide.2 (export_any Av _ cv xs _ (HT.out.below hb) HSL.out)).mono ?_; rintro e w5 ⟨t, rfl, he, hb5⟩; rw [HEC.out] at he ⊢; have b0 := b0.below' hb5; have b1 := b1.below' hb5; have b2 := b2.below' hb5; have HOW := hide (OwnS.keep HW.out hb5); have hb := hb.trans (hb5.mono hb.size); have HK5 := hide ((hb5.block _ hKl).trans HK.out); have c0 := b0.cell; have c1 := b1.cell; have c2 := b2.cell; have f0 := b0.frozen 0; have f1 := b1.frozen 0; have l0 := b0.lt; have l1 := b1.lt; have l2 := b2.lt; cases hq : (t.toList == s.toList))
      · have hts : ¬ t = s := fun h => by rw [h, beq_self_eq_true] at hq; cases hq
        have HR := hide ((import_yes hsl4 HRD.out he).2 fun h => hts (by rw [h.2, strB_data]))
        clear he hb5 hts HK
        gi_wp2
        refine ⟨by simp, .inl ⟨_, _, rfl, run_takeDeferred ((Below.heap_setCell _ _ _ _ (by show W4.heap.size ≠ w.heap.size + 1; have := HZ.out; omega)).trans ((Below.heap_setCell _ _ _ _ (by show W4.heap.size ≠ w.heap.size; have := HZ.out; omega)).trans HK5.out)), ?_⟩⟩
        have r0 := ((b0.put (.slice none 0 0)).far (p := ⟨w.heap.size + 1, 0, none⟩) (show w.heap.size ≠ w.heap.size + 1 by omega) (.int .i64 3)).putO9 (l := W4.heap.size) (.deferred none) (by have := HZ.out; omega)
        have r1 := ((b1.far (p := ⟨w.heap.size, 0, none⟩) (show w.heap.size + 1 ≠ w.heap.size by omega) (.slice none 0 0)).put (.int .i64 3)).putO9 (l := W4.heap.size) (.deferred none) (by have := HZ.out; omega)
        have rb := below_putO9 ((hb.setCell (p := ⟨w.heap.size, 0, none⟩) (Nat.le_refl _) (.slice none 0 0)).setCell (p := ⟨w.heap.size + 1, 0, none⟩) (Nat.le_succ _) (.int .i64 3)) (.deferred none) (l := W4.heap.size) (by have := HZ.out; omega)
        generalize World.putObj _ _ _ = V at *
        have q0 := r0.cell
        have q1 := r1.cell
        exact ⟨.tuple #[.slice none 0 0, .int .i64 3], by simp [results, Tryz.results34, go_sem, q0, q1], ⟨none, 0, 0, [], 3, rfl, SL.nil_ _ _, by omega, HR.out, rb⟩⟩
      · have hts : t = s := toList_inj (eq_of_beq hq)
        subst hts
        have HR := hide ((import_yes hsl4 HRD.out he).1 ⟨rfl, (strB_data _).symm⟩)
        clear he hb5 HK
        gi_wp2
        refine ⟨by simp, .inl ⟨_, _, rfl, run_takeDeferred ((Below.heap_setCell _ _ _ _ (by show W4.heap.size ≠ w.heap.size + 1; have := HZ.out; omega)).trans ((Below.heap_setCell _ _ _ _ (by show W4.heap.size ≠ w.heap.size; have := HZ.out; omega)).trans HK5.out)), ?_⟩⟩
        have r0 := ((b0.put (.slice Av xs.length cv)).far (p := ⟨w.heap.size + 1, 0, none⟩) (show w.heap.size ≠ w.heap.size + 1 by omega) (.int .i64 0)).putO9 (l := W4.heap.size) (.deferred none) (by have := HZ.out; omega)
        have r1 := ((b1.far (p := ⟨w.heap.size, 0, none⟩) (show w.heap.size + 1 ≠ w.heap.size by omega) (.slice Av xs.length cv)).put (.int .i64 0)).putO9 (l := W4.heap.size) (.deferred none) (by have := HZ.out; omega)
        have rb := below_putO9 ((hb.setCell (p := ⟨w.heap.size, 0, none⟩) (Nat.le_refl _) (.slice Av xs.length cv)).setCell (p := ⟨w.heap.size + 1, 0, none⟩) (Nat.le_succ _) (.int .i64 0)) (.deferred none) (l := W4.heap.size) (by have := HZ.out; omega)
        have rs : OwnS (((w5.setCell ⟨w.heap.size, 0, none⟩ (.slice Av xs.length cv)).setCell ⟨w.heap.size + 1, 0, none⟩ (.int .i64 0)).putObj W4.heap.size (.deferred none)) (w.heap.size + 6) (.slice Av xs.length cv) xs := own_lie HOW.out fun k hk _ => (World.putObj_heap_other (by have := HZ.out; omega)).trans ((Below.heap_setCell _ _ _ _ (by show k ≠ w.heap.size + 1; omega)).trans (Below.heap_setCell _ _ _ _ (by show k ≠ w.heap.size; omega)))
        generalize World.putObj _ _ _ = V at *
        have q0 := r0.cell
        have q1 := r1.cell
        obtain ⟨A9, c9, e9, hs9, -⟩ := rs.form
        injection e9 with e1 _ e3
        subst e1; subst e3
        exact ⟨.tuple #[.slice Av xs.length cv, .int .i64 0], by simp [results, Tryz.results34, go_sem, q0, q1], ⟨_, _, cv, xs, 0, rfl, hs9, HN.out, HR.out, rb⟩⟩
    · gi_wp2_with (refine ⟨trivial, ?_⟩; gi_at_call 32; refine (callsIn_wide.2 (export_any Av _ cv xs _ (HT.out.below hb) HSL.out)).mono ?_; rintro e w5 ⟨t, rfl, he, hb5⟩; rw [HEC.out] at he ⊢; have b0 := b0.below' hb5; have b1 := b1.below' hb5; have b2 := b2.below' hb5; have hb := hb.trans (hb5.mono hb.size); have HK5 := hide ((hb5.block _ hKl).trans HK.out); have c0 := b0.cell; have c1 := b1.cell; have f0 := b0.frozen 0; have f1 := b1.frozen 0; have l0 := b0.lt; have l1 := b1.lt; have HR := hide ((import_yes hsl4 HRD.out he).2 fun h => absurd h.1 (by decide)); clear he hb5 HK)
      gi_wp2
      refine ⟨by simp, .inl ⟨_, _, rfl, run_takeDeferred ((Below.heap_setCell _ _ _ _ (by show W4.heap.size ≠ w.heap.size + 1; have := HZ.out; omega)).trans ((Below.heap_setCell _ _ _ _ (by show W4.heap.size ≠ w.heap.size; have := HZ.out; omega)).trans HK5.out)), ?_⟩⟩
      have r0 := ((b0.put (.slice none 0 0)).far (p := ⟨w.heap.size + 1, 0, none⟩) (show w.heap.size ≠ w.heap.size + 1 by omega) (.int .i64 3)).putO9 (l := W4.heap.size) (.deferred none) (by have := HZ.out; omega)
      have r1 := ((b1.far (p := ⟨w.heap.size, 0, none⟩) (show w.heap.size + 1 ≠ w.heap.size by omega) (.slice none 0 0)).put (.int .i64 3)).putO9 (l := W4.heap.size) (.deferred none) (by have := HZ.out; omega)
      have rb := below_putO9 ((hb.setCell (p := ⟨w.heap.size, 0, none⟩) (Nat.le_refl _) (.slice none 0 0)).setCell (p := ⟨w.heap.size + 1, 0, none⟩) (Nat.le_succ _) (.int .i64 3)) (.deferred none) (l := W4.heap.size) (by have := HZ.out; omega)
      generalize World.putObj _ _ _ = V at *
      have q0 := r0.cell
      have q1 := r1.cell
      exact ⟨.tuple #[.slice none 0 0, .int .i64 3], by simp [results, Tryz.results34, go_sem, q0, q1], ⟨none, 0, 0, [], 3, rfl, SL.nil_ _ _, by omega, HR.out, rb⟩⟩
    · gi_wp2_with (refine ⟨trivial, ?_⟩; gi_at_call 32; refine (callsIn_wide.2 (export_any Av _ cv xs _ (HT.out.below hb) HSL.out)).mono ?_; rintro e w5 ⟨t, rfl, he, hb5⟩; rw [HEC.out] at he ⊢; have b0 := b0.below' hb5; have b1 := b1.below' hb5; have b2 := b2.below' hb5; have hb := hb.trans (hb5.mono hb.size); have HK5 := hide ((hb5.block _ hKl).trans HK.out); have c0 := b0.cell; have c1 := b1.cell; have f0 := b0.frozen 0; have f1 := b1.frozen 0; have l0 := b0.lt; have l1 := b1.lt; have HR := hide ((import_yes hsl4 HRD.out he).2 fun h => absurd h.1 (by decide)); clear he hb5 HK)
      gi_wp2
      refine ⟨by simp, .inl ⟨_, _, rfl, run_takeDeferred ((Below.heap_setCell _ _ _ _ (by show W4.heap.size ≠ w.heap.size + 1; have := HZ.out; omega)).trans ((Below.heap_setCell _ _ _ _ (by show W4.heap.size ≠ w.heap.size; have := HZ.out; omega)).trans HK5.out)), ?_⟩⟩
      have r0 := ((b0.put (.slice none 0 0)).far (p := ⟨w.heap.size + 1, 0, none⟩) (show w.heap.size ≠ w.heap.size + 1 by omega) (.int .i64 3)).putO9 (l := W4.heap.size) (.deferred none) (by have := HZ.out; omega)
      have r1 := ((b1.far (p := ⟨w.heap.size, 0, none⟩) (show w.heap.size + 1 ≠ w.heap.size by omega) (.slice none 0 0)).put (.int .i64 3)).putO9 (l := W4.heap.size) (.deferred none) (by have := HZ.out; omega)
      have rb := below_putO9 ((hb.setCell (p := ⟨w.heap.size, 0, none⟩) (Nat.le_refl _) (.slice none 0 0)).setCell (p := ⟨w.heap.size + 1, 0, none⟩) (Nat.le_succ _) (.int .i64 3)) (.deferred none) (l := W4.heap.size) (by have := HZ.out; omega)
      generalize World.putObj _ _ _ = V at *
      have q0 := r0.cell
      have q1 := r1.cell
      exact ⟨.tuple #[.slice none 0 0, .int .i64 3], by simp [results, Tryz.results34, go_sem, q0, q1], ⟨none, 0, 0, [], 3, rfl, SL.nil_ _ _, by omega, HR.out, rb⟩⟩
    · gi_wp2_with (refine ⟨trivial, ?_⟩; gi_at_call 32; refine (callsIn_wide.2 (export_any Av _ cv xs _ (HT.out.below hb) HSL.out)).mono ?_; rintro e w5 ⟨t, rfl, he, hb5⟩; rw [HEC.out] at he ⊢; have b0 := b0.below' hb5; have b1 := b1.below' hb5; have b2 := b2.below' hb5; have hb := hb.trans (hb5.mono hb.size); have HK5 := hide ((hb5.block _ hKl).trans HK.out); have c0 := b0.cell; have c1 := b1.cell; have f0 := b0.frozen 0; have f1 := b1.frozen 0; have l0 := b0.lt; have l1 := b1.lt; have HR := hide ((import_yes hsl4 HRD.out he).2 fun h => absurd h.1 (by decide)); clear he hb5 HK)
      gi_wp2
      refine ⟨by simp, .inl ⟨_, _, rfl, run_takeDeferred ((Below.heap_setCell _ _ _ _ (by show W4.heap.size ≠ w.heap.size + 1; have := HZ.out; omega)).trans ((Below.heap_setCell _ _ _ _ (by show W4.heap.size ≠ w.heap.size; have := HZ.out; omega)).trans HK5.out)), ?_⟩⟩
      have r0 := ((b0.put (.slice none 0 0)).far (p := ⟨w.heap.size + 1, 0, none⟩) (show w.heap.size ≠ w.heap.size + 1 by omega) (.int .i64 3)).putO9 (l := W4.heap.size) (.deferred none) (by have := HZ.out; omega)
      have r1 := ((b1.far (p := ⟨w.heap.size, 0, none⟩) (show w.heap.size + 1 ≠ w.heap.size by omega) (.slice none 0 0)).put (.int .i64 3)).putO9 (l := W4.heap.size) (.deferred none) (by have := HZ.out; omega)
      have rb := below_putO9 ((hb.setCell (p := ⟨w.heap.size, 0, none⟩) (Nat.le_refl _) (.slice none 0 0)).setCell (p := ⟨w.heap.size + 1, 0, none⟩) (Nat.le_succ _) (.int .i64 3)) (.deferred none) (l := W4.heap.size) (by have := HZ.out; omega)
      generalize World.putObj _ _ _ = V at *
      have q0 := r0.cell
      have q1 := r1.cell
      exact ⟨.tuple #[.slice none 0 0, .int .i64 3], by simp [results, Tryz.results34, go_sem, q0, q1], ⟨none, 0, 0, [], 3, rfl, SL.nil_ _ _, by omega, HR.out, rb⟩⟩
  case stop =>
    rintro c pre A ⟨rest, hrest⟩ ⟨rfl, ⟨l, hl, hno⟩, b0, b1, hb⟩ hK
    clear hit hb4 b2 b3
    have HZ := hide hz
    clear hz
    have HR := hide (import_no (l := s.data.toList) (by rw [← Lib.size_eq]; exact hs) (x := l) (by
      unfold trims
      rw [← hrest, List.map_append]
      exact List.mem_append_left _ hl) hno)
    have c0 := b0.cell
    have c1 := b1.cell
    gi_wp2
    refine ⟨by simp, .inl ⟨_, _, rfl, run_takeDeferred hK, ?_⟩⟩
    have r0 := b0.putO9 (l := W4.heap.size) (.deferred none) (by have := HZ.out; omega)
    have r1 := b1.putO9 (l := W4.heap.size) (.deferred none) (by have := HZ.out; omega)
    have rb := below_putO9 hb (.deferred none) (l := W4.heap.size) (by have := HZ.out; omega)
    generalize World.putObj _ _ _ = V at *
    have q0 := r0.cell
    have q1 := r1.cell
    exact ⟨.tuple #[.slice none 0 0, .int .i64 3], by simp [results, Tryz.results34, go_sem, q0, q1], ⟨none, 0, 0, [], 3, rfl, SL.nil_ _ _, by omega, HR.out, rb⟩⟩
theorem import_any (s : ByteArray) (w : World) (hT : Lw w) (hs : s.size ≤ 5000) : Calls Tryz.prog 34 #[.string s] w (GivesI s.data.toList w) := by
  by_cases h : 4096 < s.size
  · exact import_full s w hs h
  · exact import_long s w hT (by omega)
end Go.Proofs.YtaapcfflnklpjaaGreatDoor
