/- Appending specimens to a row of the call's own; slices.Grow, slices.Concat. -/
import Derived.Test.YtaapcfflnklpjaaGreatDoorSK
import Derived.Lib.AppendZerosOnto
import Derived.Lib.SliceRun
import Derived.Lib.Walk
import Derived.Deep.LoopGhost
namespace Go.Proofs.YtaapcfflnklpjaaGreatDoor
open Go Go.RowKit Go.Lib
theorem OwnS.form {w : World} {base : Nat} {v : Value} {ys : List Spc} (h : OwnS w base v ys) : ∃ A c, v = .slice A ys.length c ∧ SL w A ys.length ys ∧ ys.length ≤ c := by
  rcases h.2 with ⟨e, hl⟩ | ⟨g, c, cur, e, _, _, hc, _⟩
  · exact ⟨none, 0, by rw [e, hl], by rw [List.length_eq_zero_iff.1 hl]; exact SL.nil_ _ _, by omega⟩
  · subst e
    exact ⟨_, c, rfl, OwnS.sl h, hc⟩
theorem OwnS.nil_ (w : World) (base : Nat) : OwnS w base (.slice none 0 0) [] := ⟨rfl, .inl ⟨rfl, rfl⟩⟩
theorem OwnS.empty_ (w : World) {base : Nat} (hb : base ≤ w.heap.size) : OwnS (w.alloc (.cells #[] 23)) base (.slice (some ⟨w.heap.size, 0, none⟩) 0 0) [] :=
  ⟨rfl, .inr ⟨w.heap.size, 0, #[], rfl, hb, heap_alloc_new w _, Nat.le_refl _, by unfold maxLen; omega, rfl, rfl⟩⟩
theorem run_app_s (w : World) (base : Nat) (ty : TypeId) (v : Value) (xs : List Spc) (hown : OwnS w base v xs) (A : Option Addr) (m c : Nat) (ys : List Spc) (hr : SL w A m ys) (hN : xs.length + m ≤ 100000) (hbase : base ≤ w.heap.size) :
    ∃ v' w', (Builtin.append_ #[31, 31] ty #[v, .slice A m c]).run Tryz.prog w = .ok v' w' ∧ OwnS w' base v' (xs ++ ys) ∧ Below base w w' := by
  obtain ⟨i0, hi, hz0, hz1, hz2⟩ := info_parts infoS
  have hl := hr.1
  rcases Nat.eq_zero_or_pos m with h0 | h0
  · subst h0
    obtain rfl := hr.zero_
    rw [List.append_nil]
    cases A with
    | none =>
      rcases hown.2 with ⟨h1, h0⟩ | ⟨g, cap, cur, h1, _, hg, hnc, _⟩
      · subst h1
        exact ⟨_, w, by simp [Builtin.append_, run_underlying Tryz.underlying31, sizeOf, typeInfo, hi, Builtin.lenOf, Builtin.firstCells], hown, Below.refl _ _⟩
      · subst h1
        exact ⟨_, w, by simp [Builtin.append_, run_underlying Tryz.underlying31, sizeOf, typeInfo, hi, Builtin.lenOf, Builtin.firstCells, hnc, storeCells], hown, Below.refl _ _⟩
    | some a =>
      obtain ⟨v', w', hrun, r1, r2, r3⟩ := run_append_own (P := Tryz.prog) (w := w) base 31 ty 23 i0 _ 7 56 Tryz.underlying31 hi hz0 hz1 hz2 rfl (by decide) _ _ _ hown a 0 c [] rfl (by simp) (by simp) (by simp only [maxLen]; omega) (by omega) hbase
      refine ⟨v', w', hrun, by unfold OwnS; simpa using r1, own_below (Below.refl _ _) r2 hbase hown (Nat.le_refl _)⟩
  · obtain ⟨b, o, rfl, hb, hc⟩ := hr.2 h0
    obtain ⟨v', w', hrun, r1, r2, r3⟩ := run_append_own (P := Tryz.prog) (w := w) base 31 ty 23 i0 _ 7 56 Tryz.underlying31 hi hz0 hz1 hz2 rfl (by decide) _ _ _ hown ⟨b, o, none⟩ m c (flatS ys) (by rw [flatS_len, hl])
      (fun j u hu => by
        have ea : (⟨b, o, none⟩ : Addr).add j = ⟨b, o + j, none⟩ := by unfold Addr.add; split <;> simp_all
        rw [ea]
        exact hc j u hu) (flatS_one ys) (by simp only [maxLen]; omega) (by omega) hbase
    refine ⟨v', w', hrun, by unfold OwnS; rw [flatS_app, List.length_append, hl]; exact r1, own_below (Below.refl _ _) r2 hbase hown (Nat.le_refl _)⟩
theorem wpList_app_s (w : World) {ops : Array Oper} {rest : List Oper} {o : Oper} {a : Act} {Q : Exit → Act → World → Prop} (hgd : o.guard = none) (s x : Operand)
    (ho : o.op = .call { callee := .builtin .append, args := #[s, x], argTypes := #[31, 31] })
    (base : Nat) (v : Value) (xs : List Spc) (hs : a.eval s = v) (hown : OwnS w base v xs)
    (A : Option Addr) (m c : Nat) (ys : List Spc) (hx : a.eval x = .slice A m c) (hr : SL w A m ys) (hN : xs.length + m ≤ 100000) (hbase : base ≤ w.heap.size)
    (h : ∀ v' w', OwnS w' base v' (xs ++ ys) → Below base w w' → wpList Tryz.prog ops Q rest (a.put o.dst v') w') : wpList Tryz.prog ops Q (o :: rest) a w :=
  wpList_plain hgd fun K hK => by
    obtain ⟨v', w', hrun, h2, h3⟩ := run_app_s w base o.type v xs hown A m c ys hr hN hbase
    unfold Oper.wp execOp
    simp only [ho, resolve, invoke, builtin, Sem.run_bind, Sem.run_pure, Result.andThen_ok, List.map_toArray, List.map_cons, List.map_nil, hs, hx, hrun]
    exact hK _ _ (h v' w' h2 h3)
set_option maxHeartbeats 2000000 in
theorem grow_pos (n : Nat) (w : World) (h0 : 0 < n) (hn : n ≤ 100000) :
    Calls Tryz.prog 98 #[.slice none 0 0, .int .i64 (n : Int)] w fun e w' => ∃ v, e = .returned v ∧ OwnS w' w.heap.size v [] ∧ Below w.heap.size w w' := by
  obtain ⟨i, hi, hz, hs, hb⟩ := info_parts infoS
  have hold : (Builtin.firstCells i.size 0 (.slice none 0 0)).run Tryz.prog w.drew = .ok ([] : List Value).toArray w.drew := run_firstCells_none w.drew i.size 0 0 0
  have h := fun ty => Lib.run_append_grow_zeros (P := Tryz.prog) w 31 3 ty 23 i (.agg #[.int .i64 0, .int .i64 0, .int .i64 0, .int .i64 0, .int .i64 0, .int .i64 0, .int .i64 0]) .i64 .i64 Tryz.underlying31 Tryz.underlying3 hi hz none 0 0 [] hold n h0 (by omega) (by omega) (by omega) (by rw [hb]; omega) (growslice_fits (by omega) (by rw [hb]; omega))
  have hge := grownCap_ge w (0 + n) 0 23
  have hle := grownCap_le_maxLen w (0 + n) 0 23 (by unfold maxLen; omega)
  simp only [Nat.zero_add] at h hge hle
  have hrow := fun (G : Nat) (hG : n ≤ G) (hG2 : G ≤ maxLen) => show OwnS (w.drew.alloc (.cells ((([] : List Value).toArray ++ Builtin.zeroCells (Value.agg #[.int .i64 0, .int .i64 0, .int .i64 0, .int .i64 0, .int .i64 0, .int .i64 0, .int .i64 0]).cells n) ++ Builtin.zeroCells (Value.agg #[.int .i64 0, .int .i64 0, .int .i64 0, .int .i64 0, .int .i64 0, .int .i64 0, .int .i64 0]).cells (G - n)) 23)) w.heap.size (.slice (some ⟨w.heap.size, 0, none⟩) 0 G) [] from
    ⟨rfl, .inr ⟨w.heap.size, G, ((([] : List Value).toArray ++ Builtin.zeroCells (Value.agg #[.int .i64 0, .int .i64 0, .int .i64 0, .int .i64 0, .int .i64 0, .int .i64 0, .int .i64 0]).cells n) ++ Builtin.zeroCells (Value.agg #[.int .i64 0, .int .i64 0, .int .i64 0, .int .i64 0, .int .i64 0, .int .i64 0, .int .i64 0]).cells (G - n)), rfl, Nat.le_refl _, heap_alloc_new w.drew _, Nat.zero_le _, hG2, by simp [size_zeroCells, Value.cells]; omega, rfl⟩⟩
  have hrow := hide (hrow _ hge hle)
  have hbel := hide ((Below.refl w.heap.size w).drew.alloc (Nat.le_refl _) (.cells ((([] : List Value).toArray ++ Builtin.zeroCells (Value.agg #[.int .i64 0, .int .i64 0, .int .i64 0, .int .i64 0, .int .i64 0, .int .i64 0, .int .i64 0]).cells n) ++ Builtin.zeroCells (Value.agg #[.int .i64 0, .int .i64 0, .int .i64 0, .int .i64 0, .int .i64 0, .int .i64 0, .int .i64 0]).cells (grownCap w n 0 23 - n)) 23))
  have hi1 : ¬ ((n : Int) < 0) := by omega
  have w1 : wrap64 ((n : Int) - 0) = (n : Int) := by unfold wrap64; omega
  generalize hG : grownCap w n 0 23 = G at *
  generalize w.drew.alloc _ = W at *
  have H := hide h
  unfold maxLen at hle
  clear hi hz hs hb hold h hG
  go_enter Tryz.func98, Tryz.ntmps98
  go_wp2_with (at_builtin; refine Lib.wpList_append_run _ rfl _ _ _ _ rfl _ _ rfl rfl _ _ (H.out _) ?_)
  go_ret
  exact ⟨_, rfl, hrow.out, hbel.out⟩
set_option maxHeartbeats 2000000 in
theorem grow_zero (w : World) :
    Calls Tryz.prog 98 #[.slice none 0 0, .int .i64 0] w fun e w' => ∃ v, e = .returned v ∧ OwnS w' w.heap.size v [] ∧ Below w.heap.size w w' := by
  go_enter Tryz.func98, Tryz.ntmps98
  go_wp2_with fail
  go_ret
  exact ⟨_, rfl, OwnS.nil_ _ _, Below.refl _ _⟩
theorem grow_any (n : Nat) (w : World) (hn : n ≤ 100000) :
    Calls Tryz.prog 98 #[.slice none 0 0, .int .i64 (n : Int)] w fun e w' => ∃ v, e = .returned v ∧ OwnS w' w.heap.size v [] ∧ Below w.heap.size w w' := by
  rcases Nat.eq_zero_or_pos n with h | h
  · subst h
    exact grow_zero w
  · exact grow_pos n w h hn
def szc (n m : Nat) : Nat → Nat
  | 0 => 0
  | 1 => n
  | _ => n + m
def catc (xs ys : List Spc) : Nat → List Spc
  | 0 => []
  | 1 => xs
  | _ => xs ++ ys
set_option maxHeartbeats 4000000 in
theorem concat_any (g : Nat) (A : Option Addr) (n c : Nat) (xs : List Spc) (A' : Option Addr) (m d : Nat) (ys : List Spc) (w : World) (t : TypeId) (hg : Box w g #[.slice A n c, .slice A' m d] t) (hx : SL w A n xs) (hy : SL w A' m ys) (hn : n ≤ 1000) (hm : m ≤ 1000) :
    Calls Tryz.prog 67 #[.slice (some ⟨g, 0, none⟩) 2 2] w fun e w' => ∃ v, e = .returned v ∧ OwnS w' w.heap.size v (xs ++ ys) ∧ Below w.heap.size w w' := by
  have HX := hide hx
  have HY := hide hy
  have HG := hide hg
  have HL := hide (And.intro hx.1 hy.1)
  have k0 : w.cell? ⟨g, 0, none⟩ = some (.slice A n c) := hg.at_ 0
  have k1 : w.cell? ⟨g, 1, none⟩ = some (.slice A' m d) := hg.at_ 1
  clear hx hy hg
  go_enter Tryz.func67, Tryz.ntmps67
  go_wp2_with fail
  go_loopg [3, 11] 2 (fun gk s i wr => ∃ j : Nat, j + gk = 2 ∧ i = .int .i64 (j : Int) ∧ s = .int .i64 (szc n m j : Int) ∧ w = wr)
  case atStart => exact ⟨0, by omega, rfl, rfl, rfl⟩
  case round =>
    obtain ⟨j, hj, rfl, rfl, rfl⟩ := hrel
    have hc : j = 0 ∨ j = 1 ∨ j = 2 := by omega
    rcases hc with rfl | rfl | rfl
    · obtain rfl : gk = 2 := by omega
      rw [show szc n m 0 = 0 from rfl]
      clear hj
      go_wp2_with fail
      go_roundg 1
      case measure => omega
      case rel => exact ⟨1, by omega, by go_num, by show _ = Value.int .i64 (n : Int); go_num, rfl⟩
    · obtain rfl : gk = 1 := by omega
      rw [show szc n m 1 = n from rfl]
      clear hj
      go_wp2_with fail
      go_roundg 0
      case measure => omega
      case rel => exact ⟨2, by omega, by go_num, by show _ = Value.int .i64 ((n + m : Nat) : Int); go_num, rfl⟩
    · obtain rfl : gk = 0 := by omega
      rw [show szc n m 2 = n + m from rfl]
      clear hj
      go_wp2_with fail
      refine (grow_any (n + m) w (by omega)).mono ?_
      rintro e w1 ⟨v1, rfl, hr, hb⟩
      have HR := hide hr
      have HB := hide hb
      clear hr hb k0 k1
      go_wp2_with fail
      go_loopg [6, 27] 2 (fun gk s i wr => ∃ (j : Nat), j + gk = 2 ∧ i = .int .i64 (j : Int) ∧ OwnS wr w.heap.size s (catc xs ys j) ∧ Below w.heap.size w wr)
      case atStart => exact ⟨0, by omega, rfl, HR.out, HB.out⟩
      case round =>
        obtain ⟨j, hj, rfl, hr, hb⟩ := hrel
        have HR2 := hide hr
        have HB2 := hide hb
        have hwr := hb.size
        have k0 : wr.cell? ⟨g, 0, none⟩ = some (.slice A n c) := (HG.out.below' hb).at_ 0
        have k1 : wr.cell? ⟨g, 1, none⟩ = some (.slice A' m d) := (HG.out.below' hb).at_ 1
        clear hr hb
        have hc : j = 0 ∨ j = 1 ∨ j = 2 := by omega
        rcases hc with rfl | rfl | rfl
        · obtain rfl : gk = 2 := by omega
          rw [show catc xs ys 0 = [] from rfl] at HR2
          clear hj
          go_wp2_with (at_builtin; refine wpList_app_s _ rfl _ _ rfl w.heap.size _ [] rfl HR2.out A n c xs rfl (HX.out.keep HB2.out) (by simp; omega) hwr ?_; intro v3 w3 hrow3 hbel3)
          go_roundg 1
          case measure => omega
          case rel => exact ⟨1, by omega, by go_num, hrow3, HB2.out.trans hbel3⟩
        · obtain rfl : gk = 1 := by omega
          rw [show catc xs ys 1 = xs from rfl] at HR2
          clear hj
          go_wp2_with (at_builtin; refine wpList_app_s _ rfl _ _ rfl w.heap.size _ xs rfl HR2.out A' m d ys rfl (HY.out.keep HB2.out) (by have := HL.out.1; omega) hwr ?_; intro v3 w3 hrow3 hbel3)
          go_roundg 0
          case measure => omega
          case rel => exact ⟨2, by omega, by go_num, hrow3, HB2.out.trans hbel3⟩
        · obtain rfl : gk = 0 := by omega
          rw [show catc xs ys 2 = xs ++ ys from rfl] at HR2
          clear hj
          go_wp2_with fail
          go_ret
          exact ⟨_, rfl, HR2.out, HB2.out⟩
end Go.Proofs.YtaapcfflnklpjaaGreatDoor
