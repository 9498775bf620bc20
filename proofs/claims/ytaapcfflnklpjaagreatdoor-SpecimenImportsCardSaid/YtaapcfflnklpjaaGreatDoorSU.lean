/- slices.Compact at specimens. -/
import Derived.Test.YtaapcfflnklpjaaGreatDoorST
import Derived.Laws.StructEq
import Derived.Laws.IdiomCopy
namespace Go.Proofs.YtaapcfflnklpjaaGreatDoor
open Go Go.RowKit Go.Lib
attribute [local go_sem] run_equalIn_agg run_equalIn_int
theorem eqS_run (x y : Spc) (w : World) (v : Bool) (hv : decide (x = y) = v) : (Op.equalIn 10000 23 (.agg #[.int .i64 x.i, .int .i64 x.o, .int .i64 x.r, .int .i64 x.a, .int .i64 x.b, .int .i64 x.h, .int .i64 x.m]) (.agg #[.int .i64 y.i, .int .i64 y.o, .int .i64 y.r, .int .i64 y.a, .int .i64 y.b, .int .i64 y.h, .int .i64 y.m])).run Tryz.prog w = .ok v w := by
  have u3 := Tryz.underlying3
  have a3 := Tryz.isAgg3
  have z3 := Tryz.sizeOf3
  have hS : Tryz.prog.underlying 23 = some (.struct (Tryz.prog.fieldsOf 23)) := by kernel_rfl
  have hp : Tryz.prog.stoodInHeld 23 = false := by kernel_rfl
  rw [show (10000 : Nat) = 9999 + 1 from rfl, run_equalIn_agg w 9999 23 _ _ hS hp]
  simp only [Program.fieldsOf, Tryz.underlying23]
  go_simp
  subst hv
  by_cases h : x = y
  · subst h
    simp
  · rw [decide_eq_false h]
    have hne : ¬(x.i = y.i ∧ x.o = y.o ∧ x.r = y.r ∧ x.a = y.a ∧ x.b = y.b ∧ x.h = y.h ∧ x.m = y.m) := fun e => h (by
      cases x
      cases y
      simp only at e
      obtain ⟨rfl, rfl, rfl, rfl, rfl, rfl, rfl⟩ := e
      rfl)
    repeat' split
    all_goals first | rfl | exact absurd ⟨by assumption, by assumption, by assumption, by assumption, by assumption, by assumption, by assumption⟩ hne
theorem cmpct_snoc : ∀ (l : List Spc) (x y : Spc), cmpct (l ++ [x] ++ [y]) = cmpct (l ++ [x]) ++ (if x = y then [] else [y])
  | [], x, y => by
    show cmpct [x, y] = [x] ++ _
    unfold cmpct
    by_cases h : x = y
    · rw [if_pos h, if_pos h, h]; rfl
    · rw [if_neg h, if_neg h]; rfl
  | [z], x, y => by
    have := cmpct_snoc [] x y
    show cmpct (z :: x :: [y]) = cmpct (z :: x :: []) ++ _
    conv => lhs; unfold cmpct
    conv => rhs; lhs; unfold cmpct
    by_cases h : z = x
    · rw [if_pos h, if_pos h]; exact this
    · rw [if_neg h, if_neg h]
      show z :: cmpct ([] ++ [x] ++ [y]) = _
      rw [this]; rfl
  | z :: u :: l, x, y => by
    have := cmpct_snoc (u :: l) x y
    show cmpct (z :: u :: (l ++ [x] ++ [y])) = cmpct (z :: u :: (l ++ [x])) ++ _
    conv => lhs; unfold cmpct
    conv => rhs; lhs; unfold cmpct
    by_cases h : z = u
    · rw [if_pos h, if_pos h]; exact this
    · rw [if_neg h, if_neg h]
      show z :: cmpct (u :: l ++ [x] ++ [y]) = _
      rw [this]; rfl
theorem cmpct_step {zs : List Spc} {p : Nat} {x y : Spc} (hx : zs[p]? = some x) (hy : zs[p + 1]? = some y) : cmpct (zs.take (p + 2)) = cmpct (zs.take (p + 1)) ++ (if x = y then [] else [y]) := by
  have e1 : zs.take (p + 1) = zs.take p ++ [x] := by rw [List.take_add_one, hx]; rfl
  have e2 : zs.take (p + 2) = zs.take p ++ [x] ++ [y] := by rw [List.take_add_one (i := p + 1), hy, e1]; rfl
  rw [e1, e2, cmpct_snoc]
theorem cmpct_one {zs : List Spc} (h : 0 < zs.length) : cmpct (zs.take 1) = zs.take 1 := by
  match zs, h with
  | z :: zs, _ => rfl
theorem enc_set0 (z y : Spc) (L : List Value) : (((((((encS z ++ L).set 0 (.int .i64 y.i)).set 1 (.int .i64 y.o)).set 2 (.int .i64 y.r)).set 3 (.int .i64 y.a)).set 4 (.int .i64 y.b)).set 5 (.int .i64 y.h)).set 6 (.int .i64 y.m) = encS y ++ L := rfl
theorem enc_setS (z : Spc) (L : List Value) (j : Nat) (v : Value) : (encS z ++ L).set (7 + j) v = encS z ++ L.set j v := by
  rw [List.set_append, if_neg (by rw [encS_len]; omega), encS_len, show 7 + j - 7 = j by omega]
theorem flatS_set : ∀ (zs : List Spc) (k : Nat) (y : Spc), k < zs.length → (((((((flatS zs).set (k * 7) (.int .i64 y.i)).set (k * 7 + 1) (.int .i64 y.o)).set (k * 7 + 2) (.int .i64 y.r)).set (k * 7 + 3) (.int .i64 y.a)).set (k * 7 + 4) (.int .i64 y.b)).set (k * 7 + 5) (.int .i64 y.h)).set (k * 7 + 6) (.int .i64 y.m) = flatS (zs.set k y)
  | [], k, y, h => by simp at h
  | z :: zs, 0, y, _ => by
    rw [List.set_cons_zero, flatS_cons, flatS_cons]
    exact enc_set0 z y _
  | z :: zs, k + 1, y, h => by
    have := flatS_set zs k y (by simpa using h)
    rw [List.set_cons_succ, flatS_cons, flatS_cons, ← this, show (k + 1) * 7 = 7 + k * 7 by omega]
    simp only [Nat.add_assoc, enc_setS]
theorem own_len {w : World} {base g n c : Nat} {zs : List Spc} (h : OwnS w base (.slice (some ⟨g, 0, none⟩) n c) zs) : n = zs.length ∧ n ≤ c := by
  rcases h.2 with ⟨e, _⟩ | ⟨_, _, _, e, _, _, hc, _⟩
  · cases e
  · injection e with _ e1 e2
    subst e1; subst e2
    exact ⟨rfl, hc⟩
theorem OwnS.put {w : World} {base g n c : Nat} {zs : List Spc} (h : OwnS w base (.slice (some ⟨g, 0, none⟩) n c) zs) {k : Nat} (hk : k < zs.length) (y : Spc) :
    OwnS (((((((w.setCell ⟨g, k * 7, none⟩ (.int .i64 y.i)).setCell ⟨g, k * 7 + 1, none⟩ (.int .i64 y.o)).setCell ⟨g, k * 7 + 2, none⟩ (.int .i64 y.r)).setCell ⟨g, k * 7 + 3, none⟩ (.int .i64 y.a)).setCell ⟨g, k * 7 + 4, none⟩ (.int .i64 y.b)).setCell ⟨g, k * 7 + 5, none⟩ (.int .i64 y.h)).setCell ⟨g, k * 7 + 6, none⟩ (.int .i64 y.m)) base (.slice (some ⟨g, 0, none⟩) n c) (zs.set k y) := by
  obtain ⟨rfl, _⟩ := own_len h
  have h1 := (World.ownsRow.stored h (k * 7) (.int .i64 y.i)).1
  have h2 := (World.ownsRow.stored h1 (k * 7 + 1) (.int .i64 y.o)).1
  have h3 := (World.ownsRow.stored h2 (k * 7 + 2) (.int .i64 y.r)).1
  have h4 := (World.ownsRow.stored h3 (k * 7 + 3) (.int .i64 y.a)).1
  have h5 := (World.ownsRow.stored h4 (k * 7 + 4) (.int .i64 y.b)).1
  have h6 := (World.ownsRow.stored h5 (k * 7 + 5) (.int .i64 y.h)).1
  have h7 := (World.ownsRow.stored h6 (k * 7 + 6) (.int .i64 y.m)).1
  rw [flatS_set zs k y hk] at h7
  unfold OwnS
  rw [List.length_set]
  exact h7
theorem put_below {B : Nat} {w W : World} {g k : Nat} (h : Below B w W) (hg : B ≤ g) (y : Spc) : Below B w (((((((W.setCell ⟨g, k * 7, none⟩ (.int .i64 y.i)).setCell ⟨g, k * 7 + 1, none⟩ (.int .i64 y.o)).setCell ⟨g, k * 7 + 2, none⟩ (.int .i64 y.r)).setCell ⟨g, k * 7 + 3, none⟩ (.int .i64 y.a)).setCell ⟨g, k * 7 + 4, none⟩ (.int .i64 y.b)).setCell ⟨g, k * 7 + 5, none⟩ (.int .i64 y.h)).setCell ⟨g, k * 7 + 6, none⟩ (.int .i64 y.m)) :=
  ((((((h.setCell hg _).setCell hg _).setCell hg _).setCell hg _).setCell hg _).setCell hg _).setCell hg _
theorem below_cells {B g : Nat} {w : World} (hg : B ≤ g) : ∀ (vs : List Value) (o : Nat) (W : World), Below B w W → Below B w (W.setCells g o vs)
  | [], _, _, h => h
  | v :: r, o, _, h => below_cells hg r (o + 1) _ (h.setCell hg v)
/-- clear, of the rest of a row -/
theorem clear_run {w : World} {base g n c : Nat} {zs : List Spc} (h : OwnS w base (.slice (some ⟨g, 0, none⟩) n c) zs) {m : Nat} (hm : m < n) (ty : TypeId) (d : Nat) :
    (Builtin.clear_ #[31] ty #[.slice (some ⟨g, m * 7, none⟩) (n - m) d]).run Tryz.prog w = .ok (.tuple #[]) (w.setCells g (m * 7) (List.replicate ((n - m) * 7) (.int .i64 0))) := by
  obtain ⟨rfl, _⟩ := own_len h
  have hzc : (Builtin.zeroCells (Value.agg #[.int .i64 0, .int .i64 0, .int .i64 0, .int .i64 0, .int .i64 0, .int .i64 0, .int .i64 0]).cells (zs.length - m)).toList = List.replicate ((zs.length - m) * 7) (Value.int .i64 0) := by
    apply List.ext_getElem
    · simp [Builtin.zeroCells, Value.cells]
    · intro i h1 h2
      simp only [Builtin.zeroCells, Value.cells, List.getElem_replicate]
      have h7 : i % 7 < 7 := Nat.mod_lt _ (by decide)
      simp
      revert h7
      generalize i % 7 = k
      intro h7
      match k, h7 with
      | 0, _ => rfl
      | 1, _ => rfl
      | 2, _ => rfl
      | 3, _ => rfl
      | 4, _ => rfl
      | 5, _ => rfl
      | 6, _ => rfl
  have hst := run_storeCells_cells (P := Tryz.prog) g (m * 7) (List.replicate ((zs.length - m) * 7) (Value.int .i64 0)) 0 w
    (fun j hj => by
      rw [List.length_replicate] at hj
      rw [Nat.add_zero, World.ownsRow.cellAt h (m * 7 + j) (by omega), List.getElem?_eq_getElem (by rw [flatS_len]; omega)]
      rfl) (fun j _ => World.ownsRow.frozenAt h _) (fun v hv => by rw [List.eq_of_mem_replicate hv]; rfl)
  simp only [Nat.add_zero] at hst
  obtain ⟨q, hq⟩ : ∃ q, zs.length - m = q + 1 := ⟨zs.length - m - 1, by omega⟩
  have hv := Tryz.zeroValue23
  rw [hq] at hzc hst ⊢
  simp [Builtin.clear_, run_underlying Tryz.underlying31, hv, hzc, hst]
theorem cells_to {w : World} {b o o' : Nat} {y : Spc} (h : CellsS w b o y) (e : o = o') : CellsS w b o' y := e ▸ h
set_option maxHeartbeats 1000000 in
theorem compact_small (A : Option Addr) (n c : Nat) (w : World) (h : n < 2) :
    Calls Tryz.prog 66 #[.slice A n c] w fun e w' => e = .returned (.slice A n c) ∧ w = w' := by
  have d0 : decide ((n : Int) < 2) = true := decide_eq_true (by omega)
  go_enter Tryz.func66, Tryz.ntmps66
  go_wp2_with fail
  go_ret
  exact ⟨rfl, rfl⟩
/-- the inner loop's rounds -/
def CpIn (w0 : World) (base g n c k0 : Nat) (zs : List Spc) (v3 v5 : Value) (wr : World) : Prop :=
  ∃ (m j : Nat) (us : List Spc), v3 = .int .i64 (m : Int) ∧ v5 = .int .i64 (j : Int) ∧ 1 ≤ j ∧ k0 + j ≤ n ∧ m < k0 + j ∧ OwnS wr base (.slice (some ⟨g, 0, none⟩) n c) us ∧ us.length = n ∧ us.take m = cmpct (zs.take (k0 + j)) ∧ (cmpct (zs.take (k0 + j))).length = m ∧ (∀ i, k0 + j - 1 ≤ i → us[i]? = zs[i]?) ∧ Below base w0 wr
theorem own_frozen {w : World} {base g n c : Nat} {zs : List Spc} (h : OwnS w base (.slice (some ⟨g, 0, none⟩) n c) zs) (j : Nat) : w.frozen? ⟨g, j, none⟩ = false := by
  obtain ⟨rfl, _⟩ := own_len h
  exact World.ownsRow.frozenAt h j
theorem cleared_sl {w : World} {base g n c m : Nat} {us : List Spc} (h : OwnS w base (.slice (some ⟨g, 0, none⟩) n c) us) (hm : m ≤ n) (vs : List Value) : SL (w.setCells g (m * 7) vs) (some ⟨g, 0, none⟩) m (us.take m) := by
  obtain ⟨hn, _⟩ := own_len h
  have hs := OwnS.sl h
  refine ⟨by rw [List.length_take]; omega, fun h0 => ?_⟩
  obtain ⟨b, o, e, hb, hc⟩ := hs.2 (by omega)
  injection e with e
  injection e with e1 e2
  subst e1; subst e2
  refine ⟨g, 0, rfl, Nat.lt_of_lt_of_le hb (below_cells (B := 0) (Nat.zero_le _) vs (m * 7) w (Below.refl _ _)).size, fun j u hu => ?_⟩
  have hj : j < m * 7 := by
    have := (List.getElem?_eq_some_iff.1 hu).1
    rw [flatS_len, List.length_take] at this
    omega
  rw [World.cell?_setCells_out g vs (m * 7) w ⟨g, 0 + j, none⟩ (fun _ _ => .inl (by show 0 + j < m * 7; omega))]
  refine hc j u ?_
  rw [← hu]
  have e3 : us = us.take m ++ us.drop m := (List.take_append_drop m us).symm
  conv => lhs; rw [e3, flatS_app]
  rw [List.getElem?_append_left (by rw [flatS_len, List.length_take]; omega)]
set_option maxHeartbeats 8000000 in
set_option maxRecDepth 100000 in
theorem compact_big (g c : Nat) (zs : List Spc) (w : World) (base n : Nat) (ho : OwnS w base (.slice (some ⟨g, 0, none⟩) n c) zs) (h2 : 2 ≤ n) (hm : n ≤ 1000) (hc : c ≤ maxLen) (hg : base ≤ g) :
    Calls Tryz.prog 66 #[.slice (some ⟨g, 0, none⟩) n c] w fun e w' => ∃ c', e = .returned (.slice (some ⟨g, 0, none⟩) (cmpct zs).length c') ∧ SL w' (some ⟨g, 0, none⟩) (cmpct zs).length (cmpct zs) ∧ Below base w w' := by
  obtain ⟨hn, hnc⟩ := own_len ho
  have HO := hide ho
  have HN := hide hn
  have d0 : decide ((n : Int) < 2) = false := decide_eq_false (by omega)
  unfold maxLen at hc
  clear ho hn
  go_enter Tryz.func66, Tryz.ntmps66
  go_wp2_with fail
  go_loopw [3] (fun i wr => ∃ k : Nat, i = .int .i64 (k : Int) ∧ 1 ≤ k ∧ k ≤ n ∧ Hid (cmpct (zs.take k) = zs.take k) ∧ Hid (OwnS wr base (.slice (some ⟨g, 0, none⟩) n c) zs) ∧ Hid (Below base w wr)) (fun i _ => n - (RowKit.intOf i).toNat)
  case atStart => exact ⟨1, rfl, by omega, by omega, hide (cmpct_one (by have := HN.out; omega)), HO, hide (Below.refl _ _)⟩
  case round =>
    obtain ⟨k, rfl, hk1, hkn, HC, HW, HB⟩ := hrel
    by_cases hlt : k < n
    · have hs := OwnS.sl HW.out
      have hy : zs[k]? = some (zs[k]'(by have := HN.out; omega)) := List.getElem?_eq_getElem _
      have hx : zs[k - 1]? = some (zs[k - 1]'(by have := HN.out; omega)) := List.getElem?_eq_getElem _
      generalize zs[k]'_ = y at hy
      generalize zs[k - 1]'_ = x at hx
      obtain ⟨k0, k1, k2, k3, k4, k5, k6⟩ := cells_to (hs.cells_ hy) (show 0 + k * 7 = k * 7 by omega)
      obtain ⟨m0, m1, m2, m3, m4, m5, m6⟩ := cells_to (hs.cells_ hx) (show 0 + (k - 1) * 7 = (k - 1) * 7 by omega)
      have HX := hide hx
      have HY := hide hy
      have d1 : decide ((k : Int) < (n : Int)) = true := decide_eq_true (by omega)
      have i1 : IntKind.i64.wrap ((k : Int) - 1) = (k : Int) - 1 := IntWalk.i64_in _ (by omega)
      have i2 : (0 : Int) ≤ (k : Int) - 1 := by omega
      have i3 : (k : Int) - 1 < (n : Int) := by omega
      have i4 : ((k : Int) - 1).toNat = k - 1 := by omega
      clear hs hx hy
      by_cases he : y = x
      · have e0 := fun (w : World) => eqS_run y x w true (decide_eq_true he)
        have HE := hide he
        clear he
        go_wp2_with fail
        go_region
        all_goals
          clear k0 k1 k2 k3 k4 k5 k6 m0 m1 m2 m3 m4 m5 m6 e0
          have c1 : ¬ (c = k) := by omega
          have HW1 := hide (show OwnS wr.drew base (.slice (some ⟨g, 0, none⟩) n c) zs from OwnS.keep HW.out ((Below.refl _ _).drew))
          have HB1 := hide HB.out.drew
          have HC1 := hide (show cmpct (zs.take (k + 1)) = zs.take k by
            obtain ⟨p, rfl⟩ : ∃ p, k = p + 1 := ⟨k - 1, by omega⟩
            have hx' : zs[p]? = some x := HX.out
            rw [cmpct_step hx' HY.out, HC.out, if_pos HE.out.symm, List.append_nil])
          clear HC HW HB HX HY HE
          obtain ⟨wq, hwq⟩ : ∃ x, x = wr := ⟨_, rfl⟩
          subst hwq
          go_wp2_with fail
          go_loopw [3, 5] (fun a b wr => CpIn w base g n c k zs a b wr) (fun _ b _ => n - (RowKit.intOf b).toNat)
          case atStart =>
            have hl := HN.out
            refine ⟨k, 1, zs, rfl, rfl, by omega, by omega, by omega, HW1.out, by omega, HC1.out.symm, ?_, fun _ _ => rfl, HB1.out⟩
            rw [HC1.out, List.length_take]
            omega
          case round =>
            obtain ⟨m, j, us, rfl, rfl, hj, hjn, hmj, hou, hlu, htk, hln, hsame, hbl⟩ := hrel
            have HOU := hide hou
            have HTK := hide htk
            have HLN := hide hln
            have HSM := hide hsame
            have HBL := hide hbl
            have HLU := hide hlu
            clear htk hln hsame hbl hlu
            by_cases hjl : k + j < n
            · have hs := OwnS.sl hou
              obtain ⟨y', hy⟩ : ∃ y', us[k + j]? = some y' := ⟨_, List.getElem?_eq_getElem (by have := HLU.out; omega)⟩
              obtain ⟨x', hx⟩ : ∃ x', us[k + j - 1]? = some x' := ⟨_, List.getElem?_eq_getElem (by have := HLU.out; omega)⟩
              obtain ⟨k0, k1, k2, k3, k4, k5, k6⟩ := cells_to (hs.cells_ hy) (show 0 + (k + j) * 7 = k * 7 + j * 7 by omega)
              obtain ⟨m0, m1, m2, m3, m4, m5, m6⟩ := cells_to (hs.cells_ hx) (show 0 + (k + j - 1) * 7 = k * 7 + (j - 1) * 7 by omega)
              have HSTEP := hide (show cmpct (zs.take (k + j + 1)) = cmpct (zs.take (k + j)) ++ (if x' = y' then [] else [y']) by
                obtain ⟨p, hp⟩ : ∃ p, k + j = p + 1 := ⟨k + j - 1, by omega⟩
                have hx' : zs[p]? = some x' := by rw [← HSM.out p (by omega), ← hx, hp]; rfl
                have hy' : zs[p + 1]? = some y' := by rw [← HSM.out (p + 1) (by omega), ← hy, hp]
                rw [hp]
                exact cmpct_step hx' hy')
              have HY2 := hide hy
              have q1 : decide ((j : Int) < ((n - k : Nat) : Int)) = true := decide_eq_true (by omega)
              have q2 : (0 : Int) ≤ (j : Int) := by omega
              have q3 : (j : Int) < ((n - k : Nat) : Int) := by omega
              have i1 : IntKind.i64.wrap ((j : Int) - 1) = (j : Int) - 1 := IntWalk.i64_in _ (by omega)
              have i2 : (0 : Int) ≤ (j : Int) - 1 := by omega
              have i3 : (j : Int) - 1 < ((n - k : Nat) : Int) := by omega
              have i4 : ((j : Int) - 1).toNat = j - 1 := by omega
              clear hs hx hy hou
              by_cases he : y' = x'
              · have e0 := fun (w : World) => eqS_run y' x' w true (decide_eq_true he)
                have HE := hide he
                clear he
                go_wp2_with fail
                go_region
                all_goals
                  go_wp2_with fail
                  go_roundw
                  case rel =>
                    refine ⟨m, j + 1, us, rfl, by go_num, by omega, by omega, by omega, (by first | exact OwnS.keep HOU.out ((Below.refl _ _).drew) | exact HOU.out), HLU.out, ?_, ?_, fun i hi => HSM.out i (by omega), by first | exact HBL.out.drew | exact HBL.out⟩
                    · rw [← Nat.add_assoc, HSTEP.out, if_pos HE.out.symm, List.append_nil]; exact HTK.out
                    · rw [← Nat.add_assoc, HSTEP.out, if_pos HE.out.symm, List.append_nil]; exact HLN.out
                  case measure => simp [RowKit.intOf]; omega
              · have e0 := fun (w : World) => eqS_run y' x' w false (decide_eq_false he)
                have HE := hide he
                clear he
                go_wp2_with fail
                go_region
                all_goals
                  clear k0 k1 k2 k3 k4 k5 k6 m0 m1 m2 m3 m4 m5 m6 e0
                  have HO1 := hide (show OwnS wr.drew base (.slice (some ⟨g, 0, none⟩) n c) us from OwnS.keep HOU.out ((Below.refl _ _).drew))
                  have hs := OwnS.sl HO1.out
                  obtain ⟨u', hu⟩ : ∃ u', us[m]? = some u' := ⟨_, List.getElem?_eq_getElem (by have := HLU.out; omega)⟩
                  obtain ⟨k0, k1, k2, k3, k4, k5, k6⟩ := cells_to (hs.cells_ HY2.out) (show 0 + (k + j) * 7 = k * 7 + j * 7 by omega)
                  obtain ⟨m0, m1, m2, m3, m4, m5, m6⟩ := cells_to (hs.cells_ hu) (show 0 + m * 7 = m * 7 by omega)
                  have f0 := own_frozen HO1.out (m * 7)
                  have f1 := own_frozen HO1.out (m * 7 + 1)
                  have f2 := own_frozen HO1.out (m * 7 + 2)
                  have f3 := own_frozen HO1.out (m * 7 + 3)
                  have f4 := own_frozen HO1.out (m * 7 + 4)
                  have f5 := own_frozen HO1.out (m * 7 + 5)
                  have f6 := own_frozen HO1.out (m * 7 + 6)
                  have hgw : g < wr.drew.heap.size := (World.ownsRow.lt HO1.out g rfl).2
                  have t0 : (0 : Int) ≤ (m : Int) := by omega
                  have t1 : (m : Int) < (n : Int) := by omega
                  have HB1 := hide HBL.out.drew
                  clear hs hu
                  generalize wr.drew = wz at *
                  go_wp2_with fail
                  go_roundw
                  case rel =>
                    have hlu := HLU.out
                    refine ⟨m + 1, j + 1, us.set m y', by go_num, by go_num, by omega, by omega, by omega, OwnS.put HO1.out (by omega) y', by rw [List.length_set]; exact hlu, ?_, ?_, ?_, put_below HB1.out hg y'⟩
                    · rw [← Nat.add_assoc, HSTEP.out, if_neg fun e => HE.out e.symm, ← HTK.out, List.take_add_one, List.getElem?_set_self (by omega), List.take_set, List.set_eq_of_length_le (by rw [List.length_take]; omega)]
                      rfl
                    · rw [← Nat.add_assoc, HSTEP.out, if_neg fun e => HE.out e.symm, List.length_append, HLN.out]
                      rfl
                    · intro i hi
                      rw [List.getElem?_set_ne (by omega)]
                      exact HSM.out i (by omega)
                  case measure => simp [RowKit.intOf]; omega
            · obtain rfl : j = n - k := by omega
              have q1 : decide (((n - k : Nat) : Int) < ((n - k : Nat) : Int)) = false := decide_eq_false (by omega)
              have hmn : m < n := by omega
              have hcl := fun ty => clear_run HOU.out hmn ty (c - m)
              have c2 : ¬ (c = m) := by omega
              have HOM := hide (show SL (wr.setCells g (m * 7) (List.replicate ((n - m) * 7) (.int .i64 0))) (some ⟨g, 0, none⟩) m (us.take m) from cleared_sl HOU.out (by omega) _)
              clear hou
              go_wp2_with fail
              go_ret
              have hz := HTK.out
              have hl := HLN.out
              have hn := HN.out
              rw [show k + (n - k) = n by omega, hn, List.take_length] at hz hl
              refine ⟨c, by rw [hl]; rfl, ?_, below_cells hg _ _ _ HBL.out⟩
              rw [hl, ← hz]
              exact HOM.out
      · have e0 := fun (w : World) => eqS_run y x w false (decide_eq_false he)
        have HE := hide he
        clear he
        go_wp2_with fail
        go_region
        all_goals
          go_wp2_with fail
          go_roundw
          case rel =>
            refine ⟨k + 1, by go_num, by omega, by omega, hide ?_, hide (by first | exact OwnS.keep HW.out ((Below.refl _ _).drew) | exact HW.out), hide (by first | exact HB.out.drew | exact HB.out)⟩
            obtain ⟨p, rfl⟩ : ∃ p, k = p + 1 := ⟨k - 1, by omega⟩
            have hx' : zs[p]? = some x := HX.out
            rw [cmpct_step hx' HY.out, HC.out, if_neg fun e => HE.out e.symm, List.take_add_one (i := p + 1), HY.out]
            rfl
          case measure => simp [RowKit.intOf]; omega
    · obtain rfl : k = n := by omega
      have d1 : decide ((k : Int) < (k : Int)) = false := decide_eq_false (by omega)
      go_wp2_with fail
      go_ret
      have hz := HC.out
      rw [HN.out, List.take_length] at hz
      rw [hz]
      exact ⟨c, by rw [← HN.out]; rfl, by rw [← HN.out]; exact OwnS.sl HW.out, HB.out⟩
theorem compact_any (A : Option Addr) (n c : Nat) (zs : List Spc) (w : World) (base : Nat) (hs : SL w A n zs) (ho : 0 < n → ∃ g, A = some ⟨g, 0, none⟩ ∧ base ≤ g ∧ OwnS w base (.slice (some ⟨g, 0, none⟩) n c) zs) (hm : n ≤ 1000) :
    Calls Tryz.prog 66 #[.slice A n c] w fun e w' => ∃ A' c', e = .returned (.slice A' (cmpct zs).length c') ∧ SL w' A' (cmpct zs).length (cmpct zs) ∧ Below base w w' := by
  by_cases h : n < 2
  · refine (compact_small A n c w h).mono ?_
    rintro e w' ⟨rfl, rfl⟩
    have hz : cmpct zs = zs := by
      have hl := hs.1
      match zs, hl with
      | [], _ => rfl
      | [_], _ => rfl
      | _ :: _ :: _, hl => simp at hl; omega
    rw [hz, hs.1]
    exact ⟨_, _, rfl, hs, Below.refl _ _⟩
  · obtain ⟨g, rfl, hg, ho⟩ := ho (by omega)
    have hc : c ≤ maxLen := by
      rcases ho.2 with ⟨e, _⟩ | ⟨_, _, _, e, _, _, _, hc, _⟩
      · cases e
      · injection e with _ _ e2
        subst e2
        exact hc
    refine (compact_big g c zs w base n ho (by omega) hm hc hg).mono ?_
    rintro e w' ⟨c', rfl, h1, h2⟩
    exact ⟨_, c', rfl, h1, h2⟩
end Go.Proofs.YtaapcfflnklpjaaGreatDoor
