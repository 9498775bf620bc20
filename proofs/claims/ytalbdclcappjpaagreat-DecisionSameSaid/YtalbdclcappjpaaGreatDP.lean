/- slices.Compact at marks and at decisions. -/
import Derived.Test.YtalbdclcappjpaaGreatDK
import Derived.Test.YtalbdclcappjpaaGreatDO
import Derived.Laws.IdiomCopy
import Derived.IntWalk
namespace Go.Proofs.YtalbdclcappjpaaGreat
open Go Go.RowKit Go.Lib
theorem own_frozen {α : Type} {e : En α} {w : World} {B g n c : Nat} {zs : List α} (h : Ow e w B (some ⟨g, 0, none⟩) n c zs) (j : Nat) : w.frozen? ⟨g, j, none⟩ = false := World.ownsRow.frozenAt h j

theorem enc_set0M (z y : Mk) (L : List Value) : ((eM.enc z ++ L).set 0 (.int .i64 y.u)).set 1 (.int .i64 y.n) = eM.enc y ++ L := rfl
theorem enc_setSM (z : Mk) (L : List Value) (j : Nat) (v : Value) : (eM.enc z ++ L).set (2 + j) v = eM.enc z ++ L.set j v := by
  rw [List.set_append, if_neg (by rw [eM.len]; show ¬ 2 + j < 2; omega), eM.len, show 2 + j - eM.k = j from Nat.add_sub_cancel_left ..]
theorem flat_setM : ∀ (zs : List Mk) (k : Nat) (y : Mk), k < zs.length → ((flatE eM zs).set (k * 2) (.int .i64 y.u)).set (k * 2 + 1) (.int .i64 y.n) = flatE eM (zs.set k y)
  | [], k, y, h => by simp at h
  | z :: zs, 0, y, _ => by
    rw [List.set_cons_zero, flatE_cons, flatE_cons]
    exact enc_set0M z y _
  | z :: zs, k + 1, y, h => by
    have := flat_setM zs k y (by simpa using h)
    rw [List.set_cons_succ, flatE_cons, flatE_cons, ← this, show (k + 1) * 2 = 2 + k * 2 by omega]
    simp only [Nat.add_assoc, enc_setSM]
theorem Ow.putM {w : World} {B g n c : Nat} {zs : List Mk} (h : Ow eM w B (some ⟨g, 0, none⟩) n c zs) {k : Nat} (hk : k < zs.length) (y : Mk) :
    Ow eM ((w.setCell ⟨g, k * 2, none⟩ (.int .i64 y.u)).setCell ⟨g, k * 2 + 1, none⟩ (.int .i64 y.n)) B (some ⟨g, 0, none⟩) n c (zs.set k y) := by
  have h0 := h
  have h1 := (World.ownsRow.stored h0 (k * 2) (.int .i64 y.u)).1
  have h2 := (World.ownsRow.stored h1 (k * 2 + 1) (.int .i64 y.n)).1
  rw [flat_setM zs k y hk] at h2
  exact h2
theorem put_turnM {F : Nat → Prop} {w W : World} {g k : Nat} (h : Turn F w W) (hF : F g) (y : Mk) : Turn F w ((W.setCell ⟨g, k * 2, none⟩ (.int .i64 y.u)).setCell ⟨g, k * 2 + 1, none⟩ (.int .i64 y.n)) :=
  ((h).set _ _ hF).set _ _ hF
/-- clear, of the rest of a row -/
theorem clearM_run {w : World} {B g n c : Nat} {zs : List Mk} (h : Ow eM w B (some ⟨g, 0, none⟩) n c zs) {m : Nat} (hm : m < n) :
    ∃ W, (∀ (ty : TypeId) (d : Nat), (Builtin.clear_ #[40] ty #[.slice (some ⟨g, m * 2, none⟩) (n - m) d]).run Tryz.prog w = .ok (.tuple #[]) W) ∧ Ow eM W B (some ⟨g, 0, none⟩) m c (zs.take m) ∧ Turn (Is g) w W := by
  obtain ⟨cur, hB, hg, hnc, hcm, hcs, hct⟩ := h.parts
  have hcs' : cur.size = c * 2 := hcs
  have hzc : (Builtin.zeroCells (Value.agg #[.int .i64 0, .int .i64 0]).cells (n - m)).toList.length = (n - m) * 2 := by simp [size_zeroCells, Value.cells]
  have hz1 : ∀ v ∈ (Builtin.zeroCells (Value.agg #[.int .i64 0, .int .i64 0]).cells (n - m)).toList, v.oneCell' = true := by
    intro v hv
    obtain ⟨i, hi, rfl⟩ := List.getElem_of_mem hv
    simp only [Builtin.zeroCells, Value.cells]
    have h7 : i % 2 < 2 := Nat.mod_lt _ (by decide)
    simp
    revert h7
    generalize i % 2 = k
    intro h7
    match k, h7 with
    | 0, _ => rfl
    | 1, _ => rfl
  have hst := run_storeCells_at Tryz.prog g (m * 2) eM.t (Builtin.zeroCells (Value.agg #[.int .i64 0, .int .i64 0]).cells (n - m)).toList 0 cur w hg (by rw [hzc, hcs']; omega) hz1
  refine ⟨w.setRow g (over cur.toList (m * 2) (Builtin.zeroCells (Value.agg #[.int .i64 0, .int .i64 0]).cells (n - m)).toList).toArray, fun ty d => ?_, ?_, turn_row (F := Is g) (Turn.refl _ _) (.inr rfl) _⟩
  rotate_left
  · refine Ow.made (cur := (over cur.toList (m * 2) (Builtin.zeroCells (Value.agg #[.int .i64 0, .int .i64 0]).cells (n - m)).toList).toArray) hB (setRow_heap _ _ _ _ _ _ hg) (by omega) hcm ?_ (by rw [List.length_take, h.len]; omega) ?_
    · rw [List.size_toArray, over_len (by rw [hzc, Array.length_toList, hcs']; omega), Array.length_toList, hcs']; rfl
    · show (over cur.toList (m * 2) (Builtin.zeroCells (Value.agg #[.int .i64 0, .int .i64 0]).cells (n - m)).toList).take (m * 2) = _
      rw [over_take (by rw [hzc, Array.length_toList, hcs']; omega) (Nat.le_refl _), flatE_take, ← hct, List.take_take]
      congr 1
      exact (Nat.min_eq_left (Nat.mul_le_mul_right _ (by omega))).symm
  · obtain ⟨q, hq⟩ : ∃ q, n - m = q + 1 := ⟨n - m - 1, by omega⟩
    have hv := Tryz.zeroValue46
    rw [Nat.add_zero] at hst
    rw [hq] at hst ⊢
    simp [Builtin.clear_, run_underlying Tryz.underlying40, hv, hst]
    unfold over
    rw [Array.length_toList, List.append_assoc]
theorem cells_toM {w : World} {b o o' : Nat} {y : Mk} (h : CellsM w b o y) (e : o = o') : CellsM w b o' y := e ▸ h
set_option maxHeartbeats 1000000 in
theorem compactM_small (A : Option Addr) (n c : Nat) (w : World) (h : n < 2) :
    Calls Tryz.prog 58 #[.slice A n c] w fun e w' => e = .returned (.slice A n c) ∧ w = w' := by
  have d0 : decide ((n : Int) < 2) = true := decide_eq_true (by omega)
  go_enter Tryz.func58, Tryz.ntmps58
  go_wp2_with fail
  go_ret
  exact ⟨rfl, rfl⟩
/-- the inner loop's rounds -/
def CpM (w0 : World) (base g n c k0 : Nat) (zs : List Mk) (v3 v5 : Value) (wr : World) : Prop :=
  ∃ (m j : Nat) (us : List Mk), v3 = .int .i64 (m : Int) ∧ v5 = .int .i64 (j : Int) ∧ 1 ≤ j ∧ k0 + j ≤ n ∧ m < k0 + j ∧ Ow eM wr base (some ⟨g, 0, none⟩) n c us ∧ us.length = n ∧ us.take m = cmpct (zs.take (k0 + j)) ∧ (cmpct (zs.take (k0 + j))).length = m ∧ (∀ i, k0 + j - 1 ≤ i → us[i]? = zs[i]?) ∧ Turn (Is g) w0 wr
set_option maxHeartbeats 8000000 in
set_option maxRecDepth 100000 in
theorem compactM_big (g c : Nat) (zs : List Mk) (w : World) (base n : Nat) (ho : Ow eM w base (some ⟨g, 0, none⟩) n c zs) (h2 : 2 ≤ n) (hm : n ≤ 2000) :
    Calls Tryz.prog 58 #[.slice (some ⟨g, 0, none⟩) n c] w fun e w' => e = .returned (.slice (some ⟨g, 0, none⟩) (cmpct zs).length c) ∧ Ow eM w' base (some ⟨g, 0, none⟩) (cmpct zs).length c (cmpct zs) ∧ Turn (Is g) w w' := by
  have hnc := ho.le.1
  have hc := ho.le.2
  have HO := hide ho
  have HN := hide ho.len.symm
  have d0 : decide ((n : Int) < 2) = false := decide_eq_false (by omega)
  unfold maxLen at hc
  clear ho
  go_enter Tryz.func58, Tryz.ntmps58
  go_wp2_with fail
  go_loopw [3] (fun i wr => ∃ k : Nat, i = .int .i64 (k : Int) ∧ 1 ≤ k ∧ k ≤ n ∧ Hid (cmpct (zs.take k) = zs.take k) ∧ Hid (Ow eM wr base (some ⟨g, 0, none⟩) n c zs) ∧ Hid (Turn (Is g) w wr)) (fun i _ => n - (RowKit.intOf i).toNat)
  case atStart => exact ⟨1, rfl, by omega, by omega, hide (cmpct_one (by have := HN.out; omega)), HO, hide (Turn.refl _ _)⟩
  case round =>
    obtain ⟨k, rfl, hk1, hkn, HC, HW, HB⟩ := hrel
    by_cases hlt : k < n
    · have hs := HW.out.sl
      have hy : zs[k]? = some (zs[k]'(by have := HN.out; omega)) := List.getElem?_eq_getElem _
      have hx : zs[k - 1]? = some (zs[k - 1]'(by have := HN.out; omega)) := List.getElem?_eq_getElem _
      generalize zs[k]'_ = y at hy
      generalize zs[k - 1]'_ = x at hx
      obtain ⟨k0, k1⟩ := cells_toM (hs.cellsM hy) (show 0 + k * 2 = k * 2 by omega)
      obtain ⟨m0, m1⟩ := cells_toM (hs.cellsM hx) (show 0 + (k - 1) * 2 = (k - 1) * 2 by omega)
      have HX := hide hx
      have HY := hide hy
      have d1 : decide ((k : Int) < (n : Int)) = true := decide_eq_true (by omega)
      have i1 : IntKind.i64.wrap ((k : Int) - 1) = (k : Int) - 1 := IntWalk.i64_in _ (by omega)
      have i2 : (0 : Int) ≤ (k : Int) - 1 := by omega
      have i3 : (k : Int) - 1 < (n : Int) := by omega
      have i4 : ((k : Int) - 1).toNat = k - 1 := by omega
      clear hs hx hy
      by_cases he : y = x
      · have e0 := fun (w : World) => eqM_run y x w true (decide_eq_true he)
        have HE := hide he
        clear he
        go_wp2_with fail
        go_region
        all_goals
          clear k0 k1 m0 m1 e0
          have c1 : ¬ (c = k) := by omega
          have HW1 := hide (show Ow eM wr.drew base (some ⟨g, 0, none⟩) n c zs from HW.out.keep ((Below.refl _ _).drew))
          have HB1 := hide HB.out.drew_
          have HC1 := hide (show cmpct (zs.take (k + 1)) = zs.take k by
            obtain ⟨p, rfl⟩ : ∃ p, k = p + 1 := ⟨k - 1, by omega⟩
            have hx' : zs[p]? = some x := HX.out
            rw [cmpct_step hx' HY.out, HC.out, if_pos HE.out.symm, List.append_nil])
          clear HC HW HB HX HY HE
          obtain ⟨wq, hwq⟩ : ∃ x, x = wr := ⟨_, rfl⟩
          subst hwq
          go_wp2_with fail
          go_loopw [3, 5] (fun a b wr => CpM w base g n c k zs a b wr) (fun _ b _ => n - (RowKit.intOf b).toNat)
          case atStart =>
            have hl := HN.out
            refine ⟨k, 1, zs, rfl, rfl, by omega, by omega, by omega, HW1.out, by omega, HC1.out.symm, ?_, fun _ _ => rfl, HB1.out⟩
            rw [HC1.out, List.length_take]
            omega
          case round =>
            obtain ⟨m, j, us, rfl, rfl, hj, hjn, hmj, hou, hlu, htk, hln, hsame, hbl⟩ := hrel
            have HOU := hide hou
            have HTK := hide htk
            have HLN := hide hln
            have HSM := hide hsame
            have HBL := hide hbl
            have HLU := hide hlu
            clear htk hln hsame hbl hlu
            by_cases hjl : k + j < n
            · have hs := hou.sl
              obtain ⟨y', hy⟩ : ∃ y', us[k + j]? = some y' := ⟨_, List.getElem?_eq_getElem (by have := HLU.out; omega)⟩
              obtain ⟨x', hx⟩ : ∃ x', us[k + j - 1]? = some x' := ⟨_, List.getElem?_eq_getElem (by have := HLU.out; omega)⟩
              obtain ⟨k0, k1⟩ := cells_toM (hs.cellsM hy) (show 0 + (k + j) * 2 = k * 2 + j * 2 by omega)
              obtain ⟨m0, m1⟩ := cells_toM (hs.cellsM hx) (show 0 + (k + j - 1) * 2 = k * 2 + (j - 1) * 2 by omega)
              have HSTEP := hide (show cmpct (zs.take (k + j + 1)) = cmpct (zs.take (k + j)) ++ (if x' = y' then [] else [y']) by
                obtain ⟨p, hp⟩ : ∃ p, k + j = p + 1 := ⟨k + j - 1, by omega⟩
                have hx' : zs[p]? = some x' := by rw [← HSM.out p (by omega), ← hx, hp]; rfl
                have hy' : zs[p + 1]? = some y' := by rw [← HSM.out (p + 1) (by omega), ← hy, hp]
                rw [hp]
                exact cmpct_step hx' hy')
              have HY2 := hide hy
              have q1 : decide ((j : Int) < ((n - k : Nat) : Int)) = true := decide_eq_true (by omega)
              have q2 : (0 : Int) ≤ (j : Int) := by omega
              have q3 : (j : Int) < ((n - k : Nat) : Int) := by omega
              have i1 : IntKind.i64.wrap ((j : Int) - 1) = (j : Int) - 1 := IntWalk.i64_in _ (by omega)
              have i2 : (0 : Int) ≤ (j : Int) - 1 := by omega
              have i3 : (j : Int) - 1 < ((n - k : Nat) : Int) := by omega
              have i4 : ((j : Int) - 1).toNat = j - 1 := by omega
              clear hs hx hy hou
              by_cases he : y' = x'
              · have e0 := fun (w : World) => eqM_run y' x' w true (decide_eq_true he)
                have HE := hide he
                clear he
                go_wp2_with fail
                go_region
                all_goals
                  go_wp2_with fail
                  go_roundw
                  case rel =>
                    refine ⟨m, j + 1, us, rfl, by go_num, by omega, by omega, by omega, (by first | exact HOU.out.keep ((Below.refl _ _).drew) | exact HOU.out), HLU.out, ?_, ?_, fun i hi => HSM.out i (by omega), by first | exact HBL.out.drew_ | exact HBL.out⟩
                    · rw [← Nat.add_assoc, HSTEP.out, if_pos HE.out.symm, List.append_nil]; exact HTK.out
                    · rw [← Nat.add_assoc, HSTEP.out, if_pos HE.out.symm, List.append_nil]; exact HLN.out
                  case measure => simp [RowKit.intOf]; omega
              · have e0 := fun (w : World) => eqM_run y' x' w false (decide_eq_false he)
                have HE := hide he
                clear he
                go_wp2_with fail
                go_region
                all_goals
                  clear k0 k1 m0 m1 e0
                  have HO1 := hide (show Ow eM wr.drew base (some ⟨g, 0, none⟩) n c us from HOU.out.keep ((Below.refl _ _).drew))
                  have hs := HO1.out.sl
                  obtain ⟨u', hu⟩ : ∃ u', us[m]? = some u' := ⟨_, List.getElem?_eq_getElem (by have := HLU.out; omega)⟩
                  obtain ⟨k0, k1⟩ := cells_toM (hs.cellsM HY2.out) (show 0 + (k + j) * 2 = k * 2 + j * 2 by omega)
                  obtain ⟨m0, m1⟩ := cells_toM (hs.cellsM hu) (show 0 + m * 2 = m * 2 by omega)
                  have f0 := own_frozen HO1.out (m * 2)
                  have f1 := own_frozen HO1.out (m * 2 + 1)
                  have t0 : (0 : Int) ≤ (m : Int) := by omega
                  have t1 : (m : Int) < (n : Int) := by omega
                  have HB1 := hide HBL.out.drew_
                  clear hs hu
                  generalize wr.drew = wz at *
                  go_wp2_with fail
                  go_roundw
                  case rel =>
                    have hlu := HLU.out
                    refine ⟨m + 1, j + 1, us.set m y', by go_num, by go_num, by omega, by omega, by omega, HO1.out.putM (by omega) y', by rw [List.length_set]; exact hlu, ?_, ?_, ?_, put_turnM HB1.out rfl y'⟩
                    · rw [← Nat.add_assoc, HSTEP.out, if_neg fun e => HE.out e.symm, ← HTK.out, List.take_add_one, List.getElem?_set_self (by omega), List.take_set, List.set_eq_of_length_le (by rw [List.length_take]; omega)]
                      rfl
                    · rw [← Nat.add_assoc, HSTEP.out, if_neg fun e => HE.out e.symm, List.length_append, HLN.out]
                      rfl
                    · intro i hi
                      rw [List.getElem?_set_ne (by omega)]
                      exact HSM.out i (by omega)
                  case measure => simp [RowKit.intOf]; omega
            · obtain rfl : j = n - k := by omega
              have q1 : decide (((n - k : Nat) : Int) < ((n - k : Nat) : Int)) = false := decide_eq_false (by omega)
              have hmn : m < n := by omega
              obtain ⟨W, hcl, hWo, hWt⟩ := clearM_run HOU.out hmn
              have HWO := hide hWo
              have HWT := hide hWt
              have hcl := fun ty => hcl ty (c - m)
              have c2 : ¬ (c = m) := by omega
              clear hou hWo hWt
              go_wp2_with fail
              go_ret
              have hz := HTK.out
              have hl := HLN.out
              have hn := HN.out
              rw [show k + (n - k) = n by omega, hn, List.take_length] at hz hl
              refine ⟨by rw [hl]; rfl, ?_, HBL.out.trans HWT.out⟩
              rw [hl, ← hz]
              exact HWO.out
      · have e0 := fun (w : World) => eqM_run y x w false (decide_eq_false he)
        have HE := hide he
        clear he
        go_wp2_with fail
        go_region
        all_goals
          go_wp2_with fail
          go_roundw
          case rel =>
            refine ⟨k + 1, by go_num, by omega, by omega, hide ?_, hide (by first | exact HW.out.keep ((Below.refl _ _).drew) | exact HW.out), hide (by first | exact HB.out.drew_ | exact HB.out)⟩
            obtain ⟨p, rfl⟩ : ∃ p, k = p + 1 := ⟨k - 1, by omega⟩
            have hx' : zs[p]? = some x := HX.out
            rw [cmpct_step hx' HY.out, HC.out, if_neg fun e => HE.out e.symm, List.take_add_one (i := p + 1), HY.out]
            rfl
          case measure => simp [RowKit.intOf]; omega
    · obtain rfl : k = n := by omega
      have d1 : decide ((k : Int) < (k : Int)) = false := decide_eq_false (by omega)
      go_wp2_with fail
      go_ret
      have hz := HC.out
      rw [HN.out, List.take_length] at hz
      rw [hz]
      exact ⟨by rw [← HN.out]; rfl, by rw [← HN.out]; exact HW.out, HB.out⟩
theorem compactM_any (B n c : Nat) (A : Option Addr) (zs : List Mk) (w : World) (ho : Ow eM w B A n c zs) (hm : n ≤ 2000) :
    Calls Tryz.prog 58 #[.slice A n c] w fun e w' => e = .returned (.slice A (cmpct zs).length c) ∧ Ow eM w' B A (cmpct zs).length c (cmpct zs) ∧ Turn (Blk A) w w' := by
  have hl := ho.len
  by_cases h : n < 2
  · refine (compactM_small A n c w h).mono ?_
    rintro e w' ⟨rfl, rfl⟩
    have hz : cmpct zs = zs := by
      match zs, hl with
      | [], _ => rfl
      | [_], _ => rfl
      | _ :: _ :: _, hl => simp at hl; omega
    rw [hz, hl]
    exact ⟨rfl, ho, Turn.refl _ _⟩
  · obtain ⟨g, rfl, hg1, hg2⟩ := ho.pos (by omega)
    refine (compactM_big g c zs w B n ho (by omega) hm).mono ?_
    rintro e w' ⟨rfl, h1, h2⟩
    exact ⟨rfl, h1, h2.mono fun k _ hk => by rw [show k = g from hk]; exact ⟨0, none, rfl⟩⟩

theorem enc_set0D (z y : Dec) (L : List Value) : (((((eD.enc z ++ L).set 0 (.int .i64 y.u)).set 1 (.int .i64 y.n)).set 2 (.int .i64 y.k)).set 3 (.int .i64 y.a)).set 4 (.int .i64 y.b) = eD.enc y ++ L := rfl
theorem enc_setSD (z : Dec) (L : List Value) (j : Nat) (v : Value) : (eD.enc z ++ L).set (5 + j) v = eD.enc z ++ L.set j v := by
  rw [List.set_append, if_neg (by rw [eD.len]; show ¬ 5 + j < 5; omega), eD.len, show 5 + j - eD.k = j from Nat.add_sub_cancel_left ..]
theorem flat_setD : ∀ (zs : List Dec) (k : Nat) (y : Dec), k < zs.length → (((((flatE eD zs).set (k * 5) (.int .i64 y.u)).set (k * 5 + 1) (.int .i64 y.n)).set (k * 5 + 2) (.int .i64 y.k)).set (k * 5 + 3) (.int .i64 y.a)).set (k * 5 + 4) (.int .i64 y.b) = flatE eD (zs.set k y)
  | [], k, y, h => by simp at h
  | z :: zs, 0, y, _ => by
    rw [List.set_cons_zero, flatE_cons, flatE_cons]
    exact enc_set0D z y _
  | z :: zs, k + 1, y, h => by
    have := flat_setD zs k y (by simpa using h)
    rw [List.set_cons_succ, flatE_cons, flatE_cons, ← this, show (k + 1) * 5 = 5 + k * 5 by omega]
    simp only [Nat.add_assoc, enc_setSD]
theorem Ow.putD {w : World} {B g n c : Nat} {zs : List Dec} (h : Ow eD w B (some ⟨g, 0, none⟩) n c zs) {k : Nat} (hk : k < zs.length) (y : Dec) :
    Ow eD (((((w.setCell ⟨g, k * 5, none⟩ (.int .i64 y.u)).setCell ⟨g, k * 5 + 1, none⟩ (.int .i64 y.n)).setCell ⟨g, k * 5 + 2, none⟩ (.int .i64 y.k)).setCell ⟨g, k * 5 + 3, none⟩ (.int .i64 y.a)).setCell ⟨g, k * 5 + 4, none⟩ (.int .i64 y.b)) B (some ⟨g, 0, none⟩) n c (zs.set k y) := by
  have h0 := h
  have h1 := (World.ownsRow.stored h0 (k * 5) (.int .i64 y.u)).1
  have h2 := (World.ownsRow.stored h1 (k * 5 + 1) (.int .i64 y.n)).1
  have h3 := (World.ownsRow.stored h2 (k * 5 + 2) (.int .i64 y.k)).1
  have h4 := (World.ownsRow.stored h3 (k * 5 + 3) (.int .i64 y.a)).1
  have h5 := (World.ownsRow.stored h4 (k * 5 + 4) (.int .i64 y.b)).1
  rw [flat_setD zs k y hk] at h5
  exact h5
theorem put_turnD {F : Nat → Prop} {w W : World} {g k : Nat} (h : Turn F w W) (hF : F g) (y : Dec) : Turn F w (((((W.setCell ⟨g, k * 5, none⟩ (.int .i64 y.u)).setCell ⟨g, k * 5 + 1, none⟩ (.int .i64 y.n)).setCell ⟨g, k * 5 + 2, none⟩ (.int .i64 y.k)).setCell ⟨g, k * 5 + 3, none⟩ (.int .i64 y.a)).setCell ⟨g, k * 5 + 4, none⟩ (.int .i64 y.b)) :=
  (((((h).set _ _ hF).set _ _ hF).set _ _ hF).set _ _ hF).set _ _ hF
/-- clear, of the rest of a row -/
theorem clearD_run {w : World} {B g n c : Nat} {zs : List Dec} (h : Ow eD w B (some ⟨g, 0, none⟩) n c zs) {m : Nat} (hm : m < n) :
    ∃ W, (∀ (ty : TypeId) (d : Nat), (Builtin.clear_ #[38] ty #[.slice (some ⟨g, m * 5, none⟩) (n - m) d]).run Tryz.prog w = .ok (.tuple #[]) W) ∧ Ow eD W B (some ⟨g, 0, none⟩) m c (zs.take m) ∧ Turn (Is g) w W := by
  obtain ⟨cur, hB, hg, hnc, hcm, hcs, hct⟩ := h.parts
  have hcs' : cur.size = c * 5 := hcs
  have hzc : (Builtin.zeroCells (Value.agg #[.int .i64 0, .int .i64 0, .int .i64 0, .int .i64 0, .int .i64 0]).cells (n - m)).toList.length = (n - m) * 5 := by simp [size_zeroCells, Value.cells]
  have hz1 : ∀ v ∈ (Builtin.zeroCells (Value.agg #[.int .i64 0, .int .i64 0, .int .i64 0, .int .i64 0, .int .i64 0]).cells (n - m)).toList, v.oneCell' = true := by
    intro v hv
    obtain ⟨i, hi, rfl⟩ := List.getElem_of_mem hv
    simp only [Builtin.zeroCells, Value.cells]
    have h7 : i % 5 < 5 := Nat.mod_lt _ (by decide)
    simp
    revert h7
    generalize i % 5 = k
    intro h7
    match k, h7 with
    | 0, _ => rfl
    | 1, _ => rfl
    | 2, _ => rfl
    | 3, _ => rfl
    | 4, _ => rfl
  have hst := run_storeCells_at Tryz.prog g (m * 5) eD.t (Builtin.zeroCells (Value.agg #[.int .i64 0, .int .i64 0, .int .i64 0, .int .i64 0, .int .i64 0]).cells (n - m)).toList 0 cur w hg (by rw [hzc, hcs']; omega) hz1
  refine ⟨w.setRow g (over cur.toList (m * 5) (Builtin.zeroCells (Value.agg #[.int .i64 0, .int .i64 0, .int .i64 0, .int .i64 0, .int .i64 0]).cells (n - m)).toList).toArray, fun ty d => ?_, ?_, turn_row (F := Is g) (Turn.refl _ _) (.inr rfl) _⟩
  rotate_left
  · refine Ow.made (cur := (over cur.toList (m * 5) (Builtin.zeroCells (Value.agg #[.int .i64 0, .int .i64 0, .int .i64 0, .int .i64 0, .int .i64 0]).cells (n - m)).toList).toArray) hB (setRow_heap _ _ _ _ _ _ hg) (by omega) hcm ?_ (by rw [List.length_take, h.len]; omega) ?_
    · rw [List.size_toArray, over_len (by rw [hzc, Array.length_toList, hcs']; omega), Array.length_toList, hcs']; rfl
    · show (over cur.toList (m * 5) (Builtin.zeroCells (Value.agg #[.int .i64 0, .int .i64 0, .int .i64 0, .int .i64 0, .int .i64 0]).cells (n - m)).toList).take (m * 5) = _
      rw [over_take (by rw [hzc, Array.length_toList, hcs']; omega) (Nat.le_refl _), flatE_take, ← hct, List.take_take]
      congr 1
      exact (Nat.min_eq_left (Nat.mul_le_mul_right _ (by omega))).symm
  · obtain ⟨q, hq⟩ : ∃ q, n - m = q + 1 := ⟨n - m - 1, by omega⟩
    have hv := Tryz.zeroValue44
    rw [Nat.add_zero] at hst
    rw [hq] at hst ⊢
    simp [Builtin.clear_, run_underlying Tryz.underlying38, hv, hst]
    unfold over
    rw [Array.length_toList, List.append_assoc]
theorem cells_toD {w : World} {b o o' : Nat} {y : Dec} (h : CellsD w b o y) (e : o = o') : CellsD w b o' y := e ▸ h
set_option maxHeartbeats 1000000 in
theorem compactD_small (A : Option Addr) (n c : Nat) (w : World) (h : n < 2) :
    Calls Tryz.prog 55 #[.slice A n c] w fun e w' => e = .returned (.slice A n c) ∧ w = w' := by
  have d0 : decide ((n : Int) < 2) = true := decide_eq_true (by omega)
  go_enter Tryz.func55, Tryz.ntmps55
  go_wp2_with fail
  go_ret
  exact ⟨rfl, rfl⟩
/-- the inner loop's rounds -/
def CpD (w0 : World) (base g n c k0 : Nat) (zs : List Dec) (v3 v5 : Value) (wr : World) : Prop :=
  ∃ (m j : Nat) (us : List Dec), v3 = .int .i64 (m : Int) ∧ v5 = .int .i64 (j : Int) ∧ 1 ≤ j ∧ k0 + j ≤ n ∧ m < k0 + j ∧ Ow eD wr base (some ⟨g, 0, none⟩) n c us ∧ us.length = n ∧ us.take m = cmpct (zs.take (k0 + j)) ∧ (cmpct (zs.take (k0 + j))).length = m ∧ (∀ i, k0 + j - 1 ≤ i → us[i]? = zs[i]?) ∧ Turn (Is g) w0 wr
set_option maxHeartbeats 8000000 in
set_option maxRecDepth 100000 in
theorem compactD_big (g c : Nat) (zs : List Dec) (w : World) (base n : Nat) (ho : Ow eD w base (some ⟨g, 0, none⟩) n c zs) (h2 : 2 ≤ n) (hm : n ≤ 2000) :
    Calls Tryz.prog 55 #[.slice (some ⟨g, 0, none⟩) n c] w fun e w' => e = .returned (.slice (some ⟨g, 0, none⟩) (cmpct zs).length c) ∧ Ow eD w' base (some ⟨g, 0, none⟩) (cmpct zs).length c (cmpct zs) ∧ Turn (Is g) w w' := by
  have hnc := ho.le.1
  have hc := ho.le.2
  have HO := hide ho
  have HN := hide ho.len.symm
  have d0 : decide ((n : Int) < 2) = false := decide_eq_false (by omega)
  unfold maxLen at hc
  clear ho
  go_enter Tryz.func55, Tryz.ntmps55
  go_wp2_with fail
  go_loopw [3] (fun i wr => ∃ k : Nat, i = .int .i64 (k : Int) ∧ 1 ≤ k ∧ k ≤ n ∧ Hid (cmpct (zs.take k) = zs.take k) ∧ Hid (Ow eD wr base (some ⟨g, 0, none⟩) n c zs) ∧ Hid (Turn (Is g) w wr)) (fun i _ => n - (RowKit.intOf i).toNat)
  case atStart => exact ⟨1, rfl, by omega, by omega, hide (cmpct_one (by have := HN.out; omega)), HO, hide (Turn.refl _ _)⟩
  case round =>
    obtain ⟨k, rfl, hk1, hkn, HC, HW, HB⟩ := hrel
    by_cases hlt : k < n
    · have hs := HW.out.sl
      have hy : zs[k]? = some (zs[k]'(by have := HN.out; omega)) := List.getElem?_eq_getElem _
      have hx : zs[k - 1]? = some (zs[k - 1]'(by have := HN.out; omega)) := List.getElem?_eq_getElem _
      generalize zs[k]'_ = y at hy
      generalize zs[k - 1]'_ = x at hx
      obtain ⟨k0, k1, k2, k3, k4⟩ := cells_toD (hs.cellsD hy) (show 0 + k * 5 = k * 5 by omega)
      obtain ⟨m0, m1, m2, m3, m4⟩ := cells_toD (hs.cellsD hx) (show 0 + (k - 1) * 5 = (k - 1) * 5 by omega)
      have HX := hide hx
      have HY := hide hy
      have d1 : decide ((k : Int) < (n : Int)) = true := decide_eq_true (by omega)
      have i1 : IntKind.i64.wrap ((k : Int) - 1) = (k : Int) - 1 := IntWalk.i64_in _ (by omega)
      have i2 : (0 : Int) ≤ (k : Int) - 1 := by omega
      have i3 : (k : Int) - 1 < (n : Int) := by omega
      have i4 : ((k : Int) - 1).toNat = k - 1 := by omega
      clear hs hx hy
      by_cases he : y = x
      · have e0 := fun (w : World) => eqD_run y x w true (decide_eq_true he)
        have HE := hide he
        clear he
        go_wp2_with fail
        go_region
        all_goals
          clear k0 k1 k2 k3 k4 m0 m1 m2 m3 m4 e0
          have c1 : ¬ (c = k) := by omega
          have HW1 := hide (show Ow eD wr.drew base (some ⟨g, 0, none⟩) n c zs from HW.out.keep ((Below.refl _ _).drew))
          have HB1 := hide HB.out.drew_
          have HC1 := hide (show cmpct (zs.take (k + 1)) = zs.take k by
            obtain ⟨p, rfl⟩ : ∃ p, k = p + 1 := ⟨k - 1, by omega⟩
            have hx' : zs[p]? = some x := HX.out
            rw [cmpct_step hx' HY.out, HC.out, if_pos HE.out.symm, List.append_nil])
          clear HC HW HB HX HY HE
          obtain ⟨wq, hwq⟩ : ∃ x, x = wr := ⟨_, rfl⟩
          subst hwq
          go_wp2_with fail
          go_loopw [3, 5] (fun a b wr => CpD w base g n c k zs a b wr) (fun _ b _ => n - (RowKit.intOf b).toNat)
          case atStart =>
            have hl := HN.out
            refine ⟨k, 1, zs, rfl, rfl, by omega, by omega, by omega, HW1.out, by omega, HC1.out.symm, ?_, fun _ _ => rfl, HB1.out⟩
            rw [HC1.out, List.length_take]
            omega
          case round =>
            obtain ⟨m, j, us, rfl, rfl, hj, hjn, hmj, hou, hlu, htk, hln, hsame, hbl⟩ := hrel
            have HOU := hide hou
            have HTK := hide htk
            have HLN := hide hln
            have HSM := hide hsame
            have HBL := hide hbl
            have HLU := hide hlu
            clear htk hln hsame hbl hlu
            by_cases hjl : k + j < n
            · have hs := hou.sl
              obtain ⟨y', hy⟩ : ∃ y', us[k + j]? = some y' := ⟨_, List.getElem?_eq_getElem (by have := HLU.out; omega)⟩
              obtain ⟨x', hx⟩ : ∃ x', us[k + j - 1]? = some x' := ⟨_, List.getElem?_eq_getElem (by have := HLU.out; omega)⟩
              obtain ⟨k0, k1, k2, k3, k4⟩ := cells_toD (hs.cellsD hy) (show 0 + (k + j) * 5 = k * 5 + j * 5 by omega)
              obtain ⟨m0, m1, m2, m3, m4⟩ := cells_toD (hs.cellsD hx) (show 0 + (k + j - 1) * 5 = k * 5 + (j - 1) * 5 by omega)
              have HSTEP := hide (show cmpct (zs.take (k + j + 1)) = cmpct (zs.take (k + j)) ++ (if x' = y' then [] else [y']) by
                obtain ⟨p, hp⟩ : ∃ p, k + j = p + 1 := ⟨k + j - 1, by omega⟩
                have hx' : zs[p]? = some x' := by rw [← HSM.out p (by omega), ← hx, hp]; rfl
                have hy' : zs[p + 1]? = some y' := by rw [← HSM.out (p + 1) (by omega), ← hy, hp]
                rw [hp]
                exact cmpct_step hx' hy')
              have HY2 := hide hy
              have q1 : decide ((j : Int) < ((n - k : Nat) : Int)) = true := decide_eq_true (by omega)
              have q2 : (0 : Int) ≤ (j : Int) := by omega
              have q3 : (j : Int) < ((n - k : Nat) : Int) := by omega
              have i1 : IntKind.i64.wrap ((j : Int) - 1) = (j : Int) - 1 := IntWalk.i64_in _ (by omega)
              have i2 : (0 : Int) ≤ (j : Int) - 1 := by omega
              have i3 : (j : Int) - 1 < ((n - k : Nat) : Int) := by omega
              have i4 : ((j : Int) - 1).toNat = j - 1 := by omega
              clear hs hx hy hou
              by_cases he : y' = x'
              · have e0 := fun (w : World) => eqD_run y' x' w true (decide_eq_true he)
                have HE := hide he
                clear he
                go_wp2_with fail
                go_region
                all_goals
                  go_wp2_with fail
                  go_roundw
                  case rel =>
                    refine ⟨m, j + 1, us, rfl, by go_num, by omega, by omega, by omega, (by first | exact HOU.out.keep ((Below.refl _ _).drew) | exact HOU.out), HLU.out, ?_, ?_, fun i hi => HSM.out i (by omega), by first | exact HBL.out.drew_ | exact HBL.out⟩
                    · rw [← Nat.add_assoc, HSTEP.out, if_pos HE.out.symm, List.append_nil]; exact HTK.out
                    · rw [← Nat.add_assoc, HSTEP.out, if_pos HE.out.symm, List.append_nil]; exact HLN.out
                  case measure => simp [RowKit.intOf]; omega
              · have e0 := fun (w : World) => eqD_run y' x' w false (decide_eq_false he)
                have HE := hide he
                clear he
                go_wp2_with fail
                go_region
                all_goals
                  clear k0 k1 k2 k3 k4 m0 m1 m2 m3 m4 e0
                  have HO1 := hide (show Ow eD wr.drew base (some ⟨g, 0, none⟩) n c us from HOU.out.keep ((Below.refl _ _).drew))
                  have hs := HO1.out.sl
                  obtain ⟨u', hu⟩ : ∃ u', us[m]? = some u' := ⟨_, List.getElem?_eq_getElem (by have := HLU.out; omega)⟩
                  obtain ⟨k0, k1, k2, k3, k4⟩ := cells_toD (hs.cellsD HY2.out) (show 0 + (k + j) * 5 = k * 5 + j * 5 by omega)
                  obtain ⟨m0, m1, m2, m3, m4⟩ := cells_toD (hs.cellsD hu) (show 0 + m * 5 = m * 5 by omega)
                  have f0 := own_frozen HO1.out (m * 5)
                  have f1 := own_frozen HO1.out (m * 5 + 1)
                  have f2 := own_frozen HO1.out (m * 5 + 2)
                  have f3 := own_frozen HO1.out (m * 5 + 3)
                  have f4 := own_frozen HO1.out (m * 5 + 4)
                  have t0 : (0 : Int) ≤ (m : Int) := by omega
                  have t1 : (m : Int) < (n : Int) := by omega
                  have HB1 := hide HBL.out.drew_
                  clear hs hu
                  generalize wr.drew = wz at *
                  go_wp2_with fail
                  go_roundw
                  case rel =>
                    have hlu := HLU.out
                    refine ⟨m + 1, j + 1, us.set m y', by go_num, by go_num, by omega, by omega, by omega, HO1.out.putD (by omega) y', by rw [List.length_set]; exact hlu, ?_, ?_, ?_, put_turnD HB1.out rfl y'⟩
                    · rw [← Nat.add_assoc, HSTEP.out, if_neg fun e => HE.out e.symm, ← HTK.out, List.take_add_one, List.getElem?_set_self (by omega), List.take_set, List.set_eq_of_length_le (by rw [List.length_take]; omega)]
                      rfl
                    · rw [← Nat.add_assoc, HSTEP.out, if_neg fun e => HE.out e.symm, List.length_append, HLN.out]
                      rfl
                    · intro i hi
                      rw [List.getElem?_set_ne (by omega)]
                      exact HSM.out i (by omega)
                  case measure => simp [RowKit.intOf]; omega
            · obtain rfl : j = n - k := by omega
              have q1 : decide (((n - k : Nat) : Int) < ((n - k : Nat) : Int)) = false := decide_eq_false (by omega)
              have hmn : m < n := by omega
              obtain ⟨W, hcl, hWo, hWt⟩ := clearD_run HOU.out hmn
              have HWO := hide hWo
              have HWT := hide hWt
              have hcl := fun ty => hcl ty (c - m)
              have c2 : ¬ (c = m) := by omega
              clear hou hWo hWt
              go_wp2_with fail
              go_ret
              have hz := HTK.out
              have hl := HLN.out
              have hn := HN.out
              rw [show k + (n - k) = n by omega, hn, List.take_length] at hz hl
              refine ⟨by rw [hl]; rfl, ?_, HBL.out.trans HWT.out⟩
              rw [hl, ← hz]
              exact HWO.out
      · have e0 := fun (w : World) => eqD_run y x w false (decide_eq_false he)
        have HE := hide he
        clear he
        go_wp2_with fail
        go_region
        all_goals
          go_wp2_with fail
          go_roundw
          case rel =>
            refine ⟨k + 1, by go_num, by omega, by omega, hide ?_, hide (by first | exact HW.out.keep ((Below.refl _ _).drew) | exact HW.out), hide (by first | exact HB.out.drew_ | exact HB.out)⟩
            obtain ⟨p, rfl⟩ : ∃ p, k = p + 1 := ⟨k - 1, by omega⟩
            have hx' : zs[p]? = some x := HX.out
            rw [cmpct_step hx' HY.out, HC.out, if_neg fun e => HE.out e.symm, List.take_add_one (i := p + 1), HY.out]
            rfl
          case measure => simp [RowKit.intOf]; omega
    · obtain rfl : k = n := by omega
      have d1 : decide ((k : Int) < (k : Int)) = false := decide_eq_false (by omega)
      go_wp2_with fail
      go_ret
      have hz := HC.out
      rw [HN.out, List.take_length] at hz
      rw [hz]
      exact ⟨by rw [← HN.out]; rfl, by rw [← HN.out]; exact HW.out, HB.out⟩
theorem compactD_any (B n c : Nat) (A : Option Addr) (zs : List Dec) (w : World) (ho : Ow eD w B A n c zs) (hm : n ≤ 2000) :
    Calls Tryz.prog 55 #[.slice A n c] w fun e w' => e = .returned (.slice A (cmpct zs).length c) ∧ Ow eD w' B A (cmpct zs).length c (cmpct zs) ∧ Turn (Blk A) w w' := by
  have hl := ho.len
  by_cases h : n < 2
  · refine (compactD_small A n c w h).mono ?_
    rintro e w' ⟨rfl, rfl⟩
    have hz : cmpct zs = zs := by
      match zs, hl with
      | [], _ => rfl
      | [_], _ => rfl
      | _ :: _ :: _, hl => simp at hl; omega
    rw [hz, hl]
    exact ⟨rfl, ho, Turn.refl _ _⟩
  · obtain ⟨g, rfl, hg1, hg2⟩ := ho.pos (by omega)
    refine (compactD_big g c zs w B n ho (by omega) hm).mono ?_
    rintro e w' ⟨rfl, h1, h2⟩
    exact ⟨rfl, h1, h2.mono fun k _ hk => by rw [show k = g from hk]; exact ⟨0, none, rfl⟩⟩
end Go.Proofs.YtalbdclcappjpaaGreat
