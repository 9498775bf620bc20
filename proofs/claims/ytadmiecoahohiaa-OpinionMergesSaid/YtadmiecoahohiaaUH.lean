/- Sorting numbers and leaving out those that are there twice. -/
import Derived.Test.YtadmiecoahohiaaUC
import Derived.Test.YtadmiecoahohiaaShelf
import Derived.Laws.IdiomCopy
import Derived.Sort.OwnSortedInts
namespace Go.Proofs.Ytadmiecoahohiaa
open Go Go.RowKit Go.Lib
theorem own_frozen {α : Type} {e : En α} {w : World} {B g n c : Nat} {zs : List α} (h : Ow e w B (some ⟨g, 0, none⟩) n c zs) (j : Nat) : w.frozen? ⟨g, j, none⟩ = false := World.ownsRow.frozenAt h j
theorem flatI : ∀ zs : List Int, flatE eI zs = zs.map (Value.int .i64)
  | [] => rfl
  | z :: zs => by rw [flatE_cons, flatI zs]; rfl
theorem flat_setI : ∀ (zs : List Int) (k : Nat) (y : Int), (flatE eI zs).set k (.int .i64 y) = flatE eI (zs.set k y) := fun zs k y => by
  rw [flatI, flatI, List.map_set]
theorem Ow.putI {w : World} {B g n c : Nat} {zs : List Int} (h : Ow eI w B (some ⟨g, 0, none⟩) n c zs) {k : Nat} (_hk : k < zs.length) (y : Int) :
    Ow eI (w.setCell ⟨g, k, none⟩ (.int .i64 y)) B (some ⟨g, 0, none⟩) n c (zs.set k y) := by
  have h1 := (World.ownsRow.stored h k (.int .i64 y)).1
  rw [flat_setI] at h1
  exact h1
theorem put_turnI {F : Nat → Prop} {w W : World} {g k : Nat} (h : Turn F w W) (hF : F g) (y : Int) : Turn F w (W.setCell ⟨g, k, none⟩ (.int .i64 y)) := h.set _ _ hF
/-- clear, of the rest of a row -/
theorem clearI_run {w : World} {B g n c : Nat} {zs : List Int} (h : Ow eI w B (some ⟨g, 0, none⟩) n c zs) {m : Nat} (hm : m < n) :
    ∃ W, (∀ (ty : TypeId) (d : Nat), (Builtin.clear_ #[37] ty #[.slice (some ⟨g, m, none⟩) (n - m) d]).run Try.prog w = .ok (.tuple #[]) W) ∧ Ow eI W B (some ⟨g, 0, none⟩) m c (zs.take m) ∧ Turn (Is g) w W := by
  obtain ⟨cur, hB, hg, hnc, hcm, hcs, hct⟩ := h.parts
  have hcs' : cur.size = c * 1 := hcs
  have hzc : (Builtin.zeroCells (Value.int .i64 0).cells (n - m)).toList.length = (n - m) * 1 := by simp [size_zeroCells, Value.cells]
  have hz1 : ∀ v ∈ (Builtin.zeroCells (Value.int .i64 0).cells (n - m)).toList, v.oneCell' = true := by
    intro v hv
    obtain ⟨i, hi, rfl⟩ := List.getElem_of_mem hv
    simp only [Builtin.zeroCells, Value.cells]
    simp
    rw [Nat.mod_one]
    rfl
  have hst := run_storeCells_at Try.prog g (m * 1) eI.t (Builtin.zeroCells (Value.int .i64 0).cells (n - m)).toList 0 cur w hg (by rw [hzc, hcs']; omega) hz1
  refine ⟨w.setRow g (over cur.toList (m * 1) (Builtin.zeroCells (Value.int .i64 0).cells (n - m)).toList).toArray, fun ty d => ?_, ?_, turn_row (F := Is g) (Turn.refl _ _) (.inr rfl) _⟩
  rotate_left
  · refine Ow.made (cur := (over cur.toList (m * 1) (Builtin.zeroCells (Value.int .i64 0).cells (n - m)).toList).toArray) hB (setRow_heap _ _ _ _ _ _ hg) (by omega) hcm ?_ (by rw [List.length_take, h.len]; omega) ?_
    · rw [List.size_toArray, over_len (by rw [hzc, Array.length_toList, hcs']; omega), Array.length_toList, hcs']; rfl
    · show (over cur.toList (m * 1) (Builtin.zeroCells (Value.int .i64 0).cells (n - m)).toList).take (m * 1) = _
      rw [over_take (by rw [hzc, Array.length_toList, hcs']; omega) (Nat.le_refl _), flatE_take, ← hct, List.take_take]
      congr 1
      exact (Nat.min_eq_left (Nat.mul_le_mul_right _ (by omega))).symm
  · obtain ⟨q, hq⟩ : ∃ q, n - m = q + 1 := ⟨n - m - 1, by omega⟩
    have hv := Try.zeroValue3
    rw [Nat.add_zero] at hst
    rw [hq] at hst ⊢
    simp only [Nat.mul_one] at hst ⊢
    simp [Builtin.clear_, run_underlying Try.underlying37, hv, hst]
    unfold over
    rw [Array.length_toList, List.append_assoc]
theorem cells_toI {w : World} {b o o' : Nat} {y : Int} (h : CellsI w b o y) (e : o = o') : w.cell? ⟨b, o', none⟩ = some (.int .i64 y) := e ▸ h
set_option maxHeartbeats 1000000 in
theorem compactI_small (A : Option Addr) (n c : Nat) (w : World) (h : n < 2) :
    Calls Try.prog 59 #[.slice A n c] w fun e w' => e = .returned (.slice A n c) ∧ w = w' := by
  have d0 : decide ((n : Int) < 2) = true := decide_eq_true (by omega)
  go_enter Try.func59, Try.ntmps59
  go_wp2_with fail
  go_ret
  exact ⟨rfl, rfl⟩
/-- the inner loop's rounds -/
def CpI (w0 : World) (base g n c k0 : Nat) (zs : List Int) (v3 v5 : Value) (wr : World) : Prop :=
  ∃ (m j : Nat) (us : List Int), v3 = .int .i64 (m : Int) ∧ v5 = .int .i64 (j : Int) ∧ 1 ≤ j ∧ k0 + j ≤ n ∧ m < k0 + j ∧ Ow eI wr base (some ⟨g, 0, none⟩) n c us ∧ us.length = n ∧ us.take m = cmpct (zs.take (k0 + j)) ∧ (cmpct (zs.take (k0 + j))).length = m ∧ (∀ i, k0 + j - 1 ≤ i → us[i]? = zs[i]?) ∧ Turn (Is g) w0 wr
set_option maxHeartbeats 8000000 in
set_option maxRecDepth 100000 in
theorem compactI_big (g c : Nat) (zs : List Int) (w : World) (base n : Nat) (ho : Ow eI w base (some ⟨g, 0, none⟩) n c zs) (h2 : 2 ≤ n) (hm : n ≤ 2000) :
    Calls Try.prog 59 #[.slice (some ⟨g, 0, none⟩) n c] w fun e w' => e = .returned (.slice (some ⟨g, 0, none⟩) (cmpct zs).length c) ∧ Ow eI w' base (some ⟨g, 0, none⟩) (cmpct zs).length c (cmpct zs) ∧ Turn (Is g) w w' := by
  have hnc := ho.le.1
  have hc := ho.le.2
  have HO := hide ho
  have HN := hide ho.len.symm
  have d0 : decide ((n : Int) < 2) = false := decide_eq_false (by omega)
  unfold maxLen at hc
  clear ho
  go_enter Try.func59, Try.ntmps59
  go_wp2_with fail
  go_loopw [3] (fun i wr => ∃ k : Nat, i = .int .i64 (k : Int) ∧ 1 ≤ k ∧ k ≤ n ∧ Hid (cmpct (zs.take k) = zs.take k) ∧ Hid (Ow eI wr base (some ⟨g, 0, none⟩) n c zs) ∧ Hid (Turn (Is g) w wr)) (fun i _ => n - (RowKit.intOf i).toNat)
  case atStart => exact ⟨1, rfl, by omega, by omega, hide (cmpct_one (by have := HN.out; omega)), HO, hide (Turn.refl _ _)⟩
  case round =>
    obtain ⟨k, rfl, hk1, hkn, HC, HW, HB⟩ := hrel
    by_cases hlt : k < n
    · have hs := HW.out.sl
      have hy : zs[k]? = some (zs[k]'(by have := HN.out; omega)) := List.getElem?_eq_getElem _
      have hx : zs[k - 1]? = some (zs[k - 1]'(by have := HN.out; omega)) := List.getElem?_eq_getElem _
      generalize zs[k]'_ = y at hy
      generalize zs[k - 1]'_ = x at hx
      have k0 := cells_toI (hs.cellsI hy) (show 0 + k * 1 = k by omega)
      have m0 := cells_toI (hs.cellsI hx) (show 0 + (k - 1) * 1 = k - 1 by omega)
      have HX := hide hx
      have HY := hide hy
      have d1 : decide ((k : Int) < (n : Int)) = true := decide_eq_true (by omega)
      have i1 : IntKind.i64.wrap ((k : Int) - 1) = (k : Int) - 1 := IntWalk.i64_in _ (by omega)
      have i2 : (0 : Int) ≤ (k : Int) - 1 := by omega
      have i3 : (k : Int) - 1 < (n : Int) := by omega
      have i4 : ((k : Int) - 1).toNat = k - 1 := by omega
      clear hs hx hy
      by_cases he : y = x
      · have e0 : (y == x) = true := beq_iff_eq.2 he; have e2 : (y != x) = false := by rw [bne, e0]; rfl
        have HE := hide he
        clear he
        go_wp2_with fail
        go_region
        all_goals
          clear k0 m0 e0 e2
          have c1 : ¬ (c = k) := by omega
          have HW1 := hide (show Ow eI wr.drew base (some ⟨g, 0, none⟩) n c zs from HW.out.keep ((Below.refl _ _).drew))
          have HB1 := hide HB.out.drew_
          have HC1 := hide (show cmpct (zs.take (k + 1)) = zs.take k by
            obtain ⟨p, rfl⟩ : ∃ p, k = p + 1 := ⟨k - 1, by omega⟩
            have hx' : zs[p]? = some x := HX.out
            rw [cmpct_step hx' HY.out, HC.out, if_pos HE.out.symm, List.append_nil])
          clear HC HW HB HX HY HE
          obtain ⟨wq, hwq⟩ : ∃ x, x = wr := ⟨_, rfl⟩
          subst hwq
          go_wp2_with fail
          go_loopw [3, 5] (fun a b wr => CpI w base g n c k zs a b wr) (fun _ b _ => n - (RowKit.intOf b).toNat)
          case atStart =>
            have hl := HN.out
            refine ⟨k, 1, zs, rfl, rfl, by omega, by omega, by omega, HW1.out, by omega, HC1.out.symm, ?_, fun _ _ => rfl, HB1.out⟩
            rw [HC1.out, List.length_take]
            omega
          case round =>
            obtain ⟨m, j, us, rfl, rfl, hj, hjn, hmj, hou, hlu, htk, hln, hsame, hbl⟩ := hrel
            have HOU := hide hou
            have HTK := hide htk
            have HLN := hide hln
            have HSM := hide hsame
            have HBL := hide hbl
            have HLU := hide hlu
            clear htk hln hsame hbl hlu
            by_cases hjl : k + j < n
            · have hs := hou.sl
              obtain ⟨y', hy⟩ : ∃ y', us[k + j]? = some y' := ⟨_, List.getElem?_eq_getElem (by have := HLU.out; omega)⟩
              obtain ⟨x', hx⟩ : ∃ x', us[k + j - 1]? = some x' := ⟨_, List.getElem?_eq_getElem (by have := HLU.out; omega)⟩
              have k0 := cells_toI (hs.cellsI hy) (show 0 + (k + j) * 1 = k + j by omega)
              have m0 := cells_toI (hs.cellsI hx) (show 0 + (k + j - 1) * 1 = k + (j - 1) by omega)
              have HSTEP := hide (show cmpct (zs.take (k + j + 1)) = cmpct (zs.take (k + j)) ++ (if x' = y' then [] else [y']) by
                obtain ⟨p, hp⟩ : ∃ p, k + j = p + 1 := ⟨k + j - 1, by omega⟩
                have hx' : zs[p]? = some x' := by rw [← HSM.out p (by omega), ← hx, hp]; rfl
                have hy' : zs[p + 1]? = some y' := by rw [← HSM.out (p + 1) (by omega), ← hy, hp]
                rw [hp]
                exact cmpct_step hx' hy')
              have HY2 := hide hy
              have q1 : decide ((j : Int) < ((n - k : Nat) : Int)) = true := decide_eq_true (by omega)
              have q2 : (0 : Int) ≤ (j : Int) := by omega
              have q3 : (j : Int) < ((n - k : Nat) : Int) := by omega
              have i1 : IntKind.i64.wrap ((j : Int) - 1) = (j : Int) - 1 := IntWalk.i64_in _ (by omega)
              have i2 : (0 : Int) ≤ (j : Int) - 1 := by omega
              have i3 : (j : Int) - 1 < ((n - k : Nat) : Int) := by omega
              have i4 : ((j : Int) - 1).toNat = j - 1 := by omega
              clear hs hx hy hou
              by_cases he : y' = x'
              · have e0 : (y' == x') = true := beq_iff_eq.2 he; have e2 : (y' != x') = false := by rw [bne, e0]; rfl
                have HE := hide he
                clear he
                go_wp2_with fail
                go_region
                all_goals
                  go_wp2_with fail
                  go_roundw
                  case rel =>
                    refine ⟨m, j + 1, us, rfl, by go_num, by omega, by omega, by omega, (by first | exact HOU.out.keep ((Below.refl _ _).drew) | exact HOU.out), HLU.out, ?_, ?_, fun i hi => HSM.out i (by omega), by first | exact HBL.out.drew_ | exact HBL.out⟩
                    · rw [← Nat.add_assoc, HSTEP.out, if_pos HE.out.symm, List.append_nil]; exact HTK.out
                    · rw [← Nat.add_assoc, HSTEP.out, if_pos HE.out.symm, List.append_nil]; exact HLN.out
                  case measure => simp [RowKit.intOf]; omega
              · have e0 : (y' == x') = false := beq_eq_false_iff_ne.2 he; have e2 : (y' != x') = true := by rw [bne, e0]; rfl
                have HE := hide he
                clear he
                go_wp2_with fail
                go_region
                all_goals
                  clear k0 m0 e0 e2
                  have HO1 := hide (show Ow eI wr.drew base (some ⟨g, 0, none⟩) n c us from HOU.out.keep ((Below.refl _ _).drew))
                  have hs := HO1.out.sl
                  obtain ⟨u', hu⟩ : ∃ u', us[m]? = some u' := ⟨_, List.getElem?_eq_getElem (by have := HLU.out; omega)⟩
                  have k0 := cells_toI (hs.cellsI HY2.out) (show 0 + (k + j) * 1 = k + j by omega)
                  have m0 := cells_toI (hs.cellsI hu) (show 0 + m * 1 = m by omega)
                  have f0 := own_frozen HO1.out m
                  have t0 : (0 : Int) ≤ (m : Int) := by omega
                  have t1 : (m : Int) < (n : Int) := by omega
                  have HB1 := hide HBL.out.drew_
                  clear hs hu
                  generalize wr.drew = wz at *
                  go_wp2_with fail
                  go_roundw
                  case rel =>
                    have hlu := HLU.out
                    refine ⟨m + 1, j + 1, us.set m y', by go_num, by go_num, by omega, by omega, by omega, HO1.out.putI (by omega) y', by rw [List.length_set]; exact hlu, ?_, ?_, ?_, put_turnI HB1.out rfl y'⟩
                    · rw [← Nat.add_assoc, HSTEP.out, if_neg fun e => HE.out e.symm, ← HTK.out, List.take_add_one, List.getElem?_set_self (by omega), List.take_set, List.set_eq_of_length_le (by rw [List.length_take]; omega)]
                      rfl
                    · rw [← Nat.add_assoc, HSTEP.out, if_neg fun e => HE.out e.symm, List.length_append, HLN.out]
                      rfl
                    · intro i hi
                      rw [List.getElem?_set_ne (by omega)]
                      exact HSM.out i (by omega)
                  case measure => simp [RowKit.intOf]; omega
            · obtain rfl : j = n - k := by omega
              have q1 : decide (((n - k : Nat) : Int) < ((n - k : Nat) : Int)) = false := decide_eq_false (by omega)
              have hmn : m < n := by omega
              obtain ⟨W, hcl, hWo, hWt⟩ := clearI_run HOU.out hmn
              have HWO := hide hWo
              have HWT := hide hWt
              have hcl := fun ty => hcl ty (c - m)
              have c2 : ¬ (c = m) := by omega
              clear hou hWo hWt
              go_wp2_with fail
              go_ret
              have hz := HTK.out
              have hl := HLN.out
              have hn := HN.out
              rw [show k + (n - k) = n by omega, hn, List.take_length] at hz hl
              refine ⟨by rw [hl]; rfl, ?_, HBL.out.trans HWT.out⟩
              rw [hl, ← hz]
              exact HWO.out
      · have e0 : (y == x) = false := beq_eq_false_iff_ne.2 he; have e2 : (y != x) = true := by rw [bne, e0]; rfl
        have HE := hide he
        clear he
        go_wp2_with fail
        go_region
        all_goals
          go_wp2_with fail
          go_roundw
          case rel =>
            refine ⟨k + 1, by go_num, by omega, by omega, hide ?_, hide (by first | exact HW.out.keep ((Below.refl _ _).drew) | exact HW.out), hide (by first | exact HB.out.drew_ | exact HB.out)⟩
            obtain ⟨p, rfl⟩ : ∃ p, k = p + 1 := ⟨k - 1, by omega⟩
            have hx' : zs[p]? = some x := HX.out
            rw [cmpct_step hx' HY.out, HC.out, if_neg fun e => HE.out e.symm, List.take_add_one (i := p + 1), HY.out]
            rfl
          case measure => simp [RowKit.intOf]; omega
    · obtain rfl : k = n := by omega
      have d1 : decide ((k : Int) < (k : Int)) = false := decide_eq_false (by omega)
      go_wp2_with fail
      go_ret
      have hz := HC.out
      rw [HN.out, List.take_length] at hz
      rw [hz]
      exact ⟨by rw [← HN.out]; rfl, by rw [← HN.out]; exact HW.out, HB.out⟩
theorem compactI_any (B n c : Nat) (A : Option Addr) (zs : List Int) (w : World) (ho : Ow eI w B A n c zs) (hm : n ≤ 2000) :
    Calls Try.prog 59 #[.slice A n c] w fun e w' => e = .returned (.slice A (cmpct zs).length c) ∧ Ow eI w' B A (cmpct zs).length c (cmpct zs) ∧ Turn (Blk A) w w' := by
  have hl := ho.len
  by_cases h : n < 2
  · refine (compactI_small A n c w h).mono ?_
    rintro e w' ⟨rfl, rfl⟩
    have hz : cmpct zs = zs := by
      match zs, hl with
      | [], _ => rfl
      | [_], _ => rfl
      | _ :: _ :: _, hl => simp at hl; omega
    rw [hz, hl]
    exact ⟨rfl, ho, Turn.refl _ _⟩
  · obtain ⟨g, rfl, hg1, hg2⟩ := ho.pos (by omega)
    refine (compactI_big g c zs w B n ho (by omega) hm).mono ?_
    rintro e w' ⟨rfl, h1, h2⟩
    exact ⟨rfl, h1, h2.mono fun k _ hk => by rw [show k = g from hk]; exact ⟨0, none, rfl⟩⟩

theorem sortI_pos (B g c : Nat) (zs : List Int) (w : World) (ho : Ow eI w B (some ⟨g, 0, none⟩) zs.length c zs) (hm : zs.length ≤ 2000) :
    Calls Try.prog 58 #[.slice (some ⟨g, 0, none⟩) zs.length c] w fun e w' => e = .returned (.tuple #[]) ∧ Ow eI w' B (some ⟨g, 0, none⟩) zs.length c (zs.mergeSort fun x y => decide (x ≤ y)) ∧ Turn (Is g) w w' := by
  obtain ⟨cur, hB, hg, hnc, hcm, hcs, hct⟩ := ho.parts
  have hgl : g < w.heap.size := (Array.getElem?_eq_some_iff.1 hg).1
  have hH : Go.Sort.Holds (Value.int .i64) w g 0 zs.toArray := holds_of_blockI hg (by rw [← flatI, ← hct]; congr 1; exact (Nat.mul_one _).symm)
  refine (Try.slices_Sort_int g 0 c zs w hH hgl (by omega)).mono ?_
  rintro e w' ⟨rfl, n, os, rfl⟩
  have hl : (zs.mergeSort fun x y => decide (x ≤ y)).length = zs.length := List.length_mergeSort _
  refine ⟨rfl, ?_, Turn.grown (grownBy_sortedI _) fun k hk => by injection hk with hk; exact hk.symm⟩
  unfold Ow
  rw [flatI]
  exact ownsRow_sortedI (ss := zs) hl hB hg hnc hcm hcs
set_option maxHeartbeats 1000000 in
theorem sortI_zero (A : Option Addr) (c : Nat) (w : World) :
    Calls Try.prog 58 #[.slice A 0 c] w fun e w' => e = .returned (.tuple #[]) ∧ w = w' := by
  have h0 : ∀ (W : World), Calls Try.prog 75 #[.slice A 0 c, .int .i64 0, .int .i64 0] W fun e w' => e = .returned (.tuple #[]) ∧ W = w' := by
    intro W
    go_enter Try.func75, Try.ntmps75
    go_wp2_with fail
    refine wp_loop_rounds 1 ?_
    rw [rounds_succ]
    go_wp2_with fail
    go_end0
    exact ⟨rfl, rfl⟩
  have H0 := hide h0
  clear h0
  have h1 : ∀ (W : World) (l : Int), Calls Try.prog 68 #[.slice A 0 c, .int .i64 0, .int .i64 0, .int .i64 l] W fun e w' => e = .returned (.tuple #[]) ∧ W = w' := by
    intro W l
    go_enter Try.func68, Try.ntmps68
    go_wp2_with fail
    refine wp_loop_rounds 1 ?_
    rw [rounds_succ]
    go_wp2_with fail
    refine (H0.out _).mono ?_
    rintro e w' ⟨rfl, rfl⟩
    go_wp2_with fail
    exact bodyPost_ret (v := .tuple #[]) (by simp [results, Try.results68, go_sem]) rfl ⟨rfl, rfl⟩
  have H1 := hide h1
  clear h1
  have h2 := Try.bits_Len 0 w (by omega) (by omega)
  have H2 := hide h2
  clear h2
  go_enter Try.func58, Try.ntmps58
  go_wp2_with fail
  refine H2.out.mono ?_
  rintro e w' ⟨rfl, rfl⟩
  go_wp2_with fail
  refine (H1.out _ _).mono ?_
  rintro e w' ⟨rfl, rfl⟩
  go_wp2_with fail
  go_end0
  exact ⟨rfl, rfl⟩
theorem sortI_any (B n c : Nat) (A : Option Addr) (zs : List Int) (w : World) (ho : Ow eI w B A n c zs) (hm : n ≤ 2000) :
    Calls Try.prog 58 #[.slice A n c] w fun e w' => e = .returned (.tuple #[]) ∧ Ow eI w' B A n c (zs.mergeSort fun x y => decide (x ≤ y)) ∧ Turn (Blk A) w w' := by
  have hl := ho.len
  rcases Nat.eq_zero_or_pos n with h | h
  · subst h
    obtain rfl : zs = [] := List.length_eq_zero_iff.1 hl
    refine (sortI_zero A c w).mono ?_
    rintro e w' ⟨rfl, rfl⟩
    exact ⟨rfl, by rw [List.mergeSort_nil]; exact ho, Turn.refl _ _⟩
  · obtain ⟨g, rfl, hg1, hg2⟩ := ho.pos h
    subst hl
    refine (sortI_pos B g c zs w ho hm).mono ?_
    rintro e w' ⟨rfl, h1, h2⟩
    exact ⟨rfl, h1, h2.mono fun k _ hk => by rw [show k = g from hk]; exact ⟨0, none, rfl⟩⟩
theorem sorted_le (zs : List Int) : (zs.mergeSort fun x y => decide (x ≤ y)).Pairwise fun x y => x ≤ y :=
  (List.pairwise_mergeSort (le := fun x y : Int => decide (x ≤ y)) (fun a b c h1 h2 => by simp only [decide_eq_true_eq] at *; omega) (fun a b => by simp only [Bool.or_eq_true, decide_eq_true_eq]; omega) zs).imp fun h => by simpa using h
theorem keys_fin (zs : List Int) : cmpct (zs.mergeSort fun x y => decide (x ≤ y)) = kset zs := cmpct_kset (List.mergeSort_perm _ _) (sorted_le zs)
end Go.Proofs.Ytadmiecoahohiaa
