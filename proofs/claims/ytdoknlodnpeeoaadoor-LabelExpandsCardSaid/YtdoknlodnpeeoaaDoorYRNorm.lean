/- The contracts of the reference's Norm and Of. -/
import Derived.Test.YtdoknlodnpeeoaaDoorYDecM
import Derived.Deep.LoopGhost
namespace Go.Proofs.YtdoknlodnpeeoaaDoor
open Go Go.RowKit

/-- the boxes of a parameter and of a result -/
theorem boxPR {w W : World} {v0 v1 : Value} {t0 t1 : TypeId} (hW : ((w.alloc (.cells #[v0] t0)).alloc (.cells #[v1] t1)) = W) :
    Below w.heap.size w W ∧ W.cell? ⟨w.heap.size, 0, none⟩ = some v0 ∧ W.heap[w.heap.size + 1]? = some (.cells #[v1] t1 (0, 0)) ∧ W.heap.size = w.heap.size + 2 := by
  subst hW
  obtain ⟨a, b, _, d⟩ := box2 w v0 v1 t0 t1
  exact ⟨a, b, heap_alloc2_new w _ _, d⟩
theorem app_step (b : Nat) (out : List Nat) (S : Nat) {k : Nat} (hk : out.length = k) : val b (out ++ [S % b]) + b ^ (k + 1) * (S / b) = val b out + b ^ k * S := by
  rw [val_snoc, hk, Nat.pow_succ, Nat.add_assoc, Nat.mul_assoc, ← Nat.mul_add, Nat.mod_add_div]
theorem all_snoc {b : Nat} {out : List Nat} {v : Nat} (h : ∀ x ∈ out, x < b) (hv : v < b) : ∀ x ∈ out ++ [v], x < b := by
  intro x hx
  rcases List.mem_append.1 hx with h1 | h1
  · exact h x h1
  · simp at h1; subst h1; exact hv

set_option maxHeartbeats 1000000 in
theorem rnorm_any (A : Option Addr) (n c : Nat) (xs : List Nat) (w : World) (hr : RL w .u32 A n xs) (hn : n ≤ c) (_hc : c ≤ maxLen) (hN : n ≤ 900000) (hx : ∀ x ∈ xs, x < 4294967296) (V : Nat) (hV : val B9 xs = V) :
    Calls Tryd.prog 68 #[.agg #[.slice A n c]] w (GivesN V w) := by
  have HX := hide hx
  have HL := hide hr.len
  have HV := hide hV
  clear hx hV
  go_enter Tryd.func68, Tryd.ntmps68
  go_wp2_with fail
  generalize hW : (w.alloc _).alloc _ = W
  obtain ⟨hbW, h1, h2, hz⟩ := boxPR hW
  have hrW := hr.below hbW
  have hz0 : w.heap.size < W.heap.size := by omega
  have hz1 : w.heap.size + 1 < W.heap.size := by omega
  have H2 := hide h2
  clear hW hr hz h2
  go_loopw [3, 4, 5] (fun s v i wr => ∃ (k C c' : Nat) (A' : Option Addr) (out : List Nat), k ≤ n + 1 ∧ C ≤ 4 ∧ (n < k → C = 0) ∧ s = .slice A' k c' ∧ v = .int .u64 (C : Int) ∧ i = .int .i64 (k : Int) ∧ Row wr W.heap.size .u32 96 A' k c' out ∧ Below W.heap.size W wr ∧
      val B9 out + B9 ^ k * C = val B9 (xs.take k) ∧ ∀ x ∈ out, x < B9) (fun _ _ i _ => n + 1 - (intOf i).toNat)
  case atStart => exact ⟨0, 0, 0, none, [], by omega, by omega, fun _ => rfl, rfl, rfl, rfl, Row.nil_, Below.refl _ _, by simp [val], fun x hx => by simp at hx⟩
  case round =>
    obtain ⟨k, C, c', A', out, hk, hC, hC0, rfl, rfl, rfl, hrow, hbel, hval, hall⟩ := hrel
    have hcl : wr.cell? ⟨w.heap.size, 0, none⟩ = some (.slice A n c) := (hbel.cell (p := ⟨w.heap.size, 0, none⟩) hz0).trans h1
    have HK := hide hrow.len
    have HVL := hide hval
    have HA := hide hall
    have HC0 := hide hC0
    have hbs := hbel.size
    have hkc := hrow.le.1
    have hcm := hrow.le.2
    unfold maxLen at hcm
    clear hval hall hC0
    by_cases hlt : k < n
    · obtain ⟨b, o, x, rfl, hx, hcell⟩ := (hrW.below hbel).at_ hlt
      have hxb := HX.out x (List.mem_of_getElem? hx)
      have HS := hide (show val B9 (out ++ [(C + x) % B9]) + B9 ^ (k + 1) * ((C + x) / B9) = val B9 (xs.take (k + 1)) from by
        rw [app_step B9 out (C + x) HK.out, val_take_succ B9 hx, ← HVL.out, Nat.mul_add, Nat.add_assoc])
      clear hx h1
      go_wp2_with (at_builtin; refine wpList_append_rl _ rfl _ _ 70 rfl W.heap.size 96 .u32 4 Tryd.underlying70 u32_info A' k c' out rfl (hrow.alloc _) (some ⟨wr.heap.size, 0, none⟩) 1 1 [(C + x) % B9] rfl (RL.one wr .u32 96 (by show _ = (((C + x) % 1000000000 : Nat) : Int); omega)) (by omega) (k + 1) rfl (by omega) (by simp; omega) ?_; intro A2 c2 w1 hrow1 hbel1 hsz1)
      go_roundw
      case rel => exact ⟨k + 1, (C + x) / B9, c2, A2, out ++ [(C + x) % B9], by omega, by show (C + x) / 1000000000 ≤ 4; omega, fun h => absurd h (by omega), rfl, by show _ = Value.int .u64 (((C + x) / 1000000000 : Nat) : Int); go_num, by go_num, hrow1, (hbel.alloc hbs _).trans hbel1, HS.out, all_snoc HA.out (Nat.mod_lt _ (by decide))⟩
      case measure => simp [intOf]; omega
    · by_cases h0 : C = 0
      · subst h0
        have HD := hide (show trimL out = dig B9 V from by
          have h3 := HVL.out
          rw [Nat.mul_zero, Nat.add_zero, List.take_of_length_le (by rw [HL.out]; omega), HV.out] at h3
          rw [trimL_dig B9 (by decide) out HA.out, h3])
        have hbF := hbel
        have hcl1 : wr.cell? ⟨w.heap.size + 1, 0, none⟩ = some (.slice none 0 0) := (hbel.cell (p := ⟨w.heap.size + 1, 0, none⟩) hz1).trans (by rw [cell_of_row _ _ _ _ _ _ H2.out]; rfl)
        have hfl1 : wr.frozen? ⟨w.heap.size + 1, 0, none⟩ = false := (hbel.frozen (p := ⟨w.heap.size + 1, 0, none⟩) hz1).trans (frozen_of_row _ _ _ _ _ H2.out)
        go_wp2
        go_loopg [3] k (fun gk s wq => ∃ m : Nat, m = gk ∧ m ≤ k ∧ s = .slice A' m c' ∧ wq = wr ∧ trimL (out.take m) = trimL out)
        case atStart => exact ⟨k, rfl, by omega, rfl, rfl, by rw [List.take_of_length_le (by rw [HK.out]; omega)]⟩
        case round =>
          obtain ⟨m, rfl, hm, rfl, rfl, ht⟩ := hrel
          have HT := hide ht
          clear ht
          by_cases hm0 : m = 0
          · subst hm0
            have HE := hide (show dig B9 V = [] from by rw [← HD.out, ← HT.out]; rfl)
            go_wp2
            refine bodyPost_ret (v := .agg #[.slice A' 0 c']) (by simp [results, Tryd.results68, go_sem, hcl1]) rfl ?_
            exact fin_struct hbW hbF (by omega) H2.out (by rw [HE.out]; exact RL.nil_) (by omega) hrow.le.2
          · obtain ⟨b, o, x, rfl, hx, hcell⟩ := hrow.rl.at_ (j := m - 1) (by omega)
            have HX' := hide hx
            clear hx
            by_cases hx0 : x = 0
            · subst hx0
              have HT2 := hide (trim_zero hm0 HT.out HX'.out)
              go_wp2
              go_roundg (m - 1)
              case measure => omega
              case rel => exact ⟨m - 1, rfl, by omega, by go_num, rfl, HT2.out⟩
            · have HE := hide (trim_pos hm0 HT.out HX'.out hx0)
              have h4 := hrow.rl.take_ hm
              have h5 : out.take m = dig B9 V := by
                have := trimL_eq_take out
                rw [HE.out] at this
                rw [← this, HD.out]
              rw [h5] at h4
              have H4 := hide h4
              have hrc := hrow.le.2
              clear h4 h5
              go_wp2
              refine bodyPost_ret (v := .agg #[.slice (some ⟨b, o, none⟩) m c']) (by simp [results, Tryd.results68, go_sem, hcl1]) rfl ?_
              exact fin_struct hbW hbF (by omega) H2.out H4.out (by omega) hrc
      · obtain rfl : k = n := by
          rcases Nat.lt_or_ge n k with h | h
          · exact absurd (HC0.out h) h0
          · omega
        have HS := hide (show val B9 (out ++ [C % B9]) + B9 ^ (k + 1) * (C / B9) = val B9 (xs.take (k + 1)) from by
          rw [app_step B9 out C HK.out, HVL.out, List.take_of_length_le (by rw [HL.out]; omega), List.take_of_length_le (by rw [HL.out]; omega)])
        clear h1
        go_wp2_with (at_builtin; refine wpList_append_rl _ rfl _ _ 70 rfl W.heap.size 96 .u32 4 Tryd.underlying70 u32_info A' k c' out rfl (hrow.alloc _) (some ⟨wr.heap.size, 0, none⟩) 1 1 [C % B9] rfl (RL.one wr .u32 96 (by show _ = ((C % 1000000000 : Nat) : Int); omega)) (by omega) (k + 1) rfl (by omega) (by simp; omega) ?_; intro A2 c2 w1 hrow1 hbel1 hsz1)
        go_roundw
        case rel => exact ⟨k + 1, C / B9, c2, A2, out ++ [C % B9], by omega, by show C / 1000000000 ≤ 4; omega, fun _ => by show C / 1000000000 = 0; omega, rfl, by show _ = Value.int .u64 ((C / 1000000000 : Nat) : Int); go_num, by go_num, hrow1, (hbel.alloc hbs _).trans hbel1, HS.out, all_snoc HA.out (Nat.mod_lt _ (by decide))⟩
        case measure => simp [intOf]
end Go.Proofs.YtdoknlodnpeeoaaDoor
