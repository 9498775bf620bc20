/- The reference's Check; comparing lists. -/
import Derived.Test.YtaapcfflnklpjaaGreatDoorSK
import Derived.Deep.RegionHeld3
namespace Go.Proofs.YtaapcfflnklpjaaGreatDoor
open Go Go.RowKit Go.Lib
theorem nod_at {l : List Spc} : Nod l ↔ ∀ (i j : Nat) (x y : Spc), j < i → l[i]? = some x → l[j]? = some y → x.i ≠ y.i := by
  unfold Nod List.Nodup
  rw [List.pairwise_map, List.pairwise_iff_getElem]
  constructor
  · intro h i j x y hij hx hy e
    obtain ⟨hi, rfl⟩ := List.getElem?_eq_some_iff.1 hx
    obtain ⟨hj, rfl⟩ := List.getElem?_eq_some_iff.1 hy
    exact h j i hj hi hij e.symm
  · intro h i j hi hj hij e
    exact h j i _ _ hij (List.getElem?_eq_getElem hj) (List.getElem?_eq_getElem hi) e.symm
theorem chk_full {l : List Spc} (h : 64 < l.length) : chk l = 6 := by unfold chk; rw [if_pos h]
theorem chk_inv {l : List Spc} (h : l.length ≤ 64) {x : Spc} (hx : x ∈ l) (hv : vS x = false) : chk l = 1 := by
  unfold chk
  rw [if_neg (by omega), if_pos (by rw [List.any_eq_true]; exact ⟨x, hx, by rw [hv]; rfl⟩)]
theorem chk_dup {l : List Spc} (h : l.length ≤ 64) (hv : ∀ x ∈ l, vS x = true) (hn : ¬Nod l) : chk l = 8 := by
  rcases chk_cases l with h1 | h1 | h1 | h1
  · exact absurd (chk_ok.1 h1).2.2 hn
  · unfold chk at h1
    rw [if_neg (by omega)] at h1
    split at h1
    · cases h1
    · cases h1
  · unfold chk at h1
    rw [if_neg (by omega)] at h1
    split at h1
    · rename_i h2
      rw [List.any_eq_true] at h2
      obtain ⟨x, hx, h3⟩ := h2
      rw [hv x hx] at h3
      cases h3
    · cases h1
  · exact h1
set_option maxHeartbeats 8000000 in
set_option maxRecDepth 100000 in
theorem bcheck_any (A : Option Addr) (n c : Nat) (ys : List Spc) (w : World) (hr : SL w A n ys) (r : Int) (h : chk ys = r) :
    Calls Tryz.prog 64 #[.slice A n c] w fun e w' => e = .returned (.int .i64 r) ∧ Below w.heap.size w w' := by
  have HR := hide hr
  have HL := hide hr.1
  have H := hide h
  clear h
  by_cases h6 : 64 < n
  · have d0 : decide ((64 : Int) < (n : Int)) = true := decide_eq_true (by omega)
    have H6 := hide (chk_full (l := ys) (by rw [HL.out]; exact h6))
    clear hr
    go_enter Tryz.func64, Tryz.ntmps64
    go_wp2_with fail
    go_ret
    exact ⟨by rw [← H.out, H6.out]; rfl, Below.refl _ _⟩
  · have d0 : decide ((64 : Int) < (n : Int)) = false := decide_eq_false (by omega)
    clear hr
    go_enter Tryz.func64, Tryz.ntmps64
    go_wp2_with fail
    go_loopw [3] (fun v wr => ∃ k : Nat, v = .int .i64 (k : Int) ∧ k ≤ n ∧ Hid (∀ x ∈ ys.take k, vS x = true) ∧ Hid (Below w.heap.size w wr)) (fun v _ => n - (RowKit.intOf v).toNat)
    case atStart => exact ⟨0, rfl, Nat.zero_le _, hide (fun x hx => by simp at hx), hide (Below.refl _ _)⟩
    case round =>
      obtain ⟨k, rfl, hk, HV, HB⟩ := hrel
      by_cases hlt : k < n
      · obtain ⟨b, o, y, rfl, hl, hy, k0, k1, k2, k3, k4, k5, k6⟩ := (HR.out.keep HB.out).at_ hlt
        have HY := hide hy
        have d1 : decide ((k : Int) < (n : Int)) = true := decide_eq_true (by omega)
        have i2 : (0 : Int) ≤ (k : Int) := by omega
        have i3 : (k : Int) < (n : Int) := by omega
        clear hy
        cases hv : vS y
        · have HVV := hide hv
          clear hv
          go_wp2_with fail
          clear k0 k1 k2 k3 k4 k5 k6
          refine (rsp_any y _ false HVV.out).mono ?_
          rintro e w1 ⟨rfl, hb⟩
          go_wp2_with fail
          go_ret
          exact ⟨by rw [← H.out, chk_inv (by rw [HL.out]; omega) (List.mem_of_getElem? HY.out) HVV.out]; rfl, nxt HB.out hb⟩
        · have HVV := hide hv
          clear hv
          go_wp2_with fail
          clear k0 k1 k2 k3 k4 k5 k6
          refine (rsp_any y _ true HVV.out).mono ?_
          rintro e w1 ⟨rfl, hb⟩
          have HB1 := hide (nxt HB.out hb)
          clear hb
          go_wp2_with fail
          go_roundw
          case rel =>
            refine ⟨k + 1, by go_num, by omega, hide ?_, HB1⟩
            intro x hx
            rw [List.take_add_one, HY.out] at hx
            rcases List.mem_append.1 hx with hx | hx
            · exact HV.out x hx
            · simp at hx; subst hx; exact HVV.out
          case measure => simp [RowKit.intOf]; omega
      · obtain rfl : k = n := by omega
        have d1 : decide ((k : Int) < (k : Int)) = false := decide_eq_false (by omega)
        have HVA := hide (show ∀ x ∈ ys, vS x = true by
          have := HV.out
          rwa [← HL.out, List.take_length] at this)
        clear HV
        obtain ⟨W, hW⟩ : ∃ x, x = wr := ⟨_, rfl⟩
        subst hW
        go_wp2_with fail
        go_loopw [4] (fun v wr => ∃ i : Nat, v = .int .i64 (i : Int) ∧ i ≤ k ∧ Hid (∀ (p q : Nat) (x y : Spc), q < p → p < i → ys[p]? = some x → ys[q]? = some y → x.i ≠ y.i) ∧ Hid (Below w.heap.size w wr)) (fun v _ => k - (RowKit.intOf v).toNat)
        case atStart => exact ⟨0, rfl, Nat.zero_le _, hide (fun p q x y _ h => absurd h (by omega)), HB⟩
        case round =>
          clear HB
          obtain ⟨i, rfl, hi, HD, HB⟩ := hrel
          by_cases hlt2 : i < k
          · have d2 : decide ((i : Int) < (k : Int)) = true := decide_eq_true (by omega)
            obtain ⟨W2, hW2⟩ : ∃ x, x = wr := ⟨_, rfl⟩
            subst hW2
            obtain ⟨x, hx⟩ : ∃ x, ys[i]? = some x := ⟨_, List.getElem?_eq_getElem (by have := HL.out; omega)⟩
            have HX := hide hx
            clear hx
            go_wp2_with fail
            go_loopw [5] (fun v wr => ∃ j : Nat, v = .int .i64 (j : Int) ∧ j ≤ i ∧ Hid (∀ (q : Nat) (y : Spc), q < j → ys[q]? = some y → x.i ≠ y.i) ∧ Hid (Below w.heap.size w wr)) (fun v _ => i - (RowKit.intOf v).toNat)
            case atStart => exact ⟨0, rfl, Nat.zero_le _, hide (fun q y h => absurd h (by omega)), HB⟩
            case round =>
              clear HB
              obtain ⟨j, rfl, hj, HJ, HB⟩ := hrel
              by_cases hlt3 : j < i
              · have d3 : decide ((j : Int) < (i : Int)) = true := decide_eq_true (by omega)
                obtain ⟨b, o, y, rfl, hl, hy, c1, _, _, _, _, _, _⟩ := (HR.out.keep HB.out).at_ (show j < k by omega)
                have c0 := ((HR.out.keep HB.out).cells_ HX.out).1
                have HY := hide hy
                have i2 : (0 : Int) ≤ (i : Int) := by omega
                have i3 : (i : Int) < (k : Int) := by omega
                have i4 : (0 : Int) ≤ (j : Int) := by omega
                have i5 : (j : Int) < (k : Int) := by omega
                clear hy
                by_cases he : x.i = y.i
                · have e0 : (x.i == y.i) = true := beq_iff_eq.2 he
                  have HE := hide he
                  clear he
                  go_wp2_with fail
                  go_region
                  all_goals
                    go_wp2_with fail
                    go_ret
                    refine ⟨?_, by first | exact HB.out.drew | exact HB.out⟩
                    rw [← H.out, chk_dup (by rw [HL.out]; omega) HVA.out fun hn => nod_at.1 hn i j x y hlt3 HX.out HY.out HE.out]
                    rfl
                · have e0 : (x.i == y.i) = false := beq_eq_false_iff_ne.2 he
                  have HE := hide he
                  clear he
                  go_wp2_with fail
                  go_region
                  all_goals
                    go_wp2_with fail
                    go_roundw
                    case rel =>
                      refine ⟨j + 1, by go_num, by omega, hide fun q y' hq hy' => ?_, hide (by first | exact HB.out.drew | exact HB.out)⟩
                      by_cases hqj : q < j
                      · exact HJ.out q y' hqj hy'
                      · obtain rfl : q = j := by omega
                        rw [HY.out] at hy'
                        injection hy' with hy'
                        subst hy'
                        exact HE.out
                    case measure => simp [RowKit.intOf]; omega
              · obtain rfl : j = i := by omega
                have d3 : decide ((j : Int) < (j : Int)) = false := decide_eq_false (by omega)
                go_wp2_with fail
                go_roundw
                case rel =>
                  refine ⟨j + 1, by go_num, by omega, hide fun p q x' y' hqp hp hx' hy' => ?_, HB⟩
                  by_cases hpj : p < j
                  · exact HD.out p q x' y' hqp hpj hx' hy'
                  · obtain rfl : p = j := by omega
                    rw [HX.out] at hx'
                    injection hx' with hx'
                    subst hx'
                    exact HJ.out q y' hqp hy'
                case measure => simp [RowKit.intOf]; omega
          · obtain rfl : i = k := by omega
            have d2 : decide ((i : Int) < (i : Int)) = false := decide_eq_false (by omega)
            go_wp2_with fail
            go_ret
            refine ⟨?_, HB.out⟩
            have : chk ys = 0 := chk_ok.2 ⟨by rw [HL.out]; omega, HVA.out, nod_at.2 fun p q x y hqp hx hy => HD.out p q x y hqp (by have := (List.getElem?_eq_some_iff.1 hx).1; have := HL.out; omega) hx hy⟩
            rw [← H.out, this]
            rfl
set_option maxHeartbeats 1000000 in
theorem rcheck_any (A : Option Addr) (n c : Nat) (ys : List Spc) (w : World) (hr : SL w A n ys) (r : Int) (h : chk ys = r) :
    Calls Tryz.prog 28 #[.slice A n c] w fun e w' => e = .returned (.int .i64 r) ∧ Below w.heap.size w w' := by
  have HR := hide hr
  have H := hide h
  clear hr h
  go_enter Tryz.func28, Tryz.ntmps28
  go_wp2_with fail
  refine (bcheck_any A n c ys _ HR.out r H.out).mono ?_
  rintro e w1 ⟨rfl, hb⟩
  go_wp2_with fail
  go_ret
  exact ⟨rfl, hb⟩
end Go.Proofs.YtaapcfflnklpjaaGreatDoor
