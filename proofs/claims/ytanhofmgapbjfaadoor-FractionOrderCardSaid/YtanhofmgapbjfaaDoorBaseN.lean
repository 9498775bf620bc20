/- The contract of coinagebase.Natural on any two naturals, and of coinagebase.Fraction on any two canonical fractions. -/
import Derived.Test.YtanhofmgapbjfaaDoorFRat
namespace Go.Proofs.YtanhofmgapbjfaaDoor
open Go Go.RowKit

set_option maxHeartbeats 1000000 in
theorem base_any (A : Option Addr) (n c : Nat) (xs : List Nat) (A' : Option Addr) (m d : Nat) (ys : List Nat) (w : World) (hr : RL w .u32 A n xs) (hN : n ≤ maxLen) (hr' : RL w .u32 A' m ys) (r : Bool) (hrr : xs = ys ↔ r = true) :
    Calls Tryd.prog 35 #[.agg #[.slice A n c], .agg #[.slice A' m d]] w fun e w' => e = .returned (.bool r) ∧ Below w.heap.size w w' := by
  unfold maxLen at hN
  have HR := hide hrr
  clear hrr
  by_cases hnm : n = m
  · subst hnm
    have HL := hide hr.len
    have HL' := hide hr'.len
    go_enter Tryd.func35, Tryd.ntmps35
    go_wp2
    have HB := box2 w (.slice A n c) (.slice A' n d) 24 24
    generalize (w.alloc (Obj.cells #[Value.slice A n c] 24)).alloc (Obj.cells #[Value.slice A' n d] 24) = W at HB ⊢
    obtain ⟨hW, h1, h2, hz⟩ := HB
    have hrW := hr.below hW
    have hrW' := hr'.below hW
    clear hr hr' hz
    go_loopw [5] (fun t wr => ∃ k m : Nat, k ≤ n ∧ t = .int .i64 k ∧ wr = W.drewN m ∧ Hid (∀ j < k, xs[j]? = ys[j]?)) (fun t _ => n - (intOf t).toNat)
    case atStart => exact ⟨0, 0, by omega, rfl, rfl, hide (fun j hj => by omega)⟩
    case round =>
      obtain ⟨k, m, hk, rfl, rfl, hall⟩ := hrel
      by_cases hlt : k < n
      · obtain ⟨b, o, x, rfl, hx, hcell⟩ := hrW.at_ hlt
        obtain ⟨b', o', y, rfl, hx', hcell'⟩ := hrW'.at_ hlt
        have hcell : (W.drewN m).cell? ⟨b, o + k, none⟩ = some (.int .u32 (x : Int)) := hcell
        have hcell' : (W.drewN m).cell? ⟨b', o' + k, none⟩ = some (.int .u32 (y : Int)) := hcell'
        have h1 : (W.drewN m).cell? ⟨w.heap.size, 0, none⟩ = some (.slice (some ⟨b, o, none⟩) n c) := h1
        have h2 : (W.drewN m).cell? ⟨w.heap.size + 1, 0, none⟩ = some (.slice (some ⟨b', o', none⟩) n d) := h2
        have HX := hide hx
        have HX' := hide hx'
        clear hx hx'
        generalize hWe : W.drewN m = wo at *
        have HW := hide hWe
        clear hWe
        by_cases hxy : x = y
        · subst hxy
          have H2 := hide (show ∀ j < k + 1, xs[j]? = ys[j]? from fun j hj => by
            rcases Nat.lt_or_ge j k with h | h
            · exact hall.out j h
            · obtain rfl : j = k := by omega
              rw [HX.out, HX'.out])
          go_wp2
          go_quiet (fail)
          go_wp2
          go_roundw
          case rel => exact ⟨k + 1, _, by omega, by go_num, by rw [← HW.out, World.drewN_drewN], H2⟩
          case measure => simp [intOf]; omega
        · have hd : ((x : Int) == (y : Int)) = false := by rw [beq_eq_false_iff_ne]; omega
          have HD := hide hxy
          clear hxy
          have hB : Hid (Below w.heap.size w wo) := by rw [← HW.out]; exact below_drewN hW m
          go_wp2
          go_quiet (fail)
          obtain rfl : r = false := by
            rw [← Bool.not_eq_true, ← HR.out]
            intro h
            rw [h] at HX
            have h2 := HX.out
            rw [HX'.out] at h2
            exact HD.out (Option.some.inj h2).symm
          go_wp2
          go_ret
          exact ⟨rfl, below_drewN hB.out _⟩
      · obtain rfl : k = n := by omega
        obtain rfl : r = true := by
          rw [← HR.out]
          apply List.ext_getElem?
          intro j
          rcases Nat.lt_or_ge j k with h | h
          · exact hall.out j h
          · rw [List.getElem?_eq_none (by have := HL.out; omega), List.getElem?_eq_none (by have := HL'.out; omega)]
        go_wp2
        go_ret
        exact ⟨rfl, below_drewN hW m⟩
  · obtain rfl : r = false := by
      rw [← Bool.not_eq_true, ← HR.out]
      intro h
      have h1 := hr.len
      rw [h] at h1
      exact hnm (h1.symm.trans hr'.len)
    have hd : ((n : Int) == (m : Int)) = false := by rw [beq_eq_false_iff_ne]; omega
    go_enter Tryd.func35, Tryd.ntmps35
    go_wp2
    go_ret
    exact ⟨rfl, (box2 w (.slice A n c) (.slice A' m d) 24 24).1⟩
section
variable {w w' : World} {L : Nat} {p : Bool} {A : Option Addr} {n c : Nat} {B : Option Addr} {m d : Nat} {x : Rat} {p' : Bool} {A' : Option Addr} {n' c' : Nat} {B' : Option Addr} {m' d' : Nat} {y : Rat}
theorem base_n {u v : Nat} (hA : Cn w A n c u) (hB : Cn w A' m d v) (hn : n ≤ 100000) (r : Bool) (hr : decide (u = v) = r) :
    Calls Tryd.prog 35 #[.agg #[.slice A n c], .agg #[.slice A' m d]] w fun e w' => e = .returned (.bool r) ∧ Below w.heap.size w w' :=
  base_any A n c _ A' m d _ w hA.1 (by unfold maxLen; omega) hB.1 r (by
    rw [← hr, decide_eq_true_iff]
    exact ⟨dig_inj B9 (by decide), fun h => by rw [h]⟩)
set_option maxHeartbeats 1000000 in
theorem fbase_ne (hx : Fc w p A n c B m d x) (hy : Fc w p' A' n' c' B' m' d' y) (hh : Ht x L) (hL : L ≤ 100000) (hxy : x ≠ y) : Calls Tryd.prog 11 #[.agg #[.bool p, .slice A n c, .slice B m d], .agg #[.bool p', .slice A' n' c', .slice B' m' d']] w fun e w' => e = .returned (.bool false) ∧ Below w.heap.size w w' := by
  obtain ⟨hp, hA, hB⟩ := hx
  obtain ⟨hp', hA', hB'⟩ := hy
  have l1 : n ≤ L := len_le hA.1.len hh.1
  have l2 : m ≤ L := len_le hB.1.len hh.2
  by_cases hpp : p = p'
  · subst hpp
    by_cases hnn : x.num.natAbs = y.num.natAbs
    · have hdd : x.den ≠ y.den := fun h => hxy (Rat.ext (by
        have h2 := hp.symm.trans hp'
        rw [decide_eq_decide] at h2
        omega) h)
      have HP := hide hp
      have HN := hide hnn
      have HD := hide hdd
      have he : (p == p) = true := by simp
      clear hp hp' hnn hdd hxy hh
      go_enter Tryd.func11, Tryd.ntmps11
      go_wp2_with fail
      generalize hW : (w.alloc _).alloc _ = W
      obtain ⟨hbW, b0, b1, -⟩ := boxesA2 hW
      clear hW
      refine (base_n (hA.below hbW) (hA'.below hbW) (by omega) true (by simp [HN.out])).mono ?_
      rintro e w1 ⟨rfl, hb1⟩
      have hbA := hbW.trans (hb1.mono hbW.size)
      have b0 := b0.below' hb1
      have b1 := b1.below' hb1
      have hB := hB.below hbA
      have hB' := hB'.below hbA
      have k2 : w1.cell? ⟨w.heap.size, 2, none⟩ = some (.slice B m d) := b0.at_ 2
      have k5 : w1.cell? ⟨w.heap.size + 1, 2, none⟩ = some (.slice B' m' d') := b1.at_ 2
      clear hb1 hbW hA hA' b0 b1
      go_wp2_with fail
      refine (base_n hB hB' (by omega) false (by simp [HD.out])).mono ?_
      rintro e w2 ⟨rfl, hb2⟩
      have hbA := hbA.trans (hb2.mono hbA.size)
      clear hb2 hB hB' k2 k5
      go_wp2
      go_ret
      exact ⟨rfl, hbA⟩
    · have HN := hide hnn
      have he : (p == p) = true := by simp
      clear hp hp' hnn hxy hh
      go_enter Tryd.func11, Tryd.ntmps11
      go_wp2_with fail
      generalize hW : (w.alloc _).alloc _ = W
      obtain ⟨hbW, b0, b1, -⟩ := boxesA2 hW
      clear hW
      refine (base_n (hA.below hbW) (hA'.below hbW) (by omega) false (by simp [HN.out])).mono ?_
      rintro e w1 ⟨rfl, hb1⟩
      have hbA := hbW.trans (hb1.mono hbW.size)
      clear hb1 hbW hA hA' b0 b1
      go_wp2
      go_ret
      exact ⟨rfl, hbA⟩
  · have he : (p == p') = false := by simp [hpp]
    clear hp hp' hxy hh hpp
    go_enter Tryd.func11, Tryd.ntmps11
    go_wp2
    go_ret
    exact ⟨rfl, ((Below.refl _ _).alloc (Nat.le_refl _) _).alloc (by simp) _⟩
theorem fbase_d (hx : Fc w p A n c B m d x) (hy : Fc w p' A' n' c' B' m' d' y) (hh : Ht x L) (hL : L ≤ 100000) (r : Bool) (hr : decide (x = y) = r) : Calls Tryd.prog 11 #[.agg #[.bool p, .slice A n c, .slice B m d], .agg #[.bool p', .slice A' n' c', .slice B' m' d']] w fun e w' => e = .returned (.bool r) ∧ Below w.heap.size w w' := by
  by_cases h : x = y
  · subst h
    obtain rfl : r = true := by rw [← hr]; simp
    exact fbase_f hx hy hh hL
  · obtain rfl : r = false := by rw [← hr]; simp [h]
    exact fbase_ne hx hy hh hL h
end
end Go.Proofs.YtanhofmgapbjfaaDoor
