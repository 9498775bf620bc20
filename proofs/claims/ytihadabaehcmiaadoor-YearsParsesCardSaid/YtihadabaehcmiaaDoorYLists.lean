/- coinagebase.YearsList. -/
import Derived.Test.YtihadabaehcmiaaDoorYCov0
namespace Go.Proofs.YtihadabaehcmiaaDoor
open Go Go.RowKit Go.Lib

theorem YL.drewN {w : World} {A : Option Addr} {n : Nat} {ys : List (Int × Int)} (h : YL w A n ys) (m : Nat) : YL (w.drewN m) A n ys := h
theorem own_yl {w : World} {base : Nat} {v : Value} {ys : List (Int × Int)} (h : OwnY w base v ys) : ∃ A c, v = .slice A ys.length c ∧ ys.length ≤ c ∧ c ≤ maxLen ∧ YL w A ys.length ys := by
  rcases h.2 with ⟨e, e0⟩ | ⟨g, c, cur, e, hb, hg, hn, hc, hs, ht⟩
  · refine ⟨none, 0, by rw [e, e0], by omega, by simp [maxLen], rfl, fun hn => by omega⟩
  · refine ⟨some ⟨g, 0, none⟩, c, e, hn, hc, rfl, fun _ => ⟨g, 0, rfl, ?_, fun j u hu => ?_⟩⟩
    · rcases Nat.lt_or_ge g w.heap.size with h1 | h1
      · exact h1
      · rw [Array.getElem?_eq_none h1] at hg; cases hg
    · have hj : j < ys.length * 2 := by
        have := (List.getElem?_eq_some_iff.1 hu).1
        rwa [flatY_len] at this
      subst e
      rw [Nat.zero_add, World.ownsRow.cellAt h j hj, hu]
def SameTo (xs ys : List (Int × Int)) (k : Nat) : Prop := ∀ j, j < k → xs[j]? = ys[j]?
theorem same_end {xs ys : List (Int × Int)} {n : Nat} (h1 : xs.length = n) (h2 : ys.length = n) (h : SameTo xs ys n) : xs = ys := by
  apply List.ext_getElem?
  intro j
  by_cases hj : j < n
  · exact h j hj
  · rw [List.getElem?_eq_none (by omega), List.getElem?_eq_none (by omega)]
theorem same_step {xs ys : List (Int × Int)} {k : Nat} {x : Int × Int} (h : SameTo xs ys k) (h1 : xs[k]? = some x) (h2 : ys[k]? = some x) : SameTo xs ys (k + 1) := by
  intro j hj
  by_cases e : j = k
  · subst e; rw [h1, h2]
  · exact h j (by omega)
set_option maxHeartbeats 2000000 in
theorem lists_len (A : Option Addr) (n c : Nat) (B : Option Addr) (m d : Nat) (w : World) (hne : n ≠ m) :
    Calls Tryd.prog 31 #[.slice A n c, .slice B m d] w fun e w' => e = .returned (.bool false) ∧ w = w' := by
  have ne : ((n : Int) != (m : Int)) = true := by rw [bne_iff_ne]; omega
  have ne2 : ((n : Int) == (m : Int)) = false := beq_eq_false_iff_ne.2 (by omega)
  have ne3 : (n == m) = false := beq_eq_false_iff_ne.2 hne
  have ne4 : (n != m) = true := by rw [bne_iff_ne]; exact hne
  go_enter Tryd.func31, Tryd.ntmps31
  go_wp2_with fail
  go_ret
  exact ⟨rfl, rfl⟩
set_option maxHeartbeats 4000000 in
theorem lists_same (A : Option Addr) (n c : Nat) (xs : List (Int × Int)) (B : Option Addr) (d : Nat) (ys : List (Int × Int)) (w : World) (hx : YL w A n xs) (hy : YL w B n ys) (hn : n ≤ maxLen) (v : Bool) (hv : decide (xs = ys) = v) :
    Calls Tryd.prog 31 #[.slice A n c, .slice B n d] w fun e w' => e = .returned (.bool v) ∧ Below w.heap.size w w' := by
  unfold maxLen at hn
  have HX := hide hx
  have HY := hide hy
  have HV := hide hv
  clear hx hy hv
  go_enter Tryd.func31, Tryd.ntmps31
  go_wp2_with fail
  go_loopw [5] (fun t wr => ∃ k q : Nat, k ≤ n ∧ t = .int .i64 k ∧ wr = w.drewN q ∧ SameTo xs ys k) (fun t _ => n - (intOf t).toNat)
  case atStart => exact ⟨0, 0, Nat.zero_le _, rfl, rfl, fun _ h => by omega⟩
  case round =>
    obtain ⟨k, q, hk, rfl, rfl, hs⟩ := hrel
    have HS := hide hs
    clear hs
    by_cases hlt : k < n
    · obtain ⟨b, o, x, rfl, hbl, h1, c1, c2⟩ := (HX.out.drewN q).at_ hlt
      obtain ⟨b', o', y, rfl, hbl', h2, c3, c4⟩ := (HY.out.drewN q).at_ hlt
      have G1 := hide h1
      have G2 := hide h2
      clear h1 h2 hbl hbl'
      have HB : Hid (Below w.heap.size w (w.drewN q)) := below_drewN (Below.refl _ _) q
      have HQ : Hid (∀ z, (w.drewN q).drewN z = w.drewN (q + z)) := fun z => World.drewN_drewN _ _ _
      generalize w.drewN q = W at *
      by_cases e1 : x.1 = y.1
      · by_cases e2 : x.2 = y.2
        · obtain rfl : x = y := Prod.ext e1 e2
          clear e1 e2
          go_wp2_with fail
          go_quiet (fail)
          go_wp2_with fail
          go_roundw
          case rel => exact ⟨k + 1, _, hlt, by go_num, HQ.out _, same_step HS.out G1.out G2.out⟩
          case measure => simp [intOf]; omega
        · have d1 : (x.1 == y.1) = true := beq_iff_eq.2 e1
          have d2 : (x.2 == y.2) = false := beq_eq_false_iff_ne.2 e2
          obtain rfl : v = false := by rw [← HV.out]; exact decide_eq_false fun h => e2 (by have h1 := G1.out; rw [h, G2.out] at h1; injection h1 with h1; rw [h1])
          clear e1 e2
          go_wp2_with fail
          go_quiet (fail)
          go_wp2_with fail
          go_ret
          exact ⟨rfl, below_drewN HB.out _⟩
      · have d1 : (x.1 == y.1) = false := beq_eq_false_iff_ne.2 e1
        obtain rfl : v = false := by rw [← HV.out]; exact decide_eq_false fun h => e1 (by have h1 := G1.out; rw [h, G2.out] at h1; injection h1 with h1; rw [h1])
        clear e1
        go_wp2_with fail
        go_quiet (fail)
        go_wp2_with fail
        go_ret
        exact ⟨rfl, below_drewN HB.out _⟩
    · obtain rfl : k = n := by omega
      obtain rfl : v = true := by rw [← HV.out]; exact decide_eq_true (same_end HX.out.1 HY.out.1 HS.out)
      go_wp2_with fail
      go_ret
      exact ⟨rfl, below_drewN (Below.refl _ _) q⟩
theorem lists_v (A : Option Addr) (n c : Nat) (xs : List (Int × Int)) (B : Option Addr) (m d : Nat) (ys : List (Int × Int)) (w : World) (hx : YL w A n xs) (hy : YL w B m ys) (hn : n ≤ maxLen) (hm : m ≤ maxLen) (v : Bool) (hv : decide (xs = ys) = v) :
    Calls Tryd.prog 31 #[.slice A n c, .slice B m d] w fun e w' => e = .returned (.bool v) ∧ Below w.heap.size w w' := by
  by_cases h : n = m
  · subst h
    exact lists_same A n c xs B d ys w hx hy hn v hv
  · obtain rfl : v = false := by rw [← hv]; exact decide_eq_false fun e => h (by rw [← hx.1, ← hy.1, e])
    exact (lists_len A n c B m d w h).mono fun _ w' ⟨he, hw⟩ => ⟨he, by subst hw; exact Below.refl _ _⟩
end Go.Proofs.YtihadabaehcmiaaDoor
