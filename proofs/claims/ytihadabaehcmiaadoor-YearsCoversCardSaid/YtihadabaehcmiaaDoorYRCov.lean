/- The reference's Cover. -/
import Derived.Test.YtihadabaehcmiaaDoorYOpenL
namespace Go.Proofs.YtihadabaehcmiaaDoor
open Go Go.RowKit Go.Lib

def onB (ys : List (Int × Int)) (k : Int) : Bool := ys.any fun y => decide (y.1 ≤ k) && decide (k ≤ y.2)
theorem onB_iff (ys : List (Int × Int)) (k : Int) : onB ys k = true ↔ On ys k := by
  unfold onB On InY
  simp [List.any_eq_true]
theorem onB_hit {ys : List (Int × Int)} {k : Int} {j : Nat} {y : Int × Int} (h : ys[j]? = some y) (h1 : y.1 ≤ k) (h2 : k ≤ y.2) : onB ys k = true :=
  (onB_iff _ _).2 ⟨y, List.mem_of_getElem? h, h1, h2⟩
theorem onB_end {ys : List (Int × Int)} {k : Int} {n : Nat} (hn : ys.length = n) (h : ∀ (j : Nat) (y : Int × Int), j < n → ys[j]? = some y → ¬(y.1 ≤ k ∧ k ≤ y.2)) : onB ys k = false := by
  rw [Bool.eq_false_iff]
  intro hb
  obtain ⟨y, hy, h1, h2⟩ := (onB_iff _ _).1 hb
  obtain ⟨j, hj, e⟩ := List.getElem_of_mem hy
  exact h j y (by omega) (by rw [← e]; exact List.getElem?_eq_getElem hj) ⟨h1, h2⟩
set_option maxHeartbeats 2000000 in
theorem in_v (A : Option Addr) (n c : Nat) (ys : List (Int × Int)) (k : Int) (w : World) (hr : YL w A n ys) (hn : n ≤ maxLen) (v : Bool) (hv : onB ys k = v) :
    Calls Tryd.prog 48 #[.slice A n c, .int .i64 k] w fun e w' => e = .returned (.bool v) ∧ w = w' := by
  unfold maxLen at hn
  have HR := hide hr
  have HV := hide hv
  clear hr hv
  go_enter Tryd.func48, Tryd.ntmps48
  go_wp2_with fail
  go_loop [5] (fun t => ∃ j : Nat, j ≤ n ∧ t = .int .i64 j ∧ (∀ (i : Nat) (y : Int × Int), i < j → ys[i]? = some y → ¬(y.1 ≤ k ∧ k ≤ y.2))) (fun t => n - (intOf t).toNat)
  case atStart => exact ⟨0, Nat.zero_le _, rfl, fun _ _ h => by omega⟩
  case round =>
    obtain ⟨j, hj, rfl, hs⟩ := hrel
    have HS := hide hs
    clear hs
    by_cases hlt : j < n
    · obtain ⟨b, o, y, rfl, hbl, h1, c1, c2⟩ := HR.out.at_ hlt
      have G := hide h1
      clear h1 hbl
      have on : ¬(y.1 ≤ k ∧ k ≤ y.2) → ∀ (i : Nat) (z : Int × Int), i < j + 1 → ys[i]? = some z → ¬(z.1 ≤ k ∧ k ≤ z.2) := fun h i z hi hz => by
        by_cases e : i = j
        · subst e
          have := G.out
          rw [hz] at this
          injection this with this
          rw [this]
          exact h
        · exact HS.out i z (by omega) hz
      have ON := hide on
      clear on
      by_cases e1 : y.1 ≤ k
      · by_cases e2 : k ≤ y.2
        · obtain rfl : v = true := by rw [← HV.out]; exact onB_hit G.out e1 e2
          have d1 : decide (y.1 ≤ k) = true := decide_eq_true e1
          have d2 : decide (k ≤ y.2) = true := decide_eq_true e2
          clear e1 e2
          go_wp2_with fail
          go_ret
          exact ⟨rfl, rfl⟩
        · have d1 : decide (y.1 ≤ k) = true := decide_eq_true e1
          have d2 : decide (k ≤ y.2) = false := decide_eq_false e2
          have hh := ON.out fun h => e2 h.2
          have HH := hide hh
          clear e1 e2 hh
          go_wp2_with fail
          go_round
          case rel => exact ⟨j + 1, hlt, by go_num, HH.out⟩
          case measure => simp [intOf]; omega
      · have d1 : decide (y.1 ≤ k) = false := decide_eq_false e1
        have hh := ON.out fun h => e1 h.1
        have HH := hide hh
        clear e1 hh
        go_wp2_with fail
        go_round
        case rel => exact ⟨j + 1, hlt, by go_num, HH.out⟩
        case measure => simp [intOf]; omega
    · obtain rfl : j = n := by omega
      obtain rfl : v = false := by rw [← HV.out]; exact onB_end HR.out.1 HS.out
      go_wp2_with fail
      go_ret
      exact ⟨rfl, rfl⟩

/-- what a cover of the years before k is -/
structure CovR (ys : List (Int × Int)) (k : Int) (cov : List (Int × Int)) : Prop where
  sep : SepL cov
  on : ∀ m, On cov m ↔ On ys m ∧ m < k
  bnd : ∀ x ∈ cov, x.2 < k
theorem covR_nil {ys : List (Int × Int)} (h : badY ys = false) : CovR ys (-9999) [] := by
  refine ⟨trivial, fun m => ⟨fun ⟨y, hy, _⟩ => (by cases hy), fun ⟨⟨y, hy, h1, h2⟩, hm⟩ => ?_⟩, fun _ h => by cases h⟩
  unfold badY at h
  rw [List.any_eq_false] at h
  have := h y hy
  simp at this
  have := yB_true.1 this
  omega
theorem covR_skip {ys cov : List (Int × Int)} {k : Int} (h : CovR ys k cov) (hk : onB ys k = false) : CovR ys (k + 1) cov := by
  refine ⟨h.sep, fun m => (h.on m).trans ⟨fun ⟨a, b⟩ => ⟨a, by omega⟩, fun ⟨a, b⟩ => ⟨a, ?_⟩⟩, fun x hx => by have := h.bnd x hx; omega⟩
  by_cases e : m = k
  · subst e
    rw [(onB_iff _ _).2 a] at hk
    cases hk
  · omega
theorem covR_new {ys cov : List (Int × Int)} {k : Int} (h : CovR ys k cov) (hk : onB ys k = true) (hl : ∀ x ∈ cov, x.2 + 1 < k) : CovR ys (k + 1) (cov ++ [(k, k)]) := by
  refine ⟨(sep_app _ _).2 ⟨h.sep, hl, Int.le_refl _⟩, fun m => ?_, fun x hx => ?_⟩
  · rw [on_app, h.on m]
    constructor
    · rintro (⟨a, b⟩ | ⟨a, b⟩)
      · exact ⟨a, by omega⟩
      · replace a : k ≤ m := a
        replace b : m ≤ k := b
        obtain rfl : m = k := by omega
        exact ⟨(onB_iff _ _).1 hk, by omega⟩
    · rintro ⟨a, b⟩
      by_cases e : m = k
      · exact Or.inr ⟨by show k ≤ m; omega, by show m ≤ k; omega⟩
      · exact Or.inl ⟨a, by omega⟩
  · rcases List.mem_append.1 hx with hx | hx
    · have := h.bnd x hx; omega
    · rw [List.mem_singleton] at hx; subst hx; show k < k + 1; omega
theorem covR_join {ys c : List (Int × Int)} {z : Int × Int} {k : Int} (h : CovR ys k (c ++ [z])) (hk : onB ys k = true) (hz : z.2 = k - 1) : CovR ys (k + 1) (c ++ [(z.1, k)]) := by
  have hs := (sep_app _ _).1 h.sep
  refine ⟨(sep_app _ _).2 ⟨hs.1, hs.2.1, by have := hs.2.2; show z.1 ≤ k; omega⟩, fun m => ?_, fun x hx => ?_⟩
  · have hm := h.on m
    rw [on_app] at hm ⊢
    constructor
    · rintro (a | ⟨a, b⟩)
      · have := hm.1 (Or.inl a)
        exact ⟨this.1, by omega⟩
      · replace a : z.1 ≤ m := a
        replace b : m ≤ k := b
        by_cases e : m = k
        · subst e
          exact ⟨(onB_iff _ _).1 hk, by omega⟩
        · have := hm.1 (Or.inr ⟨a, by omega⟩)
          exact ⟨this.1, by omega⟩
    · rintro ⟨a, b⟩
      by_cases e : m = k
      · exact Or.inr ⟨by have := hs.2.2; show z.1 ≤ m; omega, by show m ≤ k; omega⟩
      · rcases hm.2 ⟨a, by omega⟩ with q | ⟨q1, q2⟩
        · exact Or.inl q
        · exact Or.inr ⟨q1, by show m ≤ k; omega⟩
  · rcases List.mem_append.1 hx with hx | hx
    · have := h.bnd x (List.mem_append_left _ hx); omega
    · rw [List.mem_singleton] at hx; subst hx; show k < k + 1; omega
theorem covR_last {ys c : List (Int × Int)} {z : Int × Int} {k : Int} (h : CovR ys k (c ++ [z])) (hz : z.2 ≠ k - 1) : ∀ x ∈ c ++ [z], x.2 + 1 < k := by
  have hs := (sep_app _ _).1 h.sep
  have hb := h.bnd z (by simp)
  intro x hx
  rcases List.mem_append.1 hx with hx | hx
  · have := hs.2.1 x hx; have := hs.2.2; omega
  · rw [List.mem_singleton] at hx; subst hx; omega
theorem covR_end {ys cov : List (Int × Int)} (h : CovR ys 10000 cov) (hb : badY ys = false) : ∀ m, On cov m ↔ On ys m := fun m => (h.on m).trans ⟨fun a => a.1, fun a => ⟨a, by
  obtain ⟨y, hy, h1, h2⟩ := a
  unfold badY at hb
  rw [List.any_eq_false] at hb
  have := hb y hy
  simp at this
  have := yB_true.1 this
  omega⟩⟩
end Go.Proofs.YtihadabaehcmiaaDoor
