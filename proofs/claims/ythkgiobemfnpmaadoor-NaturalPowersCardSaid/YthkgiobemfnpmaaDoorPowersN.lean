/- The law of powers: the inputs that are left out, and all of them. -/
import Derived.Test.YthkgiobemfnpmaaDoorPowers
namespace Go.Proofs.YthkgiobemfnpmaaDoor
open Go Go.RowKit

set_option maxHeartbeats 4000000 in
set_option maxRecDepth 100000 in
theorem powers_no_n (A : Option Addr) (n c : Nat) (m k : Int) (w : World) (hT : Tab w) (hn : 3 < n) :
    Calls Tryd.prog 10 #[.agg #[.slice A n c], .int .i64 m, .int .i64 k] w fun e w' => e = .returned (.bool true) ∧ Below w.heap.size w w' := by
  have hdn : decide (3 < (n : Int)) = true := by simp; omega
  go_enter Tryd.func10, Tryd.ntmps10
  go_wp2_with fail
  generalize hW : w.alloc _ = W
  obtain ⟨hbW, b0, -⟩ := boxes1 hW
  clear hW
  have lt0 := b0.lt
  have KS : Hid (∀ w', Below W.heap.size W w' → w'.cell? ⟨w.heap.size, 0, none⟩ = some (.slice A n c)) := fun w' h => (b0.below h lt0).cell
  clear b0 lt0
  have T0 := hT.below hbW
  clear hT
  refine (awake_any _ T0).mono ?_
  rintro e w1 ⟨rfl, D1⟩
  have T1 := T0.below D1
  obtain k1 := KS.out w1 D1
  go_wp2_with fail
  refine (awake_any _ T1).mono ?_
  rintro e w4 ⟨rfl, hx⟩
  have D4 := hbW.trans ((D1.trans (hx.mono D1.size)).mono hbW.size)
  clear hx k1 D1
  go_wp2
  go_ret
  exact ⟨rfl, D4⟩
set_option maxHeartbeats 4000000 in
set_option maxRecDepth 100000 in
theorem powers_no_m (A : Option Addr) (n c : Nat) (m k : Int) (w : World) (hT : Tab w) (hn : n ≤ 3) (hm : 40 < m) (hm2 : m ≤ 256) :
    Calls Tryd.prog 10 #[.agg #[.slice A n c], .int .i64 m, .int .i64 k] w fun e w' => e = .returned (.bool true) ∧ Below w.heap.size w w' := by
  have hdn : decide (3 < (n : Int)) = false := by simp; omega
  have hdm : decide (40 < m) = true := by simp; omega
  have hdm2 : decide (m ≤ 256) = true := by simp; omega
  go_enter Tryd.func10, Tryd.ntmps10
  go_wp2_with fail
  generalize hW : w.alloc _ = W
  obtain ⟨hbW, b0, -⟩ := boxes1 hW
  clear hW
  have lt0 := b0.lt
  have KS : Hid (∀ w', Below W.heap.size W w' → w'.cell? ⟨w.heap.size, 0, none⟩ = some (.slice A n c)) := fun w' h => (b0.below h lt0).cell
  clear b0 lt0
  have T0 := hT.below hbW
  clear hT
  refine (awake_any _ T0).mono ?_
  rintro e w1 ⟨rfl, D1⟩
  have T1 := T0.below D1
  obtain k1 := KS.out w1 D1
  go_wp2_with fail
  refine (awake_any _ T1).mono ?_
  rintro e w4 ⟨rfl, hx⟩
  have D4 := hbW.trans ((D1.trans (hx.mono D1.size)).mono hbW.size)
  clear hx k1 D1
  go_wp2
  go_ret
  exact ⟨rfl, D4⟩
set_option maxHeartbeats 4000000 in
set_option maxRecDepth 100000 in
theorem powers_no_klo (A : Option Addr) (n c : Nat) (m k : Int) (w : World) (hT : Tab w) (hn : n ≤ 3) (hm : m ≤ 40) (hk : 40 < k) (hk2 : k ≤ 256) :
    Calls Tryd.prog 10 #[.agg #[.slice A n c], .int .i64 m, .int .i64 k] w fun e w' => e = .returned (.bool true) ∧ Below w.heap.size w w' := by
  have hdn : decide (3 < (n : Int)) = false := by simp; omega
  have hdm : decide (40 < m) = false := by simp; omega
  have hdk : decide (40 < k) = true := by simp; omega
  have hdk2 : decide (k ≤ 256) = true := by simp; omega
  go_enter Tryd.func10, Tryd.ntmps10
  go_wp2_with fail
  generalize hW : w.alloc _ = W
  obtain ⟨hbW, b0, -⟩ := boxes1 hW
  clear hW
  have lt0 := b0.lt
  have KS : Hid (∀ w', Below W.heap.size W w' → w'.cell? ⟨w.heap.size, 0, none⟩ = some (.slice A n c)) := fun w' h => (b0.below h lt0).cell
  clear b0 lt0
  have T0 := hT.below hbW
  clear hT
  refine (awake_any _ T0).mono ?_
  rintro e w1 ⟨rfl, D1⟩
  have T1 := T0.below D1
  obtain k1 := KS.out w1 D1
  go_wp2_with fail
  refine (awake_any _ T1).mono ?_
  rintro e w4 ⟨rfl, hx⟩
  have D4 := hbW.trans ((D1.trans (hx.mono D1.size)).mono hbW.size)
  clear hx k1 D1
  go_wp2
  go_ret
  exact ⟨rfl, D4⟩
set_option maxHeartbeats 4000000 in
set_option maxRecDepth 100000 in
theorem powers_no_khi (A : Option Addr) (n c : Nat) (m k : Int) (w : World) (hT : Tab w) (hn : n ≤ 3) (hm : 256 < m) (hk : 40 < k) (hk2 : k ≤ 256) :
    Calls Tryd.prog 10 #[.agg #[.slice A n c], .int .i64 m, .int .i64 k] w fun e w' => e = .returned (.bool true) ∧ Below w.heap.size w w' := by
  have hdn : decide (3 < (n : Int)) = false := by simp; omega
  have hdm : decide (40 < m) = true := by simp; omega
  have hdm2 : decide (m ≤ 256) = false := by simp; omega
  have hdk : decide (40 < k) = true := by simp; omega
  have hdk2 : decide (k ≤ 256) = true := by simp; omega
  go_enter Tryd.func10, Tryd.ntmps10
  go_wp2_with fail
  generalize hW : w.alloc _ = W
  obtain ⟨hbW, b0, -⟩ := boxes1 hW
  clear hW
  have lt0 := b0.lt
  have KS : Hid (∀ w', Below W.heap.size W w' → w'.cell? ⟨w.heap.size, 0, none⟩ = some (.slice A n c)) := fun w' h => (b0.below h lt0).cell
  clear b0 lt0
  have T0 := hT.below hbW
  clear hT
  refine (awake_any _ T0).mono ?_
  rintro e w1 ⟨rfl, D1⟩
  have T1 := T0.below D1
  obtain k1 := KS.out w1 D1
  go_wp2_with fail
  refine (awake_any _ T1).mono ?_
  rintro e w4 ⟨rfl, hx⟩
  have D4 := hbW.trans ((D1.trans (hx.mono D1.size)).mono hbW.size)
  clear hx k1 D1
  go_wp2
  go_ret
  exact ⟨rfl, D4⟩

theorem powers_call (A : Option Addr) (n c : Nat) (xs : List Nat) (m k : Int) (w : World) (hr : RL w .u32 A n xs) (hn : n ≤ c) (hc : c ≤ maxLen) (hx : ∀ x ∈ xs, x < 4294967296) (_wm : (Lit.int .i64 m).wf = true) (_wk : (Lit.int .i64 k).wf = true) (hT : Tab w) :
    Calls Tryd.prog 10 #[.agg #[.slice A n c], .int .i64 m, .int .i64 k] w fun e w' => e = .returned (.bool true) ∧ Below w.heap.size w w' := by
  rcases Nat.lt_or_ge 3 n with h3 | h3
  · exact powers_no_n A n c m k w hT h3
  by_cases hm : 40 < m ∧ m ≤ 256
  · exact powers_no_m A n c m k w hT h3 hm.1 hm.2
  by_cases hk : 40 < k ∧ k ≤ 256
  · rcases Int.lt_or_le 40 m with h | h
    · exact powers_no_khi A n c m k w hT h3 (by omega) hk.1 hk.2
    · exact powers_no_klo A n c m k w hT h3 h hk.1 hk.2
  have good : ∀ (i : Int), 0 ≤ i → i ≤ 80 → (∀ w', RL w' .u32 A n xs → Calls Tryd.prog 34 #[.agg #[.slice A n c], .int .i64 i] w' (GivesNE (val B9 xs ^ i.toNat) 0 w')) :=
    fun i h0 h8 w' h => pow_in A n c xs w' h hn hc h3 hx _ rfl i _ i.toNat (by omega) (by omega) rfl
  have rgood : ∀ (i : Int), 0 ≤ i → i ≤ 80 → (∀ w', RL w' .u32 A n xs → Calls Tryd.prog 35 #[.agg #[.slice A n c], .int .i64 i] w' (GivesNE (val B9 xs ^ i.toNat) 0 w')) :=
    fun i h0 h8 w' h => rpow_in A n c xs w' h hn hc h3 hx _ rfl i _ i.toNat (by omega) (by omega) rfl
  have bad : ∀ (i : Int), (i < 0 ∨ 256 < i) → (∀ w', RL w' .u32 A n xs → Calls Tryd.prog 34 #[.agg #[.slice A n c], .int .i64 i] w' (GivesNE 0 2 w')) :=
    fun i h w' _ => pow_range A n c i w' h
  have rbad : ∀ (i : Int), (i < 0 ∨ 256 < i) → (∀ w', RL w' .u32 A n xs → Calls Tryd.prog 35 #[.agg #[.slice A n c], .int .i64 i] w' (GivesNE 0 2 w')) :=
    fun i h w' _ => rpow_range A n c i w' h
  have h4 := valB4 hr h3 hx
  by_cases gm : 0 ≤ m ∧ m ≤ 40
  · by_cases gk : 0 ≤ k ∧ k ≤ 40
    · refine powers_gg_lolo A n c xs m k w hr hT h3 (val B9 xs ^ m.toNat) (4 * m.toNat + 1) (by omega) (pow_four h4) (val B9 xs ^ k.toNat) (4 * k.toNat + 1) (by omega) (pow_four h4) (val B9 xs ^ (m + k).toNat) ?_ gm.1 gk.1 gm.2 gk.2 (good m gm.1 (by omega)) (rgood m gm.1 (by omega)) (good k gk.1 (by omega)) (good (m + k) (by omega) (by omega))
      rw [← Nat.pow_add]
      congr 1
      omega
    · rcases Int.lt_or_le 40 k with h | h
      · exact powers_gb_lohi A n c xs m k w hr hT h3 (val B9 xs ^ m.toNat) (4 * m.toNat + 1) (by omega) (pow_four h4) gm.2 (by omega) (good m gm.1 (by omega)) (rgood m gm.1 (by omega)) (bad k (by omega))
      · exact powers_gb_lolo A n c xs m k w hr hT h3 (val B9 xs ^ m.toNat) (4 * m.toNat + 1) (by omega) (pow_four h4) gm.2 h (good m gm.1 (by omega)) (rgood m gm.1 (by omega)) (bad k (by omega))
  · have bm : m < 0 ∨ 256 < m := by omega
    obtain ⟨Y, ey, hP2⟩ : ∃ Y ey, (∀ w', RL w' .u32 A n xs → Calls Tryd.prog 34 #[.agg #[.slice A n c], .int .i64 k] w' (GivesNE Y ey w')) := by
      by_cases gk : 0 ≤ k ∧ k ≤ 40
      · exact ⟨_, _, good k gk.1 (by omega)⟩
      · exact ⟨_, _, bad k (by omega)⟩
    rcases Int.lt_or_le 40 m with h | h
    · rcases Int.lt_or_le 40 k with h' | h'
      · exact powers_b_hihi A n c xs m k w hr hT h3 Y ey (by omega) (by omega) (bad m bm) (rbad m bm) hP2
      · exact powers_b_hilo A n c xs m k w hr hT h3 Y ey (by omega) h' (bad m bm) (rbad m bm) hP2
    · rcases Int.lt_or_le 40 k with h' | h'
      · exact powers_b_lohi A n c xs m k w hr hT h3 Y ey h (by omega) (bad m bm) (rbad m bm) hP2
      · exact powers_b_lolo A n c xs m k w hr hT h3 Y ey h h' (bad m bm) (rbad m bm) hP2
end Go.Proofs.YthkgiobemfnpmaaDoor
