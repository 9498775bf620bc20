/- The contracts of slices.Clone, natural.Norm, natural.Of. -/
import Derived.Test.YthkgiobemfnpmaaDoorCanon
namespace Go.Proofs.YthkgiobemfnpmaaDoor
open Go Go.RowKit

/-- a slice in which a list reads -/
def GivesL (xs : List Nat) (w : World) (e : Ending) (w' : World) : Prop :=
  ∃ A n c, e = .returned (.slice A n c) ∧ RL w' .u32 A n xs ∧ n ≤ c ∧ c ≤ maxLen ∧ Below w.heap.size w w'

set_option maxHeartbeats 400000 in
theorem clone_any (A : Option Addr) (n c : Nat) (xs : List Nat) (w : World) (hr : RL w .u32 A n xs) (hN : n ≤ 1000000) :
    Calls Tryd.prog 45 #[.slice A n c] w (GivesL xs w) := by
  have heq := fun (w : World) (a : Option Addr) (n c : Nat) => Lib.run_eql_slice_nil (P := Tryd.prog) w 22 49 a n c 0 0 Tryd.underlying22
  cases A with
  | none =>
    go_enter Tryd.func45, Tryd.ntmps45
    go_wp2
    go_ret
    refine ⟨none, 0, 0, rfl, ?_, by omega, by simp [maxLen], Below.refl _ _⟩
    have h0 : n = 0 := by
      rcases Nat.eq_zero_or_pos n with h | h
      · exact h
      · obtain ⟨b, o, e, _⟩ := hr.2 h
        cases e
    subst h0
    rw [List.eq_nil_of_length_eq_zero hr.len]
    exact RL.nil_
  | some a =>
    go_enter Tryd.func45, Tryd.ntmps45
    go_wp2_with (at_builtin; refine wpList_append_rl _ rfl _ _ 22 rfl w.heap.size 49 .u32 4 Tryd.underlying22 u32_info _ 0 0 [] rfl (Row.new w .u32 49 (Nat.le_refl _)) (some a) n c xs rfl (hr.below ((Below.refl _ _).alloc (Nat.le_refl _) _)) (by omega) n (by omega) (by omega) (by simp) ?_; intro A' c' w1 hrow hbel hsz)
    go_ret
    refine ⟨A', n, c', rfl, hrow.rl, hrow.le.1, hrow.le.2, ((Below.refl _ _).alloc (Nat.le_refl _) _).trans hbel⟩

set_option maxHeartbeats 400000 in
theorem norm_any (A : Option Addr) (n c : Nat) (xs : List Nat) (w : World) (hr : RL w .u32 A n xs) (hn : n ≤ c) (hc : c ≤ maxLen) (hN : n ≤ 900000) (hx : ∀ x ∈ xs, x < 4294967296) :
    Calls Tryd.prog 22 #[.agg #[.slice A n c]] w (GivesN (val B9 xs) w) := by
  have HX := hide hx
  clear hx
  go_enter Tryd.func22, Tryd.ntmps22
  go_wp2_with fail
  refine (canon_any A n c xs _ (hr.below (((Below.refl _ _).alloc (Nat.le_refl _) _).alloc (by simp) _)) hn hc (by omega) HX.out).mono ?_
  rintro e w1 ⟨A1, n1, c1, rfl, hr1, hn1, hc1, hb1⟩
  have hl1 : n1 ≤ n + 1 := by
    rw [← hr1.len, dig_length_le B9 (by decide)]
    have h1 := val_lt_u32 xs HX.out
    rw [hr.len] at h1
    exact h1
  go_wp2_with fail
  refine (clone_any A1 n1 c1 _ _ hr1 (by omega)).mono ?_
  rintro e w2 ⟨A2, n2, c2, rfl, hr2, hn2, hc2, hb2⟩
  have hb3 := hb1.trans (hb2.mono hb1.size)
  obtain ⟨hcl, hfz⟩ := bcell hb3
  have hz : w.heap.size + 1 < w2.heap.size := by have := hb3.size; simp at this; omega
  clear hb1 hb2 hr1
  go_wp2
  refine bodyPost_ret (v := .agg #[.slice A2 n2 c2]) (by simp [results, Tryd.results22, go_sem, hcl]) rfl ?_
  exact fin_struct (((Below.refl _ _).alloc (Nat.le_refl _) _).alloc (by simp) _) hb3 (by omega) (heap_alloc2_new w _ _) hr2 hn2 hc2
set_option maxHeartbeats 400000 in
theorem of_any (n : Nat) (w : World) (hn : n < 18446744073709551616) :
    Calls Tryd.prog 29 #[.int .u64 (n : Int)] w (GivesN n w) := by
  have HL : Hid ((dig B9 n).length ≤ 3) := (dig_length_le B9 (by decide) 3 n).2 (by show n < 1000000000 ^ 3; omega)
  go_enter Tryd.func29, Tryd.ntmps29
  go_wp2
  go_loopw [0, 3] (fun v s wr => ∃ (m c : Nat) (A : Option Addr) (xs : List Nat), m < 18446744073709551616 ∧ v = .int .u64 (m : Int) ∧ s = .slice A xs.length c ∧ Row wr (w.heap.size + 1) .u32 49 A xs.length c xs ∧ Below (w.heap.size + 1) (w.alloc (.cells #[.slice none 0 0] 24)) wr ∧
      dig B9 n = xs ++ dig B9 m ∧ xs.length ≤ 3) (fun v _ _ => (intOf v).toNat)
  case atStart => exact ⟨n, 0, none, [], hn, rfl, rfl, Row.nil_, Below.refl _ _, rfl, by simp⟩
  case round =>
    obtain ⟨m, c, A, xs, hm, rfl, rfl, hrow, hbel, hd, hlen⟩ := hrel
    have hcl : wr.cell? ⟨w.heap.size, 0, none⟩ = some (.slice none 0 0) := (hbel.cell (p := ⟨w.heap.size, 0, none⟩) (by simp)).trans (by simp [World.cell?, alloc_heap])
    have hfz : wr.frozen? ⟨w.heap.size, 0, none⟩ = false := (hbel.frozen (p := ⟨w.heap.size, 0, none⟩) (by simp)).trans (by simp [World.frozen?, alloc_heap])
    by_cases h0 : m = 0
    · subst h0
      have HD := hide hd
      clear hd
      go_wp2
      refine bodyPost_ret (v := .agg #[.slice A xs.length c]) (by simp [results, Tryd.results29, go_sem, hcl]) rfl ?_
      have hrl := hrow.rl
      have e : dig B9 n = xs := by have := HD.out; rwa [dig_zero, List.append_nil] at this
      rw [← e] at hrl ⊢
      exact fin_struct ((Below.refl _ _).alloc (Nat.le_refl _) _) (hbel.mono (by simp)) (Nat.le_refl _) (heap_alloc_new w _) hrl (e ▸ hrow.le.1) hrow.le.2
    · have HD := hide hd
      have hdp := dig_pos B9 (by decide) m h0
      have hlx : xs.length ≤ 2 := by
        have h1 := HL.out
        rw [hd, hdp, List.length_append, List.length_cons] at h1
        omega
      have HN : Hid (dig B9 n = (xs ++ [m % B9]) ++ dig B9 (m / B9)) := by
        rw [hd, hdp, List.append_assoc]; rfl
      have hbs : w.heap.size + 1 ≤ wr.heap.size := by have := hbel.size; simpa using this
      clear hd hdp
      go_wp2_with (at_builtin; refine wpList_append_rl _ rfl _ _ 22 rfl (w.heap.size + 1) 49 .u32 4 Tryd.underlying22 u32_info A xs.length c xs rfl (hrow.alloc _) (some ⟨wr.heap.size, 0, none⟩) 1 1 [m % B9] rfl (RL.one wr .u32 49 (by show _ = ((m % 1000000000 : Nat) : Int); omega)) (by omega) (xs.length + 1) rfl (by omega) (by simp; omega) ?_; intro A' c' w1 hrow1 hbel1 hsz1)
      go_roundw
      case rel => exact ⟨m / B9, c', A', xs ++ [m % B9], by show m / 1000000000 < _; omega, by show _ = Value.int .u64 ((m / 1000000000 : Nat) : Int); go_num, by rw [List.length_append]; rfl, by rw [List.length_append]; exact hrow1, (hbel.alloc hbs _).trans hbel1, HN.out, by rw [List.length_append]; simp; omega⟩
      case measure => simp [intOf]; omega
end Go.Proofs.YthkgiobemfnpmaaDoor
