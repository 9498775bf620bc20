/- The contract of natural.Pow. -/
import Derived.Test.YtoeknkakdoemfaaGreatDoorMul
import Derived.Test.YtoeknkakdoemfaaGreatDoorSimple
import Derived.Deep.LoopGhost
namespace Go.Proofs.YtoeknkakdoemfaaGreatDoor
open Go Go.RowKit

/-- the box of a parameter, and a result's cell -/
theorem box2r (w : World) (v0 v1 : Value) (t0 t1 : TypeId) (W : World) (hW : ((w.alloc (.cells #[v0] t0)).alloc (.cells #[v1] t1)) = W) :
    Below w.heap.size w W ∧ W.cell? ⟨w.heap.size, 0, none⟩ = some v0 ∧ W.heap[w.heap.size + 1]? = some (.cells #[v1] t1 (0, 0)) ∧ W.heap.size = w.heap.size + 2 := by
  obtain ⟨a1, a2, _, a4⟩ := box2 w v0 v1 t0 t1
  rw [hW] at a1 a2 a4
  refine ⟨a1, a2, ?_, a4⟩
  rw [← hW]
  exact heap_alloc2_new w _ _

theorem lt_nd (v : Nat) : v < 10 ^ nd v := by
  unfold nd
  by_cases h : v = 0
  · rw [if_pos h, h]; decide
  · rw [if_neg h]; exact (dig_length_le 10 (by decide) _ v).1 (Nat.le_refl _)
theorem pow_bound {v N K : Nat} (h : nd v * N ≤ K) : v ^ N ≤ 10 ^ K := by
  have h1 : v ^ N ≤ (10 ^ nd v) ^ N := Nat.pow_le_pow_left (Nat.le_of_lt (lt_nd v)) N
  rw [← Nat.pow_mul] at h1
  exact Nat.le_trans h1 (Nat.pow_le_pow_right (by decide) h)
theorem len_bound {u n K L : Nat} (hK : K < 9 * L) (h : u ≤ 10 ^ K) (hl : (dig B9 u).length = n) : n ≤ L := by
  rw [← hl, dig_length_le B9 (by decide), pow_B9]
  exact Nat.lt_of_le_of_lt h (Nat.pow_lt_pow_right (by decide) hK)
/-- the loop's invariant: P * S ^ k = T, all of it at most M -/
def PowInv (M T P S k : Nat) : Prop := P * S ^ k = T ∧ T ≤ M ∧ P ≤ M ∧ (1 ≤ k → S ≤ M) ∧ (P = 0 → S = 0)
theorem powInv_mul {M T P S k : Nat} (h : PowInv M T P S (2 * k + 1)) : P * S ≤ M ∧ (P * S) * (S * S) ^ k = T ∧ (P * S = 0 → S * S = 0) := by
  obtain ⟨h1, h2, h3, h4, h5⟩ := h
  have e : P * S * (S * S) ^ k = T := by
    rw [← h1, Nat.pow_succ, Nat.pow_mul, Nat.pow_two, Nat.mul_assoc P S, Nat.mul_comm S]
  refine ⟨?_, e, fun h0 => ?_⟩
  · rcases Nat.eq_zero_or_pos S with h0 | h0
    · rw [h0, Nat.mul_zero]; exact Nat.zero_le _
    · have : P * S * 1 ≤ P * S * (S * S) ^ k := Nat.mul_le_mul_left _ (Nat.pow_pos (Nat.mul_pos h0 h0))
      omega
  · rcases Nat.mul_eq_zero.1 h0 with h | h
    · rw [h5 h]
    · rw [h]
theorem powInv_even {M T P S k : Nat} (h : PowInv M T P S (2 * k)) : P * (S * S) ^ k = T ∧ (P = 0 → S * S = 0) := by
  obtain ⟨h1, h2, h3, h4, h5⟩ := h
  refine ⟨?_, fun h0 => by rw [h5 h0]⟩
  rw [← h1, Nat.pow_mul, Nat.pow_two]
theorem powInv_sq {M T P S k : Nat} (h : PowInv M T P S k) (hk : 2 ≤ k) : S * S ≤ M := by
  obtain ⟨h1, h2, h3, h4, h5⟩ := h
  rcases Nat.eq_zero_or_pos S with h0 | h0
  · rw [h0, Nat.mul_zero]; exact Nat.zero_le _
  · have hP : 1 ≤ P := by
      rcases Nat.eq_zero_or_pos P with hp | hp
      · have := h5 hp; omega
      · exact hp
    have e1 : S ^ 2 ≤ S ^ k := Nat.pow_le_pow_right h0 hk
    have e2 : 1 * S ^ k ≤ P * S ^ k := Nat.mul_le_mul_right _ hP
    rw [Nat.pow_two] at e1
    omega

theorem pow_range (A : Option Addr) (n c : Nat) (i : Int) (w : World) (hi : i < 0 ∨ 256 < i) :
    Calls Tryz.prog 82 #[.agg #[.slice A n c], .int .i64 i] w (GivesNE 0 2 w) := by
  by_cases h0 : i < 0
  · have hd : decide (i < 0) = true := by simp; omega
    clear hi
    go_enter Tryz.func82, Tryz.ntmps82
    go_wp2
    refine bodyPost_ret (v := .tuple #[.agg #[.slice none 0 0], .int .i64 2]) (by simp [results, Tryz.results82, go_sem]) rfl ?_
    obtain ⟨a1, _, _, _⟩ := box2r w (.slice A n c) (.slice none 0 0) 24 24 _ rfl
    exact ⟨none, 0, 0, rfl, RL.nil_, by omega, by simp [maxLen], a1⟩
  · have hd : decide (i < 0) = false := by simp; omega
    have hd2 : decide (256 < i) = true := by simp; omega
    clear hi
    go_enter Tryz.func82, Tryz.ntmps82
    go_wp2
    refine bodyPost_ret (v := .tuple #[.agg #[.slice none 0 0], .int .i64 2]) (by simp [results, Tryz.results82, go_sem]) rfl ?_
    obtain ⟨a1, _, _, _⟩ := box2r w (.slice A n c) (.slice none 0 0) 24 24 _ rfl
    exact ⟨none, 0, 0, rfl, RL.nil_, by omega, by simp [maxLen], a1⟩

set_option maxHeartbeats 1000000 in
theorem pow_full (A : Option Addr) (n c : Nat) (xs : List Nat) (N : Nat) (w : World) (hr : RL w .u32 A n xs) (hn : n ≤ c) (hc : c ≤ maxLen) (hN : n ≤ 900000) (hx : ∀ x ∈ xs, x < 4294967296) (hi : N ≤ 256) (hf : 4000 < nd (val B9 xs) * N) (hnd : nd (val B9 xs) ≤ 9000000) :
    Calls Tryz.prog 82 #[.agg #[.slice A n c], .int .i64 (N : Int)] w (GivesNE 0 6 w) := by
  have HX := hide hx
  clear hx
  have hp : nd (val B9 xs) * N ≤ 9000000 * 256 := Nat.mul_le_mul hnd hi
  have hp1 : ((nd (val B9 xs) : Nat) : Int) * (N : Int) ≤ 9000000 * 256 := by rw [← Int.natCast_mul]; omega
  have hp0 : 4000 < ((nd (val B9 xs) : Nat) : Int) * (N : Int) := by rw [← Int.natCast_mul]; omega
  go_enter Tryz.func82, Tryz.ntmps82
  go_wp2_with fail
  obtain ⟨W, hWe⟩ : ∃ W, ((w.alloc (Obj.cells #[Value.slice A n c] 24)).alloc (Obj.cells #[Value.slice none 0 0] 24)) = W := ⟨_, rfl⟩
  obtain ⟨hW, h1, h3, hz⟩ := box2r w (.slice A n c) (.slice none 0 0) 24 24 W hWe
  rw [hWe]
  have H3 := hide h3
  clear hWe h3
  refine (digits_any A n c xs _ (hr.below hW) hn hc hN HX.out).mono ?_
  rintro e w1 ⟨rfl, hb1⟩
  have hcl : w1.cell? ⟨w.heap.size + 1, 0, none⟩ = some (.slice none 0 0) := (hb1.cell (p := ⟨w.heap.size + 1, 0, none⟩) (by simp; omega)).trans (by rw [cell_of_row _ _ _ _ _ _ H3.out]; rfl)
  have hfl : w1.frozen? ⟨w.heap.size + 1, 0, none⟩ = false := (hb1.frozen (p := ⟨w.heap.size + 1, 0, none⟩) (by simp; omega)).trans (frozen_of_row _ _ _ _ _ H3.out)
  clear hz hp hf
  go_wp2
  refine bodyPost_ret (v := .tuple #[.agg #[.slice none 0 0], .int .i64 6]) (by simp [results, Tryz.results82, go_sem, hcl]) rfl ?_
  exact fin_structE (u := 0) (n := 0) (c := 0) hW hb1 (by omega) H3.out RL.nil_ (by omega) (by simp [maxLen])

set_option maxHeartbeats 1000000 in
theorem pow_ok (A : Option Addr) (n c : Nat) (xs : List Nat) (N : Nat) (w : World) (hr : RL w .u32 A n xs) (hn : n ≤ c) (hc : c ≤ maxLen) (hN : n ≤ 900000) (hx : ∀ x ∈ xs, x < 4294967296) (hi : N ≤ 256) (hf : nd (val B9 xs) * N ≤ 4000) (T : Nat) (hT : val B9 xs ^ N = T) (K : Nat) (hK : K = 4000) (hS : N ≠ 0 → val B9 xs ≤ 10 ^ K) :
    Calls Tryz.prog 82 #[.agg #[.slice A n c], .int .i64 (N : Int)] w (GivesNE T 0 w) := by
  have HX := hide hx
  have hf' : nd (val B9 xs) * N ≤ K := by omega
  have hK9 : K < 9 * 1000 := by omega
  clear hK
  have HI := hide (show PowInv (10 ^ K) T 1 (val B9 xs) N from ⟨by rw [Nat.one_mul, hT], by rw [← hT]; exact pow_bound hf', Nat.one_le_pow _ _ (by decide), fun h => hS (by omega), fun h => by omega⟩)
  clear hx hT hS hf'
  have hp1 : ((nd (val B9 xs) : Nat) : Int) * (N : Int) ≤ 4000 := by rw [← Int.natCast_mul]; omega
  have hp0 : 0 ≤ ((nd (val B9 xs) : Nat) : Int) * (N : Int) := by rw [← Int.natCast_mul]; omega
  have hd0 : decide ((N : Int) < 0) = false := by simp
  have hd1 : decide (256 < (N : Int)) = false := by simp; omega
  have hd2 : decide (4000 < ((nd (val B9 xs) : Nat) : Int) * (N : Int)) = false := by simp; omega
  go_enter Tryz.func82, Tryz.ntmps82
  go_wp2_with fail
  obtain ⟨W, hWe⟩ : ∃ W, ((w.alloc (Obj.cells #[Value.slice A n c] 24)).alloc (Obj.cells #[Value.slice none 0 0] 24)) = W := ⟨_, rfl⟩
  obtain ⟨hW, h1, h3, hz⟩ := box2r w (.slice A n c) (.slice none 0 0) 24 24 W hWe
  rw [hWe]
  have H3 := hide h3
  have hz2 : w.heap.size + 1 < W.heap.size := by omega
  clear hWe h3 hz
  have hrW := hr.below hW
  refine (digits_any A n c xs _ hrW hn hc hN HX.out).mono ?_
  rintro e w1 ⟨rfl, hb1⟩
  have hr1 := hrW.below hb1
  have hcA : w1.cell? ⟨w.heap.size, 0, none⟩ = some (.slice A n c) := (hb1.cell (p := ⟨w.heap.size, 0, none⟩) (by simp; omega)).trans h1
  have hz3 : w.heap.size + 1 < w1.heap.size := by have := hb1.size; omega
  have hcA2 : (w1.alloc (Obj.cells #[Value.int IntKind.u32 1] 71)).cell? ⟨w.heap.size, 0, none⟩ = some (.slice A n c) := (World.cell?_alloc_lt w1 _ ⟨w.heap.size, 0, none⟩ (by simp; omega)).trans hcA
  clear hr hrW h1 hf
  go_wp2_with fail
  have ho : RL (w1.alloc (Obj.cells #[Value.int IntKind.u32 1] 71)) .u32 (some ⟨w1.heap.size, 0, none⟩) 1 (dig B9 1) := RL.one w1 .u32 71 rfl
  have hb2 : Below W.heap.size W (w1.alloc (Obj.cells #[Value.int IntKind.u32 1] 71)) := hb1.alloc hb1.size _
  have hr2 := hr1.below ((Below.refl _ _).alloc (Nat.le_refl _) (Obj.cells #[Value.int IntKind.u32 1] 71))
  refine (canon_any A n c xs _ hr2 hn hc (by omega) HX.out).mono ?_
  rintro e w3 ⟨A3, n3, c3, rfl, hr3, hn3, hc3, hb3⟩
  have ho3 := ho.below hb3
  have hbr3 := hb2.trans (hb3.mono hb2.size)
  have hl3 : n3 ≤ n + 1 := dig_len_u32 hr3.len hr1.len HX.out
  clear ho hb2 hr2 hb3 hr1
  go_wp2
  go_loopg [1, 6, 7] N (fun k i p q wr => ∃ (A1 : Option Addr) (n1 c1 P : Nat) (A2 : Option Addr) (n2 c2 S : Nat), i = .int .i64 (k : Int) ∧ k ≤ 256 ∧ p = .slice A1 n1 c1 ∧ q = .slice A2 n2 c2 ∧ RL wr .u32 A1 n1 (dig B9 P) ∧ n1 ≤ c1 ∧ c1 ≤ maxLen ∧ RL wr .u32 A2 n2 (dig B9 S) ∧ n2 ≤ 1000000 ∧ Below W.heap.size W wr ∧ PowInv (10 ^ K) T P S k)
  case atStart => exact ⟨_, 1, 1, 1, A3, n3, c3, val B9 xs, rfl, hi, rfl, rfl, ho3, by omega, by simp [maxLen], hr3, by omega, hbr3, HI.out⟩
  case round =>
    clear ho3 hr3 hbr3 hl3 hn3 hc3 HI
    obtain ⟨A1, n1, c1, P, A2, n2, c2, S, rfl, hk, rfl, rfl, hs1, hn1, hc1, hs2, hn2, hbr, hinv⟩ := hrel
    have HV := hide hinv
    have hl1 : n1 ≤ 1000 := len_bound (L := 1000) hK9 hinv.2.2.1 hs1.len
    clear hinv
    by_cases h0 : gk = 0
    · subst h0
      have HP := hide (show P = T from by have := HV.out.1; rwa [Nat.pow_zero, Nat.mul_one] at this)
      have hcl : wr.cell? ⟨w.heap.size + 1, 0, none⟩ = some (.slice none 0 0) := (hbr.cell (p := ⟨w.heap.size + 1, 0, none⟩) hz2).trans (by rw [cell_of_row _ _ _ _ _ _ H3.out]; rfl)
      have hfl : wr.frozen? ⟨w.heap.size + 1, 0, none⟩ = false := (hbr.frozen (p := ⟨w.heap.size + 1, 0, none⟩) hz2).trans (frozen_of_row _ _ _ _ _ H3.out)
      rw [HP.out] at hs1
      go_wp2
      refine bodyPost_ret (v := .tuple #[.agg #[.slice A1 n1 c1], .int .i64 0]) (by simp [results, Tryz.results82, go_sem, hcl]) rfl ?_
      exact fin_structE hW hbr (by omega) H3.out hs1 hn1 hc1
    · have hSM : n2 ≤ 1000 := len_bound (L := 1000) hK9 (HV.out.2.2.2.1 (by omega)) hs2.len
      by_cases hodd : gk % 2 = 1
      · obtain ⟨k, rfl⟩ : ∃ k, gk = 2 * k + 1 := ⟨gk / 2, by omega⟩
        obtain ⟨q1, q2, q3⟩ := powInv_mul HV.out
        have Q1 := hide q1
        have Q2 := hide q2
        have Q3 := hide q3
        have hm1 : ((2 * (k : Int) + 1) % 2 == 1) = true := by rw [beq_iff_eq]; omega
        have hk2 : (2 * (k : Int) + 1) / 2 = (k : Int) := by omega
        clear q1 q2 q3 hodd
        by_cases hk1 : 1 ≤ k
        · have Q4 := hide (powInv_sq HV.out (by omega))
          have hd : decide (1 < 2 * (k : Int) + 1) = true := by simp; omega
          go_wp2_with fail
          refine (product_any A1 n1 c1 _ A2 n2 c2 _ _ hs1 (dig_lt B9 (by decide) P) (by omega) hs2 (dig_lt B9 (by decide) S) (by omega) (P * S) (by rw [val_dig B9 (by decide), val_dig B9 (by decide)])).mono ?_
          rintro e w4 ⟨A4, n4, c4, rfl, hr4, hn4, hc4, hb4⟩
          have hbC := hbr.trans (hb4.mono hbr.size)
          have hs2' := hs2.below hb4
          go_wp2_with fail
          refine (product_any A2 n2 c2 _ A2 n2 c2 _ _ hs2' (dig_lt B9 (by decide) S) (by omega) hs2' (dig_lt B9 (by decide) S) (by omega) (S * S) (by rw [val_dig B9 (by decide)])).mono ?_
          rintro e w5 ⟨A5, n5, c5, rfl, hr5, hn5, hc5, hb5⟩
          have hr4' := hr4.below hb5
          have hbD := hbC.trans (hb5.mono hbC.size)
          have hl5 : n5 ≤ 1000 := len_bound (L := 1000) hK9 Q4.out hr5.len
          go_wp2
          go_roundg k
          case measure => omega
          case rel => exact ⟨A4, n4, c4, P * S, A5, n5, c5, S * S, by go_num, by omega, rfl, rfl, hr4', hn4, hc4, hr5, by omega, hbD, Q2.out, HV.out.2.1, Q1.out, fun _ => Q4.out, Q3.out⟩
        · obtain rfl : k = 0 := by omega
          have Q2' := hide (show P * S * S ^ 0 = T from by have := Q2.out; rwa [Nat.pow_zero] at this ⊢)
          go_wp2_with fail
          refine (product_any A1 n1 c1 _ A2 n2 c2 _ _ hs1 (dig_lt B9 (by decide) P) (by omega) hs2 (dig_lt B9 (by decide) S) (by omega) (P * S) (by rw [val_dig B9 (by decide), val_dig B9 (by decide)])).mono ?_
          rintro e w4 ⟨A4, n4, c4, rfl, hr4, hn4, hc4, hb4⟩
          have hbC := hbr.trans (hb4.mono hbr.size)
          have hs2' := hs2.below hb4
          go_wp2
          go_roundg 0
          case measure => omega
          case rel => exact ⟨A4, n4, c4, P * S, A2, n2, c2, S, by go_num, by omega, rfl, rfl, hr4, hn4, hc4, hs2', by omega, hbC, Q2'.out, HV.out.2.1, Q1.out, fun h => absurd h (by omega), fun h => by
            have h2 := Q3.out h
            rcases Nat.mul_eq_zero.1 h2 with h3 | h3 <;> exact h3⟩
      · obtain ⟨k, rfl⟩ : ∃ k, gk = 2 * k := ⟨gk / 2, by omega⟩
        obtain ⟨q2, q3⟩ := powInv_even HV.out
        have Q2 := hide q2
        have Q3 := hide q3
        have Q4 := hide (powInv_sq HV.out (by omega))
        have hm1 : ((2 * (k : Int)) % 2 == 1) = false := by rw [beq_eq_false_iff_ne]; omega
        have hk2 : (2 * (k : Int)) / 2 = (k : Int) := by omega
        have hd : decide (1 < 2 * (k : Int)) = true := by simp; omega
        clear q2 q3 hodd
        go_wp2_with fail
        refine (product_any A2 n2 c2 _ A2 n2 c2 _ _ hs2 (dig_lt B9 (by decide) S) (by omega) hs2 (dig_lt B9 (by decide) S) (by omega) (S * S) (by rw [val_dig B9 (by decide)])).mono ?_
        rintro e w5 ⟨A5, n5, c5, rfl, hr5, hn5, hc5, hb5⟩
        have hs1' := hs1.below hb5
        have hbD := hbr.trans (hb5.mono hbr.size)
        have hl5 : n5 ≤ 1000 := len_bound (L := 1000) hK9 Q4.out hr5.len
        go_wp2
        go_roundg k
        case measure => omega
        case rel => exact ⟨A1, n1, c1, P, A5, n5, c5, S * S, by go_num, by omega, rfl, rfl, hs1', hn1, hc1, hr5, by omega, hbD, Q2.out, HV.out.2.1, HV.out.2.2.1, fun _ => Q4.out, Q3.out⟩
end Go.Proofs.YtoeknkakdoemfaaGreatDoor
