/- CountingSteps: the walk -/
import Derived.Test.YtjmiaodjapclbaaDoorCLaw
import Derived.Test.YtjmiaodjapclbaaDoorCMod
import Derived.Test.YtjmiaodjapclbaaDoorCBell
import Derived.Deep.RegionHeld3
namespace Go.Proofs.YtjmiaodjapclbaaDoor
open Go Go.RowKit

/-- the sum of f 0 .. f (q - 1) -/
def sumLt (f : Nat → Nat) : Nat → Nat
  | 0 => 0
  | q + 1 => sumLt f q + f q
theorem sumLt_to (f : Nat → Nat) : ∀ n, sumLt f (n + 1) = sumTo f n
  | 0 => Nat.zero_add _
  | n + 1 => by
    show sumLt f (n + 1) + f (n + 1) = sumTo f n + f (n + 1)
    rw [sumLt_to f n]
theorem sumLt_le {f : Nat → Nat} {B : Nat} (h : ∀ i, f i ≤ B) : ∀ q, sumLt f q ≤ q * B
  | 0 => Nat.zero_le _
  | q + 1 => by
    have h1 := sumLt_le h q
    have h2 := h q
    show sumLt f q + f q ≤ (q + 1) * B
    rw [Nat.succ_mul]
    omega
theorem sumLt_lt {f : Nat → Nat} {L : Nat} (h : ∀ i, f i < B9 ^ L) {q : Nat} (hq : q ≤ 1000) : sumLt f q < B9 ^ (L + 1) := by
  have h1 := sumLt_le (fun i => Nat.le_of_lt (h i)) q
  have h2 : q * B9 ^ L ≤ 1000 * B9 ^ L := Nat.mul_le_mul_right _ hq
  have h3 : B9 ^ (L + 1) = B9 ^ L * 1000000000 := Nat.pow_succ _ _
  have h4 : 0 < B9 ^ L := Nat.pow_pos (by decide)
  omega
set_option maxHeartbeats 16000000 in
set_option maxRecDepth 100000 in
theorem csteps_ok (i j : Int) (n k : Nat) (w : World) (HA : Hid (∀ w, Tab w → Calls Tryd.prog 12 #[] w fun e w' => e = .returned (.bool true) ∧ Below w.heap.size w w')) (hT : Tab w) (hn : n ≤ 63) (hk : k ≤ 65) (hi : i % 64 = (n : Int)) (hj : j % 66 = (k : Int)) : Calls Tryd.prog 9 #[.int .i64 i, .int .i64 j] w fun e w' => e = .returned (.bool true) ∧ Below w.heap.size w w' := by
  have HT := hide hT
  clear hT
  have HI := hide hi
  have HJ := hide hj
  have HBm : Below w.heap.size w w := Below.refl _ _
  clear hi hj
  obtain ⟨u, hu⟩ : ∃ u, stI n ((k : Int) - 1) = u := ⟨_, rfl⟩
  have Q1 := hide hu
  have Q2 := hide (stI_nat n k)
  have Q3 := hide (stI_nat (n + 1) k)
  have N1 := hide (show (n : Int) + 1 = ((n + 1 : Nat) : Int) from rfl)
  have S1 := hide (show u + k * stir n k = stir (n + 1) k from by
    rw [← hu]
    cases k with
    | zero => unfold stI; rw [if_neg (by omega)]; show 0 + 0 * stir n 0 = 0; rw [Nat.zero_mul]
    | succ k =>
      rw [show ((k + 1 : Nat) : Int) - 1 = (k : Int) by omega, stI_nat]
      rfl)
  have B2 := hide (show stir n k < B9 ^ 100 from upB (stir_lt n k (by omega)) (by omega))
  have B3 := hide (show stir (n + 1) k < B9 ^ 100 from upB (stir_lt _ _ (by omega)) (by omega))
  have B1 := hide (show u < B9 ^ 100 from by have h1 := S1.out; have h2 := B3.out; omega)
  have B4 := hide (show k * stir n k < B9 ^ 100 from by have h1 := S1.out; have h2 := B3.out; omega)
  have B5 := hide (show k < B9 ^ 100 from Nat.lt_of_le_of_lt hk (Nat.lt_of_lt_of_le (show 65 < B9 ^ 1 by decide) (Nat.pow_le_pow_right (by decide) (by omega))))
  have B6 : Hid (∀ q, stir n q < B9 ^ 65) := fun q => stir_lt n q (by omega)
  have BS : Hid (∀ q, q ≤ 65 → sumLt (stir n) q < B9 ^ 100) := fun q hq => upB (sumLt_lt B6.out (by omega)) (by omega)
  have BL := hide (bell_sum (n := n) (by omega))
  have K0 := hide (show IntKind.u64.wrap (k : Int) = (k : Int) from IntWalk.u64_in _ (by omega))
  have K1 := hide (show IntKind.i64.wrap (k : Int) = (k : Int) from IntWalk.i64_in _ (by omega))
  have K2 := hide (show (k : Int) - 1 + 1 = (k : Int) from by omega)
  clear hu
  go_enter Tryd.func9, Tryd.ntmps9
  go_wp2_with fail
  have hbA := HBm
  with_reducible refine (HA.out _ HT.out).mono ?_
  rintro e w1 ⟨rfl, hb⟩
  have hbA := hbA.trans (hb.mono hbA.size)
  clear hb
  go_wp2_with fail
  with_reducible refine (mod_any i 64 (by omega) (by omega) (n : Int) HI.out _).mono ?_
  rintro e wx ⟨rfl, rfl⟩
  go_wp2_with fail
  with_reducible refine (mod_any j 66 (by omega) (by omega) (k : Int) HJ.out _).mono ?_
  rintro e wx ⟨rfl, rfl⟩
  go_wp2_with fail
  with_reducible refine (cstir_i _ _ n rfl (by omega) _ _ Q1.out).mono ?_
  intro e w2 h
  obtain ⟨A2, n2, c2, rfl, x2, hb2⟩ := GivesNE.cn h
  clear h
  have hbA := hbA.trans (hb2.mono hbA.size)
  clear hb2
  go_wp2_with fail
  generalize hW : w2.alloc _ = w3
  obtain ⟨hb, b2, -⟩ := boxesA1 hW
  clear hW
  have hbA := hbA.trans (hb.mono hbA.size)
  have x2 := x2.below hb
  clear hb
  generalize w2.heap.size = g2 at *
  with_reducible refine (cstir_i _ _ n rfl (by omega) _ _ Q2.out).mono ?_
  intro e w4 h
  obtain ⟨A4, n4, c4, rfl, x4, hb4⟩ := GivesNE.cn h
  clear h
  have hbA := hbA.trans (hb4.mono hbA.size)
  have x2 := x2.below hb4
  have b2 := b2.below' hb4
  clear hb4
  go_wp2_with fail
  generalize hW : w4.alloc _ = w5
  obtain ⟨hb, b4, -⟩ := boxesA1 hW
  clear hW
  have hbA := hbA.trans (hb.mono hbA.size)
  have x2 := x2.below hb
  have x4 := x4.below hb
  have b2 := b2.below' hb
  clear hb
  generalize w4.heap.size = g4 at *
  with_reducible refine (cstir_i _ _ (n + 1) N1.out (by omega) _ _ Q3.out).mono ?_
  intro e w6 h
  obtain ⟨A6, n6, c6, rfl, x6, hb6⟩ := GivesNE.cn h
  clear h
  have hbA := hbA.trans (hb6.mono hbA.size)
  have x2 := x2.below hb6
  have x4 := x4.below hb6
  have b2 := b2.below' hb6
  have b4 := b4.below' hb6
  clear hb6
  go_wp2_with fail
  generalize hW : w6.alloc _ = w7
  obtain ⟨hb, b6, -⟩ := boxesA1 hW
  clear hW
  have hbA := hbA.trans (hb.mono hbA.size)
  have x2 := x2.below hb
  have x4 := x4.below hb
  have x6 := x6.below hb
  have b2 := b2.below' hb
  have b4 := b4.below' hb
  clear hb
  generalize w6.heap.size = g6 at *
  with_reducible refine (of_zero _).mono ?_
  intro e w8 h
  obtain ⟨A8, n8, c8, rfl, x8, hb8⟩ := GivesN.cn h
  clear h
  have hbA := hbA.trans (hb8.mono hbA.size)
  have x2 := x2.below hb8
  have x4 := x4.below hb8
  have x6 := x6.below hb8
  have b2 := b2.below' hb8
  have b4 := b4.below' hb8
  have b6 := b6.below' hb8
  clear hb8
  go_wp2_with fail
  have L2 := b2.lt
  have L4 := b4.lt
  have L6 := b6.lt
  have LW := hbA.size
  generalize hW : w8.alloc _ = w9
  obtain ⟨hb, b8, -⟩ := boxesA1 hW
  clear hW
  have hbA := hbA.trans (hb.mono hbA.size)
  have x2 := x2.below hb
  have x4 := x4.below hb
  have x6 := x6.below hb
  have x8 := x8.below hb
  have b2 := b2.below' hb
  have b4 := b4.below' hb
  have b6 := b6.below' hb
  clear hb
  generalize w8.heap.size = g8 at *
  have HG := hide (show g2 ≠ g8 ∧ g4 ≠ g8 ∧ g6 ≠ g8 ∧ w.heap.size ≤ g8 from ⟨Nat.ne_of_lt L2, Nat.ne_of_lt L4, Nat.ne_of_lt L6, LW⟩)
  clear LW L2 L4 L6
  go_loopw [12, 13, 14] (fun v12 _ _ wr => ∃ (q : Nat) (A : Option Addr) (m d : Nat), q ≤ n + 1 ∧ v12 = .int .i64 ((q : Nat) : Int) ∧ Below w.heap.size w wr ∧ Box wr g2 #[.slice A2 n2 c2] 25 ∧ Box wr g4 #[.slice A4 n4 c4] 25 ∧ Box wr g6 #[.slice A6 n6 c6] 25 ∧ Box wr g8 #[.slice A m d] 25 ∧ Cn wr A2 n2 c2 (u) ∧ Cn wr A4 n4 c4 (stir n k) ∧ Cn wr A6 n6 c6 (stir (n + 1) k) ∧ Cn wr A m d (sumLt (stir n) q)) (fun v12 _ _ _ => n + 1 - (intOf v12).toNat)
  case atStart => exact ⟨0, _, _, _, by omega, rfl, hbA, b2, b4, b6, b8, x2, x4, x6, x8⟩
  case round =>
  obtain ⟨q, A8, n8, c8, hq, rfl, hbA, b2, b4, b6, b8, x2, x4, x6, x8⟩ := hrel
  by_cases hlt : q ≤ n
  · skip
    have HQ := hide (stI_nat n q)
    have HB := hide (BS.out q (by omega))
    have HB2 := hide (show stir n q < B9 ^ 100 from upB (B6.out q) (by omega))
    go_wp2_with fail
    with_reducible refine (cstir_i _ _ n rfl (by omega) _ _ HQ.out).mono ?_
    intro e w10 h
    obtain ⟨A10, n10, c10, rfl, x10, hb10⟩ := GivesNE.cn h
    clear h
    have hbA := hbA.trans (hb10.mono hbA.size)
    have x2 := x2.below hb10
    have x4 := x4.below hb10
    have x6 := x6.below hb10
    have x8 := x8.below hb10
    have b2 := b2.below' hb10
    have b4 := b4.below' hb10
    have b6 := b6.below' hb10
    have b8 := b8.below' hb10
    clear hb10
    have k8 := b8.cell
    have l8 := b8.lt
    go_wp2_with fail
    clear k8 l8
    generalize hW : w10.alloc _ = w11
    obtain ⟨hb, b10, -⟩ := boxesA1 hW
    clear hW
    have hbA := hbA.trans (hb.mono hbA.size)
    have x2 := x2.below hb
    have x4 := x4.below hb
    have x6 := x6.below hb
    have x8 := x8.below hb
    have x10 := x10.below hb
    have b2 := b2.below' hb
    have b4 := b4.below' hb
    have b6 := b6.below' hb
    have b8 := b8.below' hb
    clear hb
    generalize w10.heap.size = g10 at *
    with_reducible refine (add_n (L := 100) (x8.nt HB.out) (x10.nt HB2.out) (by omega) (sumLt (stir n) (q + 1)) rfl).mono ?_
    intro e w12 h
    obtain ⟨A12, n12, c12, rfl, x12, hb12⟩ := GivesN.cn h
    clear h
    have hbA := hbA.trans (hb12.mono hbA.size)
    have x2 := x2.below hb12
    have x4 := x4.below hb12
    have x6 := x6.below hb12
    have x8 := x8.below hb12
    have x10 := x10.below hb12
    have b2 := b2.below' hb12
    have b4 := b4.below' hb12
    have b6 := b6.below' hb12
    have b8 := b8.below' hb12
    have b10 := b10.below' hb12
    have kz := b8.cell
    have fz := b8.frozen 0
    have b2 := b2.far (p := ⟨g8, 0, none⟩) HG.out.1 (.slice A12 n12 c12)
    have b4 := b4.far (p := ⟨g8, 0, none⟩) HG.out.2.1 (.slice A12 n12 c12)
    have b6 := b6.far (p := ⟨g8, 0, none⟩) HG.out.2.2.1 (.slice A12 n12 c12)
    have x2 := x2.far (i := 0) b8 noInt1 (.slice A12 n12 c12)
    have x4 := x4.far (i := 0) b8 noInt1 (.slice A12 n12 c12)
    have x6 := x6.far (i := 0) b8 noInt1 (.slice A12 n12 c12)
    have x12 := x12.far (i := 0) b8 noInt1 (.slice A12 n12 c12)
    have b8 := b8.put (.slice A12 n12 c12)
    have hbA : Below w.heap.size w (w12.setCell ⟨g8, 0, none⟩ (.slice A12 n12 c12)) := hbA.setCell HG.out.2.2.2 _
    go_wp2_with fail
    go_roundw
    case measure => simp [intOf]; omega
    case rel => exact ⟨q + 1, A12, n12, c12, by omega, by go_num, hbA, b2, b4, b6, b8, x2, x4, x6, x12⟩
  · skip
    obtain rfl : q = n + 1 := by omega
    rw [sumLt_to] at x8
    have BZ := hide (show sumTo (stir n) n < B9 ^ 100 from by rw [← sumLt_to]; exact BS.out _ (by omega))
    go_wp2_with fail
    with_reducible refine (cbell_ok n (by omega) _ _ BL.out).mono ?_
    intro e w10 h
    obtain ⟨A10, n10, c10, rfl, x10, hb10⟩ := GivesNE.cn h
    clear h
    have hbA := hbA.trans (hb10.mono hbA.size)
    have x2 := x2.below hb10
    have x4 := x4.below hb10
    have x6 := x6.below hb10
    have x8 := x8.below hb10
    have b2 := b2.below' hb10
    have b4 := b4.below' hb10
    have b6 := b6.below' hb10
    have b8 := b8.below' hb10
    clear hb10
    go_wp2_with fail
    generalize hW : w10.alloc _ = w11
    obtain ⟨hb, b10, -⟩ := boxesA1 hW
    clear hW
    have hbA := hbA.trans (hb.mono hbA.size)
    have x2 := x2.below hb
    have x4 := x4.below hb
    have x6 := x6.below hb
    have x8 := x8.below hb
    have x10 := x10.below hb
    have b2 := b2.below' hb
    have b4 := b4.below' hb
    have b6 := b6.below' hb
    have b8 := b8.below' hb
    clear hb
    generalize w10.heap.size = g10 at *
    have k0 := K0.out
    have k1 := K1.out
    have k2 := K2.out
    have KT : Hid (∀ w', Below w11.heap.size w11 w' → w'.cell? ⟨g2, 0, none⟩ = some (.slice A2 n2 c2) ∧ w'.cell? ⟨g4, 0, none⟩ = some (.slice A4 n4 c4) ∧ w'.cell? ⟨g6, 0, none⟩ = some (.slice A6 n6 c6) ∧ w'.cell? ⟨g8, 0, none⟩ = some (.slice A8 n8 c8) ∧ w'.cell? ⟨g10, 0, none⟩ = some (.slice A10 n10 c10)) := fun w' h => ⟨(b2.below' h).cell, (b4.below' h).cell, (b6.below' h).cell, (b8.below' h).cell, (b10.below' h).cell⟩
    have KC2 : Hid (∀ w', Below w11.heap.size w11 w' → Cn w' A2 n2 c2 _) := fun w' h => x2.below h
    have KC4 : Hid (∀ w', Below w11.heap.size w11 w' → Cn w' A4 n4 c4 _) := fun w' h => x4.below h
    have KC6 : Hid (∀ w', Below w11.heap.size w11 w' → Cn w' A6 n6 c6 _) := fun w' h => x6.below h
    have KC8 : Hid (∀ w', Below w11.heap.size w11 w' → Cn w' A8 n8 c8 _) := fun w' h => x8.below h
    have KC10 : Hid (∀ w', Below w11.heap.size w11 w' → Cn w' A10 n10 c10 _) := fun w' h => x10.below h
    have P0 : Below w11.heap.size w11 w11.drew := (Below.refl _ _).drew
    clear b2 b4 b6 b8 b10 x2 x4 x6 x8 x10
    go_region_held3 (fun w' => w'.cell? ⟨g2, 0, none⟩ = some (.slice A2 n2 c2) ∧ w'.cell? ⟨g4, 0, none⟩ = some (.slice A4 n4 c4) ∧ w'.cell? ⟨g6, 0, none⟩ = some (.slice A6 n6 c6) ∧ w'.cell? ⟨g8, 0, none⟩ = some (.slice A8 n8 c8) ∧ w'.cell? ⟨g10, 0, none⟩ = some (.slice A10 n10 c10))
      (first | exact KT.out _ E65 | exact KT.out _ E64 | exact KT.out _ E63 | exact KT.out _ E62 | exact KT.out _ E61 | exact KT.out _ P0 | exact KT.out _ (Below.refl _ _))
      (first
        | (go_at_call 36; (with_reducible refine (of_any k _ (by omega)).mono ?_); rintro e w61 ⟨A61, n61, c61, rfl, r61, l61, m61, hb61⟩; have E61 : Below w11.heap.size w11 w61 := (P0).trans (hb61.mono (P0).size); have h61 : Cn w61 A61 n61 c61 k := ⟨r61, l61, m61⟩)
        | (go_at_call_of 35 (Value.slice A61 n61 c61); (with_reducible refine (mul_n (L := 100) (h61.nt B5.out) ((KC4.out _ E61).nt B2.out) (by omega) _ rfl).mono ?_); rintro e w62 ⟨A62, n62, c62, rfl, r62, l62, m62, hb62⟩; have E62 : Below w11.heap.size w11 w62 := (E61).trans (hb62.mono (E61).size); have h62 : Cn w62 A62 n62 c62 _ := ⟨r62, l62, m62⟩)
        | (go_at_call_of 33 (Value.slice A2 n2 c2); (with_reducible refine (add_n (L := 100) ((KC2.out _ E62).nt B1.out) (h62.nt B4.out) (by omega) _ S1.out).mono ?_); rintro e w63 ⟨A63, n63, c63, rfl, r63, l63, m63, hb63⟩; have E63 : Below w11.heap.size w11 w63 := (E62).trans (hb63.mono (E62).size); have h63 : Cn w63 A63 n63 c63 _ := ⟨r63, l63, m63⟩)
        | (go_at_call_of 32 (Value.slice A6 n6 c6); (with_reducible refine (cmp_n (L := 100) ((KC6.out _ E63).nt B3.out) (h63.nt B3.out) (by omega) 0 (cmp_refl _)).mono ?_); rintro e w64 ⟨rfl, hb64⟩; have E64 : Below w11.heap.size w11 w64 := (E63).trans (hb64.mono (E63).size))
        | (go_at_call_of 32 (Value.slice A8 n8 c8); (with_reducible refine (cmp_n (L := 100) ((KC8.out _ E64).nt BZ.out) ((KC10.out _ E64).nt BZ.out) (by omega) 0 (cmp_refl _)).mono ?_); rintro e w65 ⟨rfl, hb65⟩; have E65 : Below w11.heap.size w11 w65 := (E64).trans (hb65.mono (E64).size)))
    have hbA := hbA.trans (E65.mono hbA.size)
    go_wp2
    go_ret
    exact ⟨rfl, hbA⟩
theorem csteps_all (HA : Hid (∀ w, Tab w → Calls Tryd.prog 12 #[] w fun e w' => e = .returned (.bool true) ∧ Below w.heap.size w w')) (i j : Int) (w : World) (hT : Tab w) (_hi : -9223372036854775808 ≤ i ∧ i ≤ 9223372036854775807) (_hj : -9223372036854775808 ≤ j ∧ j ≤ 9223372036854775807) : Calls Tryd.prog 9 #[.int .i64 i, .int .i64 j] w fun e w' => e = .returned (.bool true) ∧ Below w.heap.size w w' := by
  have h1 := Int.emod_nonneg i (show (64 : Int) ≠ 0 by omega)
  have h2 := Int.emod_lt_of_pos i (show (0 : Int) < 64 by omega)
  have h3 := Int.emod_nonneg j (show (66 : Int) ≠ 0 by omega)
  have h4 := Int.emod_lt_of_pos j (show (0 : Int) < 66 by omega)
  exact csteps_ok i j (i % 64).toNat (j % 66).toNat w HA hT (by omega) (by omega) (by omega) (by omega)
end Go.Proofs.YtjmiaodjapclbaaDoor
