/- CountingPascal: the walk -/
import Derived.Test.YtjmiaodjapclbaaDoorCLaw
import Derived.Test.YtjmiaodjapclbaaDoorCMod
import Derived.Test.YtjmiaodjapclbaaDoorCFact
import Derived.Deep.RegionHeld3
namespace Go.Proofs.YtjmiaodjapclbaaDoor
open Go Go.RowKit

set_option maxHeartbeats 16000000 in
set_option maxRecDepth 100000 in
theorem cpascal_ok (i j : Int) (n k : Nat) (w : World) (HA : Hid (∀ w, Tab w → Calls Tryd.prog 12 #[] w fun e w' => e = .returned (.bool true) ∧ Below w.heap.size w w')) (hT : Tab w) (hn : n ≤ 199) (hk : k ≤ 200) (hi : i % 200 = (n : Int)) (hj : j % 201 = (k : Int)) : Calls Tryd.prog 8 #[.int .i64 i, .int .i64 j] w fun e w' => e = .returned (.bool true) ∧ Below w.heap.size w w' := by
  have HT := hide hT
  clear hT
  have HI := hide hi
  have HJ := hide hj
  have HBm : Below w.heap.size w w := Below.refl _ _
  clear hi hj
  obtain ⟨M, hM⟩ : ∃ M, M = 402 := ⟨_, rfl⟩
  have Q1 := hide (choI_nat n k)
  have Q2 := hide (show choI n ((k : Int) + 1) = cho n (k + 1) from choI_nat n (k + 1))
  have Q3 := hide (show choI (n + 1) ((k : Int) + 1) = cho (n + 1) (k + 1) from choI_nat (n + 1) (k + 1))
  have N1 := hide (show (n : Int) + 1 = ((n + 1 : Nat) : Int) from rfl)
  have Q4 := hide (show choI n ((n : Int) - (k : Int)) = cho n k from by
    by_cases h : k ≤ n
    · rw [show (n : Int) - (k : Int) = ((n - k : Nat) : Int) by omega, choI_nat, cho_sym h]
    · unfold choI
      rw [if_neg (by omega), cho_zero (by omega)])
  have B1 := hide (show cho n k < B9 ^ M from upB (cho_lt n k) (by omega))
  have B2 := hide (show cho n (k + 1) < B9 ^ M from upB (cho_lt n _) (by omega))
  have B3 := hide (show cho (n + 1) (k + 1) < B9 ^ M from upB (cho_lt _ _) (by omega))
  have B4 := hide (show falr n k < B9 ^ M from by
    by_cases h : k ≤ n
    · rw [falr_prodf k n h]; exact upB (prodf_lt _ k (by omega)) (by omega)
    · rw [falr_zero (by omega)]; exact Nat.pow_pos (by decide))
  have B5 := hide (show prodf 1 k < B9 ^ M from upB (prodf_lt 1 k (by omega)) (by omega))
  have S1 := hide (show cho n k + cho n (k + 1) = cho (n + 1) (k + 1) from rfl)
  have S2 := hide (show cho n k * prodf 1 k = falr n k from (falr_cho n k).symm)
  go_enter Tryd.func8, Tryd.ntmps8
  go_wp2_with fail
  have hbA := HBm
  with_reducible refine (HA.out _ HT.out).mono ?_
  rintro e w1 ⟨rfl, hb⟩
  have hbA := hbA.trans (hb.mono hbA.size)
  clear hb
  go_wp2_with fail
  with_reducible refine (mod_any i 200 (by omega) (by omega) (n : Int) HI.out _).mono ?_
  rintro e wx ⟨rfl, rfl⟩
  go_wp2_with fail
  with_reducible refine (mod_any j 201 (by omega) (by omega) (k : Int) HJ.out _).mono ?_
  rintro e wx ⟨rfl, rfl⟩
  go_wp2_with fail
  with_reducible refine (cbin_i _ _ n rfl (by omega) _ _ Q1.out).mono ?_
  intro e w2 h
  obtain ⟨A2, n2, c2, rfl, x2, hb2⟩ := GivesNE.cn h
  clear h
  have hbA := hbA.trans (hb2.mono hbA.size)
  clear hb2
  go_wp2_with fail
  generalize hW : w2.alloc _ = w3
  obtain ⟨hb, b2, -⟩ := boxesA1 hW
  clear hW
  have hbA := hbA.trans (hb.mono hbA.size)
  have x2 := x2.below hb
  clear hb
  generalize w2.heap.size = g2 at *
  with_reducible refine (cbin_i _ _ n rfl (by omega) _ _ Q2.out).mono ?_
  intro e w4 h
  obtain ⟨A4, n4, c4, rfl, x4, hb4⟩ := GivesNE.cn h
  clear h
  have hbA := hbA.trans (hb4.mono hbA.size)
  have x2 := x2.below hb4
  have b2 := b2.below' hb4
  clear hb4
  go_wp2_with fail
  generalize hW : w4.alloc _ = w5
  obtain ⟨hb, b4, -⟩ := boxesA1 hW
  clear hW
  have hbA := hbA.trans (hb.mono hbA.size)
  have x2 := x2.below hb
  have x4 := x4.below hb
  have b2 := b2.below' hb
  clear hb
  generalize w4.heap.size = g4 at *
  with_reducible refine (cbin_i _ _ (n + 1) N1.out (by omega) _ _ Q3.out).mono ?_
  intro e w6 h
  obtain ⟨A6, n6, c6, rfl, x6, hb6⟩ := GivesNE.cn h
  clear h
  have hbA := hbA.trans (hb6.mono hbA.size)
  have x2 := x2.below hb6
  have x4 := x4.below hb6
  have b2 := b2.below' hb6
  have b4 := b4.below' hb6
  clear hb6
  go_wp2_with fail
  generalize hW : w6.alloc _ = w7
  obtain ⟨hb, b6, -⟩ := boxesA1 hW
  clear hW
  have hbA := hbA.trans (hb.mono hbA.size)
  have x2 := x2.below hb
  have x4 := x4.below hb
  have x6 := x6.below hb
  have b2 := b2.below' hb
  have b4 := b4.below' hb
  clear hb
  generalize w6.heap.size = g6 at *
  with_reducible refine (cbin_i _ _ n rfl (by omega) _ _ Q4.out).mono ?_
  intro e w8 h
  obtain ⟨A8, n8, c8, rfl, x8, hb8⟩ := GivesNE.cn h
  clear h
  have hbA := hbA.trans (hb8.mono hbA.size)
  have x2 := x2.below hb8
  have x4 := x4.below hb8
  have x6 := x6.below hb8
  have b2 := b2.below' hb8
  have b4 := b4.below' hb8
  have b6 := b6.below' hb8
  clear hb8
  go_wp2_with fail
  generalize hW : w8.alloc _ = w9
  obtain ⟨hb, b8, -⟩ := boxesA1 hW
  clear hW
  have hbA := hbA.trans (hb.mono hbA.size)
  have x2 := x2.below hb
  have x4 := x4.below hb
  have x6 := x6.below hb
  have x8 := x8.below hb
  have b2 := b2.below' hb
  have b4 := b4.below' hb
  have b6 := b6.below' hb
  clear hb
  generalize w8.heap.size = g8 at *
  with_reducible refine (cfall_ok _ n k (by omega) (by omega) _ rfl).mono ?_
  intro e w10 h
  obtain ⟨A10, n10, c10, rfl, x10, hb10⟩ := GivesNE.cn h
  clear h
  have hbA := hbA.trans (hb10.mono hbA.size)
  have x2 := x2.below hb10
  have x4 := x4.below hb10
  have x6 := x6.below hb10
  have x8 := x8.below hb10
  have b2 := b2.below' hb10
  have b4 := b4.below' hb10
  have b6 := b6.below' hb10
  have b8 := b8.below' hb10
  clear hb10
  go_wp2_with fail
  generalize hW : w10.alloc _ = w11
  obtain ⟨hb, b10, -⟩ := boxesA1 hW
  clear hW
  have hbA := hbA.trans (hb.mono hbA.size)
  have x2 := x2.below hb
  have x4 := x4.below hb
  have x6 := x6.below hb
  have x8 := x8.below hb
  have x10 := x10.below hb
  have b2 := b2.below' hb
  have b4 := b4.below' hb
  have b6 := b6.below' hb
  have b8 := b8.below' hb
  clear hb
  generalize w10.heap.size = g10 at *
  with_reducible refine (cfact_ok _ k (by omega) _ rfl).mono ?_
  intro e w12 h
  obtain ⟨A12, n12, c12, rfl, x12, hb12⟩ := GivesNE.cn h
  clear h
  have hbA := hbA.trans (hb12.mono hbA.size)
  have x2 := x2.below hb12
  have x4 := x4.below hb12
  have x6 := x6.below hb12
  have x8 := x8.below hb12
  have x10 := x10.below hb12
  have b2 := b2.below' hb12
  have b4 := b4.below' hb12
  have b6 := b6.below' hb12
  have b8 := b8.below' hb12
  have b10 := b10.below' hb12
  clear hb12
  go_wp2_with fail
  generalize hW : w12.alloc _ = w13
  obtain ⟨hb, b12, -⟩ := boxesA1 hW
  clear hW
  have hbA := hbA.trans (hb.mono hbA.size)
  have x2 := x2.below hb
  have x4 := x4.below hb
  have x6 := x6.below hb
  have x8 := x8.below hb
  have x10 := x10.below hb
  have x12 := x12.below hb
  have b2 := b2.below' hb
  have b4 := b4.below' hb
  have b6 := b6.below' hb
  have b8 := b8.below' hb
  have b10 := b10.below' hb
  clear hb
  generalize w12.heap.size = g12 at *
  have KT : Hid (∀ w', Below w13.heap.size w13 w' → w'.cell? ⟨g2, 0, none⟩ = some (.slice A2 n2 c2) ∧ w'.cell? ⟨g4, 0, none⟩ = some (.slice A4 n4 c4) ∧ w'.cell? ⟨g6, 0, none⟩ = some (.slice A6 n6 c6) ∧ w'.cell? ⟨g8, 0, none⟩ = some (.slice A8 n8 c8) ∧ w'.cell? ⟨g10, 0, none⟩ = some (.slice A10 n10 c10) ∧ w'.cell? ⟨g12, 0, none⟩ = some (.slice A12 n12 c12)) := fun w' h => ⟨(b2.below' h).cell, (b4.below' h).cell, (b6.below' h).cell, (b8.below' h).cell, (b10.below' h).cell, (b12.below' h).cell⟩
  have KC2 : Hid (∀ w', Below w13.heap.size w13 w' → Cn w' A2 n2 c2 _) := fun w' h => x2.below h
  have KC4 : Hid (∀ w', Below w13.heap.size w13 w' → Cn w' A4 n4 c4 _) := fun w' h => x4.below h
  have KC6 : Hid (∀ w', Below w13.heap.size w13 w' → Cn w' A6 n6 c6 _) := fun w' h => x6.below h
  have KC8 : Hid (∀ w', Below w13.heap.size w13 w' → Cn w' A8 n8 c8 _) := fun w' h => x8.below h
  have KC10 : Hid (∀ w', Below w13.heap.size w13 w' → Cn w' A10 n10 c10 _) := fun w' h => x10.below h
  have KC12 : Hid (∀ w', Below w13.heap.size w13 w' → Cn w' A12 n12 c12 _) := fun w' h => x12.below h
  have P0 : Below w13.heap.size w13 w13.drew := (Below.refl _ _).drew
  clear b2 b4 b6 b8 b10 b12 x2 x4 x6 x8 x10 x12
  go_region_held3 (fun w' => w'.cell? ⟨g2, 0, none⟩ = some (.slice A2 n2 c2) ∧ w'.cell? ⟨g4, 0, none⟩ = some (.slice A4 n4 c4) ∧ w'.cell? ⟨g6, 0, none⟩ = some (.slice A6 n6 c6) ∧ w'.cell? ⟨g8, 0, none⟩ = some (.slice A8 n8 c8) ∧ w'.cell? ⟨g10, 0, none⟩ = some (.slice A10 n10 c10) ∧ w'.cell? ⟨g12, 0, none⟩ = some (.slice A12 n12 c12))
    (first | exact KT.out _ E65 | exact KT.out _ E64 | exact KT.out _ E63 | exact KT.out _ E62 | exact KT.out _ E61 | exact KT.out _ P0 | exact KT.out _ (Below.refl _ _))
    (first
      | (go_at_call_of 33 (Value.slice A2 n2 c2); (with_reducible refine (add_n (L := M) ((KC2.out _ P0).nt B1.out) ((KC4.out _ P0).nt B2.out) (by omega) _ S1.out).mono ?_); rintro e w61 ⟨A61, n61, c61, rfl, r61, l61, m61, hb61⟩; have E61 : Below w13.heap.size w13 w61 := (P0).trans (hb61.mono (P0).size); have h61 : Cn w61 A61 n61 c61 _ := ⟨r61, l61, m61⟩)
      | (go_at_call_of 32 (Value.slice A6 n6 c6); (with_reducible refine (cmp_n (L := M) ((KC6.out _ E61).nt B3.out) (h61.nt B3.out) (by omega) 0 (cmp_refl _)).mono ?_); rintro e w62 ⟨rfl, hb62⟩; have E62 : Below w13.heap.size w13 w62 := (E61).trans (hb62.mono (E61).size))
      | (go_at_call_of 34 (Value.slice A2 n2 c2); (with_reducible refine (cbase (KC2.out _ E62) (KC8.out _ E62)).mono ?_); rintro e w63 ⟨rfl, hb63⟩; have E63 : Below w13.heap.size w13 w63 := (E62).trans (hb63.mono (E62).size))
      | (go_at_call_of 35 (Value.slice A2 n2 c2); (with_reducible refine (mul_n (L := M) ((KC2.out _ E63).nt B1.out) ((KC12.out _ E63).nt B5.out) (by omega) _ S2.out).mono ?_); rintro e w64 ⟨A64, n64, c64, rfl, r64, l64, m64, hb64⟩; have E64 : Below w13.heap.size w13 w64 := (E63).trans (hb64.mono (E63).size); have h64 : Cn w64 A64 n64 c64 _ := ⟨r64, l64, m64⟩)
      | (go_at_call_of 32 (Value.slice A10 n10 c10); (with_reducible refine (cmp_n (L := M) ((KC10.out _ E64).nt B4.out) (h64.nt B4.out) (by omega) 0 (cmp_refl _)).mono ?_); rintro e w65 ⟨rfl, hb65⟩; have E65 : Below w13.heap.size w13 w65 := (E64).trans (hb65.mono (E64).size)))
  have hbA := hbA.trans (E65.mono hbA.size)
  go_wp2
  go_ret
  exact ⟨rfl, hbA⟩
theorem cpascal_all (HA : Hid (∀ w, Tab w → Calls Tryd.prog 12 #[] w fun e w' => e = .returned (.bool true) ∧ Below w.heap.size w w')) (i j : Int) (w : World) (hT : Tab w) (_hi : -9223372036854775808 ≤ i ∧ i ≤ 9223372036854775807) (_hj : -9223372036854775808 ≤ j ∧ j ≤ 9223372036854775807) : Calls Tryd.prog 8 #[.int .i64 i, .int .i64 j] w fun e w' => e = .returned (.bool true) ∧ Below w.heap.size w w' := by
  have h1 := Int.emod_nonneg i (show (200 : Int) ≠ 0 by omega)
  have h2 := Int.emod_lt_of_pos i (show (0 : Int) < 200 by omega)
  have h3 := Int.emod_nonneg j (show (201 : Int) ≠ 0 by omega)
  have h4 := Int.emod_lt_of_pos j (show (0 : Int) < 201 by omega)
  exact cpascal_ok i j (i % 200).toNat (j % 201).toNat w HA hT (by omega) (by omega) (by omega) (by omega)
end Go.Proofs.YtjmiaodjapclbaaDoor
