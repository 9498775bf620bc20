/- FractionParses: the walks. -/
import Derived.Test.YtgfdeihfinlfoaaGreatDoorZLaw
namespace Go.Proofs.YtgfdeihfinlfoaaGreatDoor
open Go Go.RowKit

set_option maxHeartbeats 16000000 in
set_option maxRecDepth 100000 in
theorem zparses_mid (HA : Hid Awake) (s : ByteArray) (w : World) (hT : Zw w) (h1 : 400 < s.size) (h2 : s.size < 4001) :
    Calls Tryz.prog 4 #[.string s] w fun e w' => e = .returned (.bool true) ∧ Below w.heap.size w w' := by
  have HT0 := hide hT
  have e1 : decide (400 < (s.size : Int)) = true := by simp; omega
  have e2 : decide ((s.size : Int) < 4001) = true := by simp; omega
  clear hT
  go_enter Tryz.func4, Tryz.ntmps4
  go_wp2_with fail
  refine (HA.out _ HT0.out.tab).mono ?_
  rintro e w1 ⟨rfl, B⟩
  go_wp2_with fail
  refine (HA.out _ (HT0.out.below B).tab).mono ?_
  rintro e w2 ⟨rfl, hb⟩
  have B := B.trans (hb.mono B.size)
  clear hb
  go_wp2_with fail
  go_ret
  exact ⟨rfl, B⟩
set_option maxHeartbeats 16000000 in
set_option maxRecDepth 100000 in
theorem zparses_big (HA : Hid Awake) (s : ByteArray) (w : World) (hT : Zw w) (h1 : 5000 < s.size) :
    Calls Tryz.prog 4 #[.string s] w fun e w' => e = .returned (.bool true) ∧ Below w.heap.size w w' := by
  have HT0 := hide hT
  have e1 : decide (400 < (s.size : Int)) = true := by simp; omega
  have e2 : decide ((s.size : Int) < 4001) = false := by simp; omega
  have e3 : decide (5000 < (s.size : Int)) = true := by simp; omega
  clear hT
  go_enter Tryz.func4, Tryz.ntmps4
  go_wp2_with fail
  refine (HA.out _ HT0.out.tab).mono ?_
  rintro e w1 ⟨rfl, B⟩
  go_wp2_with fail
  refine (HA.out _ (HT0.out.below B).tab).mono ?_
  rintro e w2 ⟨rfl, hb⟩
  have B := B.trans (hb.mono B.size)
  clear hb
  go_wp2_with fail
  go_ret
  exact ⟨rfl, B⟩
set_option maxHeartbeats 16000000 in
set_option maxRecDepth 100000 in
theorem zparses_full (HA : Hid Awake) (s : ByteArray) (w : World) (hT : Zw w) (h1 : 4000 < s.size) (h2 : s.size ≤ 5000) :
    Calls Tryz.prog 4 #[.string s] w fun e w' => e = .returned (.bool true) ∧ Below w.heap.size w w' := by
  have HT0 := hide hT
  have e1 : decide (400 < (s.size : Int)) = true := by simp; omega
  have e2 : decide ((s.size : Int) < 4001) = false := by simp; omega
  have e3 : decide (5000 < (s.size : Int)) = false := by simp; omega
  have C1 : Hid (∀ W : World, Calls Tryz.prog 11 #[.string s] W fun e w' => e = .returned (.tuple #[.agg #[.bool false, .slice none 0 0, .slice none 0 0], .int .i64 6]) ∧ Below W.heap.size W w') := fun W => fparse_full s W h1
  have C2 : Hid (∀ W : World, Calls Tryz.prog 16 #[.string s] W fun e w' => e = .returned (.tuple #[.agg #[.bool false, .slice none 0 0, .slice none 0 0], .int .i64 6]) ∧ Below W.heap.size W w') := fun W => gparse_full s W h1
  clear hT
  go_enter Tryz.func4, Tryz.ntmps4
  go_wp2_with fail
  refine (HA.out _ HT0.out.tab).mono ?_
  rintro e w1 ⟨rfl, B⟩
  go_wp2_with fail
  refine (C1.out _).mono ?_
  rintro e w2 ⟨rfl, hb⟩
  have B := B.trans (hb.mono B.size)
  clear hb
  go_wp2_with fail
  generalize hW : w2.alloc _ = W2
  obtain ⟨hb, bx, -⟩ := boxesA1 hW
  clear hW
  have B := B.trans (hb.mono B.size)
  clear hb
  generalize w2.heap.size = gx at *
  refine (C2.out _).mono ?_
  rintro e w3 ⟨rfl, hb⟩
  have B := B.trans (hb.mono B.size)
  have bx := bx.below' hb
  clear hb
  have k0 : w3.cell? ⟨gx, 0, none⟩ = some (.bool false) := bx.at_ 0
  have k1 : w3.cell? ⟨gx, 1, none⟩ = some (.slice none 0 0) := bx.at_ 1
  have k2 : w3.cell? ⟨gx, 2, none⟩ = some (.slice none 0 0) := bx.at_ 2
  have k3 := bx.lt
  go_wp2_with fail
  generalize hW : w3.alloc _ = W3
  obtain ⟨hb, -, -⟩ := boxesA1 hW
  clear hW
  have B := B.trans (hb.mono B.size)
  clear hb k0 k1 k2 k3 bx
  refine (base_zero _).mono ?_
  rintro e w4 ⟨rfl, hb⟩
  have B := B.trans (hb.mono B.size)
  clear hb
  go_wp2_with fail
  go_ret
  exact ⟨rfl, B⟩
set_option maxHeartbeats 16000000 in
set_option maxRecDepth 100000 in
theorem zparses_form (HA : Hid Awake) (s : ByteArray) (w : World) (hT : Zw w) (h1 : s.size ≤ 400) (hn : ∀ r, qtext r ≠ s) :
    Calls Tryz.prog 4 #[.string s] w fun e w' => e = .returned (.bool true) ∧ Below w.heap.size w w' := by
  have HT0 := hide hT
  have e1 : decide (400 < (s.size : Int)) = false := by simp; omega
  have e3 : decide (5000 < (s.size : Int)) = false := by simp; omega
  have C1 : Hid (∀ W : World, Zw W → Calls Tryz.prog 11 #[.string s] W fun e w' => e = .returned (.tuple #[.agg #[.bool false, .slice none 0 0, .slice none 0 0], .int .i64 3]) ∧ Below W.heap.size W w') := fun W hW => (fparse_any s W hW (by omega)).mono fun _ _ h => h.2 hn
  have C2 : Hid (∀ W : World, Calls Tryz.prog 16 #[.string s] W fun e w' => e = .returned (.tuple #[.agg #[.bool false, .slice none 0 0, .slice none 0 0], .int .i64 3]) ∧ Below W.heap.size W w') := fun W => (gparse_any s W (by omega)).mono fun _ _ h => h.2 hn
  clear hn
  clear hT
  go_enter Tryz.func4, Tryz.ntmps4
  go_wp2_with fail
  refine (HA.out _ HT0.out.tab).mono ?_
  rintro e w1 ⟨rfl, B⟩
  go_wp2_with fail
  refine (C1.out _ (HT0.out.below B)).mono ?_
  rintro e w2 ⟨rfl, hb⟩
  have B := B.trans (hb.mono B.size)
  clear hb
  go_wp2_with fail
  generalize hW : w2.alloc _ = W2
  obtain ⟨hb, bx, -⟩ := boxesA1 hW
  clear hW
  have B := B.trans (hb.mono B.size)
  clear hb
  generalize w2.heap.size = gx at *
  refine (C2.out _).mono ?_
  rintro e w3 ⟨rfl, hb⟩
  have B := B.trans (hb.mono B.size)
  have bx := bx.below' hb
  clear hb
  have k0 : w3.cell? ⟨gx, 0, none⟩ = some (.bool false) := bx.at_ 0
  have k1 : w3.cell? ⟨gx, 1, none⟩ = some (.slice none 0 0) := bx.at_ 1
  have k2 : w3.cell? ⟨gx, 2, none⟩ = some (.slice none 0 0) := bx.at_ 2
  have k3 := bx.lt
  go_wp2_with fail
  generalize hW : w3.alloc _ = W3
  obtain ⟨hb, -, -⟩ := boxesA1 hW
  clear hW
  have B := B.trans (hb.mono B.size)
  clear hb k0 k1 k2 k3 bx
  refine (base_zero _).mono ?_
  rintro e w4 ⟨rfl, hb⟩
  have B := B.trans (hb.mono B.size)
  clear hb
  go_wp2_with fail
  go_ret
  exact ⟨rfl, B⟩
set_option maxHeartbeats 16000000 in
set_option maxRecDepth 100000 in
theorem zparses_ok (HA : Hid Awake) (s : ByteArray) (w : World) (hT : Zw w) (h1 : s.size ≤ 400) (r : Rat) (hr : qtext r = s) (hh : Ht r 200) :
    Calls Tryz.prog 4 #[.string s] w fun e w' => e = .returned (.bool true) ∧ Below w.heap.size w w' := by
  have HT0 := hide hT
  have e1 : decide (400 < (s.size : Int)) = false := by simp; omega
  have e3 : decide (5000 < (s.size : Int)) = false := by simp; omega
  have C1 : Hid (∀ W : World, Zw W → Calls Tryz.prog 11 #[.string s] W (GivesFE r 0 W)) := fun W hW => (fparse_any s W hW (by omega)).mono fun _ _ h => h.1 r hr
  have C2 : Hid (∀ W : World, Calls Tryz.prog 16 #[.string s] W (GivesFE r 0 W)) := fun W => (gparse_any s W (by omega)).mono fun _ _ h => h.1 r hr
  have HR := hide hr
  have TX := hide hh
  clear hr hh
  clear hT
  go_enter Tryz.func4, Tryz.ntmps4
  go_wp2_with fail
  refine (HA.out _ HT0.out.tab).mono ?_
  rintro e w1 ⟨rfl, B⟩
  go_wp2_with fail
  refine (C1.out _ (HT0.out.below B)).mono ?_
  rintro e w2 ⟨p5, A5, n5, c5, B5, m5, d5, rfl, x5, hb⟩
  have B := B.trans (hb.mono B.size)
  clear hb
  go_wp2_with fail
  generalize hW : w2.alloc _ = W2
  obtain ⟨hb, bx, -⟩ := boxesA1 hW
  clear hW
  have x5 := x5.below hb
  have B := B.trans (hb.mono B.size)
  clear hb
  generalize w2.heap.size = gx at *
  refine (C2.out _).mono ?_
  rintro e w3 ⟨p6, A6, n6, c6, B6, m6, d6, rfl, x6, hb⟩
  have B := B.trans (hb.mono B.size)
  have bx := bx.below' hb
  have x5 := x5.below hb
  clear hb
  have k0 : w3.cell? ⟨gx, 0, none⟩ = some (.bool p5) := bx.at_ 0
  have k1 : w3.cell? ⟨gx, 1, none⟩ = some (.slice A5 n5 c5) := bx.at_ 1
  have k2 : w3.cell? ⟨gx, 2, none⟩ = some (.slice B5 m5 d5) := bx.at_ 2
  have k3 := bx.lt
  go_wp2_with fail
  generalize hW : w3.alloc _ = W3
  obtain ⟨hb, -, -⟩ := boxesA1 hW
  clear hW
  have B := B.trans (hb.mono B.size)
  have bx := bx.below' hb
  have x5 := x5.below hb
  have x6 := x6.below hb
  clear hb k0 k1 k2 k3
  refine (fbase_f x5 x6 TX.out (by omega)).mono ?_
  rintro e w4 ⟨rfl, hb⟩
  have B := B.trans (hb.mono B.size)
  have bx := bx.below' hb
  have x5 := x5.below hb
  clear hb
  have k0 : w4.cell? ⟨gx, 0, none⟩ = some (.bool p5) := bx.at_ 0
  have k1 : w4.cell? ⟨gx, 1, none⟩ = some (.slice A5 n5 c5) := bx.at_ 1
  have k2 : w4.cell? ⟨gx, 2, none⟩ = some (.slice B5 m5 d5) := bx.at_ 2
  go_wp2_with fail
  refine (ftext_s (L := 200) (x5.fr TX.out) (by omega) (by omega) (HT0.out.below B).tab s HR.out).mono ?_
  rintro e w5 ⟨rfl, hb⟩
  have B := B.trans (hb.mono B.size)
  clear hb
  go_wp2_with fail
  go_ret
  exact ⟨rfl, B⟩
theorem asc_lt {u L : Nat} (hu : (BN (asc u)).length ≤ 9 * L) : u < B9 ^ L := by
  have h1 : (BN (asc u)).length = (asc u).length := by simp [BN]
  rw [h1] at hu
  have h2 := decV_lt (asc u) (asc_digits u)
  rw [decV_asc] at h2
  rw [pow_B9]
  exact Nat.lt_of_lt_of_le h2 (Nat.pow_le_pow_right (by decide) hu)
theorem ht_text {s : ByteArray} {r : Rat} (hr : qtext r = s) (hs : s.size ≤ 400) : Ht r 200 := by
  have e := qtext_list r
  rw [hr] at e
  have z := congrArg List.length e
  rw [← size_list, List.length_append, List.length_append] at z
  have z1 : (BN (asc r.num.natAbs)).length ≤ 400 := by omega
  have z0 : ∀ u, (BN (asc u)).length ≤ 400 → u < B9 ^ 200 := fun u hu => asc_lt (L := 200) (Nat.le_trans hu (by decide))
  refine ⟨z0 _ z1, ?_⟩
  by_cases hd : r.den = 1
  · rw [hd]
    exact one_lt_B (by omega)
  · rw [if_neg hd, List.length_cons] at z
    exact z0 _ (by omega)
theorem zparses_all (HA : Hid Awake) (s : ByteArray) (w : World) (hT : Zw w) :
    Calls Tryz.prog 4 #[.string s] w fun e w' => e = .returned (.bool true) ∧ Below w.heap.size w w' := by
  by_cases h1 : s.size ≤ 400
  · by_cases h : ∃ r, qtext r = s
    · obtain ⟨r, hr⟩ := h
      exact zparses_ok HA s w hT h1 r hr (ht_text hr h1)
    · exact zparses_form HA s w hT h1 fun r hr => h ⟨r, hr⟩
  · by_cases h2 : s.size < 4001
    · exact zparses_mid HA s w hT (by omega) h2
    · by_cases h3 : 5000 < s.size
      · exact zparses_big HA s w hT h3
      · exact zparses_full HA s w hT (by omega) (by omega)
end Go.Proofs.YtgfdeihfinlfoaaGreatDoor
