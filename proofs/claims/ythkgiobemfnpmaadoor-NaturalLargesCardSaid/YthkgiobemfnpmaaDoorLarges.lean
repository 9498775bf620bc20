/- The law of the large values: the walk. -/
import Derived.Test.YthkgiobemfnpmaaDoorDivides
import Derived.Test.YthkgiobemfnpmaaDoorRSmall
namespace Go.Proofs.YthkgiobemfnpmaaDoor
open Go Go.RowKit

section
variable (A : Option Addr) (n c : Nat) (xs : List Nat) (w : World) (hr : RL w .u32 A n xs) (hn : n ≤ c) (hc : c ≤ maxLen) (hN : n ≤ 900000) (hx : ∀ x ∈ xs, x < 4294967296) (u : Nat) (hu : val B9 xs = u)
include hr hn hc hN hx hu
theorem small_fit (h : u < 18446744073709551616) : Calls Tryd.prog 30 #[.agg #[.slice A n c]] w fun e w' => e = .returned (.tuple #[.int .u64 (u : Int), .bool true]) ∧ Below w.heap.size w w' := by
  have := small_any A n c xs w hr hn hc hN hx
  rw [hu, smallV, if_pos h, smallB, decide_eq_true h] at this
  exact this
theorem small_zero (h : ¬ u < 18446744073709551616) : Calls Tryd.prog 30 #[.agg #[.slice A n c]] w fun e w' => e = .returned (.tuple #[.int .u64 0, .bool false]) ∧ Below w.heap.size w w' := by
  have := small_any A n c xs w hr hn hc hN hx
  rw [hu, smallV, if_neg h, smallB, decide_eq_false h] at this
  exact this
end
set_option maxHeartbeats 4000000 in
set_option maxRecDepth 100000 in
theorem largesB (A : Option Addr) (n c : Nat) (xs : List Nat) (w : World)
    (hr : RL w .u32 A n xs) (hn : n ≤ c) (hc : c ≤ maxLen) (hx : ∀ x ∈ xs, x < 4294967296) (hT : Tab w) (hN12 : n ≤ 12) (h64 : ¬ val B9 xs < 18446744073709551616) :
    Calls Tryd.prog 7 #[.agg #[.slice A n c]] w fun e w' => e = .returned (.bool true) ∧ Below w.heap.size w w' := by
  have HX := hide hx
  have HU := hide (valB hr hN12 hx)
  have H64 := hide h64
  clear hx h64
  go_enter Tryd.func7, Tryd.ntmps7
  go_wp2_with fail
  generalize hW : w.alloc _ = W
  obtain ⟨hbW, b0, -⟩ := boxes1 hW
  clear hW
  have lt0 := b0.lt
  have KS : Hid (∀ w', Below W.heap.size W w' → w'.cell? ⟨w.heap.size, 0, none⟩ = some (.slice A n c)) := fun w' h => (b0.below h lt0).cell
  clear b0 lt0
  have hrW := hr.below hbW
  have T0 := hT.below hbW
  clear hT hr
  refine (awake_any _ T0).mono ?_
  rintro e w1 ⟨rfl, D1⟩
  obtain k1 := KS.out w1 D1
  go_wp2_with fail
  refine (few_yes A n c A n c _ hN12 hN12).mono ?_
  rintro e w2 ⟨rfl, hx⟩
  have D2 := D1.trans (hx.mono D1.size)
  clear hx k1
  obtain k1 := KS.out w2 D2
  go_wp2_with fail
  refine (small_zero A n c xs _ (hrW.below D2) hn hc (by omega) HX.out (val B9 xs) rfl H64.out).mono ?_
  rintro e w3 ⟨rfl, hx⟩
  have D3 := D2.trans (hx.mono D2.size)
  clear hx k1 D1 D2
  obtain k1 := KS.out w3 D3
  go_wp2_with fail
  refine (rsmall_big A n c xs _ (hrW.below D3) hn hc (by omega) HX.out (val B9 xs) rfl H64.out).mono ?_
  rintro e w4 ⟨rfl, hx⟩
  have D4 := D3.trans (hx.mono D3.size)
  clear hx k1 D3
  obtain k1 := KS.out w4 D4
  have B := hbW.trans (D4.mono hbW.size)
  go_wp2
  go_quiet (fail)
  have B2 := below_drewN B nq
  go_wp2
  go_ret
  exact ⟨rfl, B2⟩
set_option maxHeartbeats 4000000 in
set_option maxRecDepth 100000 in
theorem largesF (A : Option Addr) (n c : Nat) (xs : List Nat) (w : World)
    (hr : RL w .u32 A n xs) (hn : n ≤ c) (hc : c ≤ maxLen) (hx : ∀ x ∈ xs, x < 4294967296) (hT : Tab w) (hN12 : n ≤ 12) (h64 : val B9 xs < 18446744073709551616) :
    Calls Tryd.prog 7 #[.agg #[.slice A n c]] w fun e w' => e = .returned (.bool true) ∧ Below w.heap.size w w' := by
  have HX := hide hx
  have HU := hide (valB hr hN12 hx)
  have H64 := hide h64
  clear hx h64
  go_enter Tryd.func7, Tryd.ntmps7
  go_wp2_with fail
  generalize hW : w.alloc _ = W
  obtain ⟨hbW, b0, -⟩ := boxes1 hW
  clear hW
  have lt0 := b0.lt
  have KS : Hid (∀ w', Below W.heap.size W w' → w'.cell? ⟨w.heap.size, 0, none⟩ = some (.slice A n c)) := fun w' h => (b0.below h lt0).cell
  clear b0 lt0
  have hrW := hr.below hbW
  have T0 := hT.below hbW
  clear hT hr
  refine (awake_any _ T0).mono ?_
  rintro e w1 ⟨rfl, D1⟩
  obtain k1 := KS.out w1 D1
  go_wp2_with fail
  refine (few_yes A n c A n c _ hN12 hN12).mono ?_
  rintro e w2 ⟨rfl, hx⟩
  have D2 := D1.trans (hx.mono D1.size)
  clear hx k1
  obtain k1 := KS.out w2 D2
  go_wp2_with fail
  refine (small_fit A n c xs _ (hrW.below D2) hn hc (by omega) HX.out (val B9 xs) rfl H64.out).mono ?_
  rintro e w3 ⟨rfl, hx⟩
  have D3 := D2.trans (hx.mono D2.size)
  clear hx k1 D1 D2
  obtain k1 := KS.out w3 D3
  go_wp2_with fail
  refine (rsmall_fit A n c xs _ (hrW.below D3) hn hc (by omega) HX.out (val B9 xs) rfl H64.out).mono ?_
  rintro e w4 ⟨rfl, hx⟩
  have D4 := D3.trans (hx.mono D3.size)
  clear hx k1 D3
  have hs := hrW.below D4
  have B4 := hbW.trans (D4.mono hbW.size)
  have KS2 : Hid (∀ w', Below w4.heap.size w4 w' → w'.cell? ⟨w.heap.size, 0, none⟩ = some (.slice A n c)) := fun w' h => KS.out w' (D4.trans (h.mono D4.size))
  clear KS D4 hrW hbW
  have HCM := hide (show cmpI (val B9 xs) (val B9 xs) = 0 from cmp_refl _)
  have hof : ∀ w, Calls Tryd.prog 29 #[.int .u64 ((val B9 xs : Nat) : Int)] w (GivesN (val B9 xs) w) := fun w => of_any _ w H64.out
  have HOF := hide hof
  clear hof
  have HD := hide (show cmpI (val B9 (dig B9 (val B9 xs))) (val B9 xs) = 0 from by rw [vd]; exact cmp_refl _)
  have hdl := hide (show (dig B9 (val B9 xs)).length ≤ 13 from (dig_length_le B9 (by decide) 13 _).2 HU.out)
  go_wp2_with fail
  go_region_held3 (fun w' => w'.cell? ⟨w.heap.size, 0, none⟩ = some (.slice A n c))
    (first | exact KS2.out _ E6 | exact KS2.out _ E5 | exact KS2.out _ ((Below.refl _ _).drew))
    (first
      | (go_at_call_of 29 (Value.int .u64 ((val B9 xs : Nat) : Int)); (with_reducible refine (HOF.out _).mono ?_); rintro e w5 ⟨A5, n5, c5, rfl, h5, hn5, hc5, hx5⟩; have E5 : Below w4.heap.size w4 w5 := ((Below.refl _ _).drew).trans (hx5.mono (Nat.le_refl _)))
      | (go_at_call_of 20 (Value.slice A5 n5 c5); (with_reducible refine (cmp_g A5 n5 c5 (dig B9 (val B9 xs)) A n c xs _ h5 hn5 hc5 (by have := h5.len; have := hdl.out; omega) (dig_u32 _) (hs.below E5) hn hc (by omega) HX.out (val B9 xs) (val B9 xs) (vd _) rfl 0 HCM.out).mono ?_); rintro e w6 ⟨rfl, hx6⟩; have E6 : Below w4.heap.size w4 w6 := E5.trans (hx6.mono E5.size)))
  have B := B4.trans (E6.mono B4.size)
  clear E5 E6 hx5 hx6 B4 KS2
  go_wp2
  go_ret
  exact ⟨rfl, B⟩
set_option maxHeartbeats 4000000 in
set_option maxRecDepth 100000 in
theorem larges_no (A : Option Addr) (n c : Nat) (w : World) (hT : Tab w) (h : ¬(n ≤ 12)) :
    Calls Tryd.prog 7 #[.agg #[.slice A n c]] w fun e w' => e = .returned (.bool true) ∧ Below w.heap.size w w' := by
  have HH := hide h
  clear h
  go_enter Tryd.func7, Tryd.ntmps7
  go_wp2_with fail
  generalize hW : w.alloc _ = W
  obtain ⟨hbW, b0, -⟩ := boxes1 hW
  clear hW
  have lt0 := b0.lt
  have KS : Hid (∀ w', Below W.heap.size W w' → w'.cell? ⟨w.heap.size, 0, none⟩ = some (.slice A n c)) := fun w' h => (b0.below h lt0).cell
  clear b0 lt0
  have T0 := hT.below hbW
  refine (awake_any _ T0).mono ?_
  rintro e w1 ⟨rfl, D1⟩
  have T1 := T0.below D1
  obtain k1 := KS.out w1 D1
  go_wp2_with fail
  refine (few_no A n c A n c _ (fun h => HH.out h.1)).mono ?_
  rintro e w2 ⟨rfl, hx⟩
  have D2 := D1.trans (hx.mono D1.size)
  have T2 := T1.below hx
  clear hx k1
  go_wp2_with fail
  refine (awake_any _ T2).mono ?_
  rintro e w4 ⟨rfl, hx⟩
  have D4 := D2.trans (hx.mono D2.size)
  clear hx
  go_wp2
  have B := hbW.trans (D4.mono hbW.size)
  go_ret
  exact ⟨rfl, B⟩
end Go.Proofs.YthkgiobemfnpmaaDoor
