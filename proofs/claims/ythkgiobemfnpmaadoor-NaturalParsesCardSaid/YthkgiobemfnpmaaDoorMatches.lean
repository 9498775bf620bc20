/- The law of sums, products, comparisons, canonical forms and digits: the walk. -/
import Derived.Test.YthkgiobemfnpmaaDoorDivides
import Derived.Test.YthkgiobemfnpmaaDoorRCmp
import Derived.Test.YthkgiobemfnpmaaDoorRAdd
import Derived.Test.YthkgiobemfnpmaaDoorRMul
import Derived.Test.YthkgiobemfnpmaaDoorRDigits
namespace Go.Proofs.YthkgiobemfnpmaaDoor
open Go Go.RowKit

section
variable (A : Option Addr) (n c : Nat) (xs : List Nat) (w : World) (hr : RL w .u32 A n xs) (hn : n ≤ c) (hc : c ≤ maxLen) (hN : n ≤ 900000) (hx : ∀ x ∈ xs, x < 4294967296) (u : Nat) (hu : val B9 xs = u)
include hr hn hc hN hx hu
theorem norm_g : Calls Tryd.prog 22 #[.agg #[.slice A n c]] w (GivesN u w) := by
  have := norm_any A n c xs w hr hn hc hN hx
  rw [hu] at this
  exact this
theorem digits_g (r : Nat) (h : nd u = r) : Calls Tryd.prog 24 #[.agg #[.slice A n c]] w fun e w' => e = .returned (.int .i64 (r : Int)) ∧ Below w.heap.size w w' := by
  have := digits_any A n c xs w hr hn hc hN hx
  rw [hu, h] at this
  exact this
end
set_option maxHeartbeats 4000000 in
set_option maxRecDepth 100000 in
theorem matches_yes (A : Option Addr) (n c : Nat) (xs : List Nat) (A' : Option Addr) (m d : Nat) (ys : List Nat) (w : World)
    (hr : RL w .u32 A n xs) (hn : n ≤ c) (hc : c ≤ maxLen) (hx : ∀ x ∈ xs, x < 4294967296) (hr' : RL w .u32 A' m ys) (hm : m ≤ d) (hd : d ≤ maxLen) (hy : ∀ x ∈ ys, x < 4294967296) (hT : Tab w) (hN12 : n ≤ 12) (hM12 : m ≤ 12) :
    Calls Tryd.prog 3 #[.agg #[.slice A n c], .agg #[.slice A' m d]] w fun e w' => e = .returned (.bool true) ∧ Below w.heap.size w w' := by
  have HX := hide hx
  have HY := hide hy
  have HU := hide (valB hr hN12 hx)
  have HV := hide (valB hr' hM12 hy)
  obtain ⟨r, hR⟩ : ∃ r, cmpI (val B9 xs) (val B9 ys) = r := ⟨_, rfl⟩
  obtain ⟨q, hQ⟩ : ∃ q, nd (val B9 xs) = q := ⟨_, rfl⟩
  have HR := hide hR
  have HQ := hide hQ
  clear hx hy hR hQ
  go_enter Tryd.func3, Tryd.ntmps3
  go_wp2_with fail
  generalize hW : (w.alloc _).alloc _ = W
  obtain ⟨hbW, b0, b1, -⟩ := boxes2 hW
  clear hW
  have lt0 := b0.lt
  have lt1 := b1.lt
  have KS : Hid (∀ w', Below W.heap.size W w' → w'.cell? ⟨w.heap.size, 0, none⟩ = some (.slice A n c) ∧ w'.cell? ⟨w.heap.size + 1, 0, none⟩ = some (.slice A' m d)) := fun w' h => ⟨(b0.below h lt0).cell, (b1.below h lt1).cell⟩
  clear b0 lt0 b1 lt1
  have hrW := hr.below hbW
  have hr'W := hr'.below hbW
  have T0 := hT.below hbW
  clear hT hr hr'
  refine (awake_any _ T0).mono ?_
  rintro e w1 ⟨rfl, D1⟩
  obtain ⟨k1, k2⟩ := KS.out w1 D1
  go_wp2_with fail
  refine (few_yes A n c A' m d _ hN12 hM12).mono ?_
  rintro e w2 ⟨rfl, hx⟩
  have D2 := D1.trans (hx.mono D1.size)
  clear hx k1 k2
  obtain ⟨k1, k2⟩ := KS.out w2 D2
  have hs := hrW.below D2
  have hs' := hr'W.below D2
  have B2 := hbW.trans (D2.mono hbW.size)
  have KS2 : Hid (∀ w', Below w2.heap.size w2 w' → w'.cell? ⟨w.heap.size, 0, none⟩ = some (.slice A n c) ∧ w'.cell? ⟨w.heap.size + 1, 0, none⟩ = some (.slice A' m d)) := fun w' h => KS.out w' (D2.trans (h.mono D2.size))
  clear KS D1 D2 hrW hr'W hbW
  go_wp2_with fail
  go_region_held3 (fun w' => w'.cell? ⟨w.heap.size, 0, none⟩ = some (.slice A n c) ∧ w'.cell? ⟨w.heap.size + 1, 0, none⟩ = some (.slice A' m d))
    (first | exact KS2.out _ E15 | exact KS2.out _ E14 | exact KS2.out _ E13 | exact KS2.out _ E12 | exact KS2.out _ E11 | exact KS2.out _ E10 | exact KS2.out _ E9 | exact KS2.out _ E8 | exact KS2.out _ E7 | exact KS2.out _ E6 | exact KS2.out _ E5 | exact KS2.out _ E4 | exact KS2.out _ E3 | exact KS2.out _ ((Below.refl _ _).drew))
    (first
      | (go_at_call_of 16 (Value.slice A n c); (with_reducible refine (add_g A n c xs A' m d ys _ (hs.below ((Below.refl _ _).drew)) hn hc (by omega) HX.out (hs'.below ((Below.refl _ _).drew)) hm hd (by omega) HY.out (val B9 xs) (val B9 ys) _ rfl rfl rfl).mono ?_); rintro e w3 ⟨A3, n3, c3, rfl, h3, hn3, hc3, hx3⟩; have E3 : Below w2.heap.size w2 w3 := ((Below.refl _ _).drew).trans (hx3.mono (Nat.le_refl _)))
      | (go_at_call_of 17 (Value.slice A n c); (with_reducible refine (radd_any A n c xs A' m d ys _ (hs.below E3) hn hc (by omega) HX.out (hs'.below E3) hm hd (by omega) HY.out (val B9 xs) (val B9 ys) rfl rfl _ rfl).mono ?_); rintro e w4 ⟨A4, n4, c4, rfl, h4, hn4, hc4, hx4⟩; have E4 : Below w2.heap.size w2 w4 := E3.trans (hx4.mono E3.size))
      | (go_at_call_of 15 (Value.slice A3 n3 c3); (with_reducible refine (same_d A3 n3 c3 (val B9 xs + val B9 ys) A4 n4 c4 _ (h3.below hx4) (lenB h3 (addB HU.out HV.out) (by decide)) h4).mono ?_); rintro e w5 ⟨rfl, hx5⟩; have E5 : Below w2.heap.size w2 w5 := E4.trans (hx5.mono E4.size))
      | (go_at_call_of 18 (Value.slice A n c); (with_reducible refine (mul_g A n c xs A' m d ys _ (hs.below E5) hn hc (by omega) HX.out (hs'.below E5) hm hd (by omega) HY.out (val B9 xs) (val B9 ys) _ rfl rfl rfl).mono ?_); rintro e w6 ⟨A6, n6, c6, rfl, h6, hn6, hc6, hx6⟩; have E6 : Below w2.heap.size w2 w6 := E5.trans (hx6.mono E5.size))
      | (go_at_call_of 19 (Value.slice A n c); (with_reducible refine (rmul_any A n c xs A' m d ys _ (hs.below E6) hn hc (by omega) HX.out (hs'.below E6) hm hd (by omega) HY.out (val B9 xs) (val B9 ys) rfl rfl _ rfl).mono ?_); rintro e w7 ⟨A7, n7, c7, rfl, h7, hn7, hc7, hx7⟩; have E7 : Below w2.heap.size w2 w7 := E6.trans (hx7.mono E6.size))
      | (go_at_call_of 15 (Value.slice A6 n6 c6); (with_reducible refine (same_d A6 n6 c6 (val B9 xs * val B9 ys) A7 n7 c7 _ (h6.below hx7) (lenB h6 (mulB HU.out HV.out) (by decide)) h7).mono ?_); rintro e w8 ⟨rfl, hx8⟩; have E8 : Below w2.heap.size w2 w8 := E7.trans (hx8.mono E7.size))
      | (go_at_call_of 20 (Value.slice A n c); (with_reducible refine (cmp_g A n c xs A' m d ys _ (hs.below E8) hn hc (by omega) HX.out (hs'.below E8) hm hd (by omega) HY.out (val B9 xs) (val B9 ys) rfl rfl r HR.out).mono ?_); rintro e w9 ⟨rfl, hx9⟩; have E9 : Below w2.heap.size w2 w9 := E8.trans (hx9.mono E8.size))
      | (go_at_call_of 21 (Value.slice A n c); (with_reducible refine (rcmp_any A n c xs A' m d ys _ (hs.below E9) hn hc (by omega) HX.out (hs'.below E9) hm hd (by omega) HY.out (val B9 xs) (val B9 ys) rfl rfl r HR.out).mono ?_); rintro e w10 ⟨rfl, hx10⟩; have E10 : Below w2.heap.size w2 w10 := E9.trans (hx10.mono E9.size))
      | (go_at_call_of 22 (Value.slice A n c); (with_reducible refine (norm_g A n c xs _ (hs.below E10) hn hc (by omega) HX.out (val B9 xs) rfl).mono ?_); rintro e w11 ⟨A11, n11, c11, rfl, h11, hn11, hc11, hx11⟩; have E11 : Below w2.heap.size w2 w11 := E10.trans (hx11.mono E10.size))
      | (go_at_call_of 23 (Value.slice A n c); (with_reducible refine (rnorm_any A n c xs _ (hs.below E11) hn hc (by omega) HX.out (val B9 xs) rfl).mono ?_); rintro e w12 ⟨A12, n12, c12, rfl, h12, hn12, hc12, hx12⟩; have E12 : Below w2.heap.size w2 w12 := E11.trans (hx12.mono E11.size))
      | (go_at_call_of 15 (Value.slice A11 n11 c11); (with_reducible refine (same_d A11 n11 c11 (val B9 xs) A12 n12 c12 _ (h11.below hx12) (lenB h11 HU.out (by decide)) h12).mono ?_); rintro e w13 ⟨rfl, hx13⟩; have E13 : Below w2.heap.size w2 w13 := E12.trans (hx13.mono E12.size))
      | (go_at_call_of 24 (Value.slice A n c); (with_reducible refine (digits_g A n c xs _ (hs.below E13) hn hc (by omega) HX.out (val B9 xs) rfl q HQ.out).mono ?_); rintro e w14 ⟨rfl, hx14⟩; have E14 : Below w2.heap.size w2 w14 := E13.trans (hx14.mono E13.size))
      | (go_at_call_of 25 (Value.slice A n c); (with_reducible refine (rdigits_any A n c xs _ (hs.below E14) hn hc (by omega) HX.out (val B9 xs) rfl q HQ.out).mono ?_); rintro e w15 ⟨rfl, hx15⟩; have E15 : Below w2.heap.size w2 w15 := E14.trans (hx15.mono E14.size)))
  have B := B2.trans (E15.mono B2.size)
  clear E3 E4 E5 E6 E7 E8 E9 E10 E11 E12 E13 E14 E15 hx3 hx4 hx5 hx6 hx7 hx8 hx9 hx10 hx11 hx12 hx13 hx14 hx15 B2 KS2 h3 h4 h6 h7 h11 h12
  go_wp2
  go_ret
  exact ⟨rfl, B⟩
set_option maxHeartbeats 4000000 in
set_option maxRecDepth 100000 in
theorem matches_no (A : Option Addr) (n c : Nat) (A' : Option Addr) (m d : Nat) (w : World) (hT : Tab w) (h : ¬(n ≤ 12 ∧ m ≤ 12)) :
    Calls Tryd.prog 3 #[.agg #[.slice A n c], .agg #[.slice A' m d]] w fun e w' => e = .returned (.bool true) ∧ Below w.heap.size w w' := by
  have HH := hide h
  clear h
  go_enter Tryd.func3, Tryd.ntmps3
  go_wp2_with fail
  generalize hW : (w.alloc _).alloc _ = W
  obtain ⟨hbW, b0, b1, -⟩ := boxes2 hW
  clear hW
  have lt0 := b0.lt
  have lt1 := b1.lt
  have KS : Hid (∀ w', Below W.heap.size W w' → w'.cell? ⟨w.heap.size, 0, none⟩ = some (.slice A n c) ∧ w'.cell? ⟨w.heap.size + 1, 0, none⟩ = some (.slice A' m d)) := fun w' h => ⟨(b0.below h lt0).cell, (b1.below h lt1).cell⟩
  clear b0 lt0 b1 lt1
  have T0 := hT.below hbW
  refine (awake_any _ T0).mono ?_
  rintro e w1 ⟨rfl, D1⟩
  have T1 := T0.below D1
  obtain ⟨k1, k2⟩ := KS.out w1 D1
  go_wp2_with fail
  refine (few_no A n c A' m d _ HH.out).mono ?_
  rintro e w2 ⟨rfl, hx⟩
  have D2 := D1.trans (hx.mono D1.size)
  have T2 := T1.below hx
  clear hx k1 k2
  go_wp2_with fail
  refine (awake_any _ T2).mono ?_
  rintro e w4 ⟨rfl, hx⟩
  have D4 := D2.trans (hx.mono D2.size)
  clear hx
  go_wp2
  have B := hbW.trans (D4.mono hbW.size)
  go_ret
  exact ⟨rfl, B⟩
end Go.Proofs.YthkgiobemfnpmaaDoor
