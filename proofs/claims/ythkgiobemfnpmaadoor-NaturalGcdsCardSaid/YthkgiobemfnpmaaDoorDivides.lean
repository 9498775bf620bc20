/- The law of division: the walk. -/
import Derived.Test.YthkgiobemfnpmaaDoorRing
import Derived.Test.YthkgiobemfnpmaaDoorRNorm
import Derived.Test.YthkgiobemfnpmaaDoorBox
namespace Go.Proofs.YthkgiobemfnpmaaDoor
open Go Go.RowKit

theorem of_zero (w : World) : Calls Tryd.prog 29 #[.int .u64 0] w (GivesN 0 w) := of_any 0 w (by omega)
theorem of_one (w : World) : Calls Tryd.prog 29 #[.int .u64 1] w (GivesN 1 w) := of_any 1 w (by omega)
section
variable (A : Option Addr) (n c : Nat) (xs : List Nat) (A' : Option Addr) (m d : Nat) (ys : List Nat) (w : World) (hr : RL w .u32 A n xs) (hn : n ≤ c) (hc : c ≤ maxLen) (hN : n ≤ 900000) (hx : ∀ x ∈ xs, x < 4294967296)
    (hr' : RL w .u32 A' m ys) (hm : m ≤ d) (hd : d ≤ maxLen) (hM : m ≤ 900000) (hy : ∀ x ∈ ys, x < 4294967296)
include hr hn hc hN hx hr' hm hd hM hy
theorem divMod_z (hv : val B9 ys = 0) : Calls Tryd.prog 28 #[.agg #[.slice A n c], .agg #[.slice A' m d]] w (GivesDM 0 0 12 w) :=
  (divMod_any A n c xs A' m d ys w hr hn hc hN hx hr' hm hd hM hy).mono fun _ _ h => h.2 hv
theorem divMod_nz (hv : val B9 ys ≠ 0) : Calls Tryd.prog 28 #[.agg #[.slice A n c], .agg #[.slice A' m d]] w (GivesDM (val B9 xs / val B9 ys) (val B9 xs % val B9 ys) 0 w) :=
  (divMod_any A n c xs A' m d ys w hr hn hc hN hx hr' hm hd hM hy).mono fun _ _ h => h.1 hv
theorem cmp_g (u v : Nat) (hu : val B9 xs = u) (hv : val B9 ys = v) (r : Int) (h : cmpI u v = r) : Calls Tryd.prog 20 #[.agg #[.slice A n c], .agg #[.slice A' m d]] w fun e w' => e = .returned (.int .i64 r) ∧ Below w.heap.size w w' := by
  have := cmp_any A n c xs A' m d ys w hr hn hc hN hx hr' hm hd hM hy
  rw [hu, hv, h] at this
  exact this
theorem mul_g (u v T : Nat) (hu : val B9 xs = u) (hv : val B9 ys = v) (h : u * v = T) : Calls Tryd.prog 18 #[.agg #[.slice A n c], .agg #[.slice A' m d]] w (GivesN T w) :=
  mul_any A n c xs A' m d ys w hr hn hc hN hx hr' hm hd hM hy T (by rw [hu, hv, h])
theorem add_g (u v T : Nat) (hu : val B9 xs = u) (hv : val B9 ys = v) (h : u + v = T) : Calls Tryd.prog 16 #[.agg #[.slice A n c], .agg #[.slice A' m d]] w (GivesN T w) :=
  add_any A n c xs A' m d ys w hr hn hc hN hx hr' hm hd hM hy T (by rw [hu, hv, h])
end
theorem vd (v : Nat) : val B9 (dig B9 v) = v := val_dig B9 (by decide) v
theorem rnorm_d (A : Option Addr) (n c u : Nat) (w : World) (hr : RL w .u32 A n (dig B9 u)) (hn : n ≤ c) (hc : c ≤ maxLen) (hN : n ≤ 900000) : Calls Tryd.prog 23 #[.agg #[.slice A n c]] w (GivesN u w) :=
  rnorm_any A n c _ w hr hn hc hN (dig_u32 u) u (vd u)
theorem lenB1 {w : World} {A : Option Addr} {n u k : Nat} (h : RL w .u32 A n (dig B9 u)) (hu : u < B9 ^ k) : n ≤ k := len_le h.len hu
theorem cmp_pos {v : Nat} (h : v ≠ 0) : cmpI v 0 = 1 := cmpI_gt (Nat.pos_of_ne_zero h)
theorem cmp_refl (v : Nat) : cmpI v v = 0 := cmpI_eq rfl

set_option maxHeartbeats 4000000 in
set_option maxRecDepth 100000 in
theorem dividesZ (A : Option Addr) (n c : Nat) (xs : List Nat) (A' : Option Addr) (m d : Nat) (ys : List Nat) (w : World)
    (hr : RL w .u32 A n xs) (hn : n ≤ c) (hc : c ≤ maxLen) (hx : ∀ x ∈ xs, x < 4294967296) (hr' : RL w .u32 A' m ys) (hm : m ≤ d) (hd : d ≤ maxLen) (hy : ∀ x ∈ ys, x < 4294967296) (hT : Tab w) (hN12 : n ≤ 12) (hM12 : m ≤ 12) (hv0 : val B9 ys = 0) :
    Calls Tryd.prog 5 #[.agg #[.slice A n c], .agg #[.slice A' m d]] w fun e w' => e = .returned (.bool true) ∧ Below w.heap.size w w' := by
  have HX := hide hx
  have HY := hide hy
  have HU := hide (valB hr hN12 hx)
  have HV := hide (valB hr' hM12 hy)
  have HV0 := hide hv0
  clear hx hy hv0
  go_enter Tryd.func5, Tryd.ntmps5
  go_wp2_with fail
  generalize hW : (w.alloc _).alloc _ = W
  obtain ⟨hbW, b0, b1, -⟩ := boxes2 hW
  clear hW
  have lt0 := b0.lt
  have lt1 := b1.lt
  have KS : Hid (∀ w', Below W.heap.size W w' → w'.cell? ⟨w.heap.size, 0, none⟩ = some (.slice A n c) ∧ w'.cell? ⟨w.heap.size + 1, 0, none⟩ = some (.slice A' m d)) := fun w' h => ⟨(b0.below h lt0).cell, (b1.below h lt1).cell⟩
  clear b0 lt0 b1 lt1
  have hrW := hr.below hbW
  have hr'W := hr'.below hbW
  have T0 := hT.below hbW
  clear hT hr hr'
  refine (awake_any _ T0).mono ?_
  rintro e w1 ⟨rfl, D1⟩
  obtain ⟨k1, k2⟩ := KS.out w1 D1
  go_wp2_with fail
  refine (few_yes A n c A' m d _ hN12 hM12).mono ?_
  rintro e w2 ⟨rfl, hx⟩
  have D2 := D1.trans (hx.mono D1.size)
  clear hx k1 k2
  obtain ⟨k1, k2⟩ := KS.out w2 D2
  go_wp2_with fail
  refine (divMod_z A n c xs A' m d ys _ (hrW.below D2) hn hc (by omega) HX.out (hr'W.below D2) hm hd (by omega) HY.out HV0.out).mono ?_
  rintro e w3 ⟨Aq, nq, cq, Ar, nr, cr, rfl, hq, hnq, hcq, hp, hnp, hcp, hx⟩
  have D3 := D2.trans (hx.mono D2.size)
  clear hx k1 k2 D1 D2
  obtain rfl : nq = 0 := hq.len.symm
  obtain rfl : nr = 0 := hp.len.symm
  go_wp2_with fail
  generalize hW : (w3.alloc _).alloc _ = W2
  obtain ⟨hb2, bq, br, -⟩ := boxes2 hW
  clear hW
  have ltq := bq.lt
  have ltr := br.lt
  have D5 := D3.trans (hb2.mono D3.size)
  have hq := hq.below hb2
  have hp := hp.below hb2
  have hs := hrW.below D5
  have hs' := hr'W.below D5
  have KS2 : Hid (∀ w', Below W2.heap.size W2 w' → w'.cell? ⟨w.heap.size, 0, none⟩ = some (.slice A n c) ∧ w'.cell? ⟨w.heap.size + 1, 0, none⟩ = some (.slice A' m d) ∧ w'.cell? ⟨w3.heap.size, 0, none⟩ = some (.slice Aq 0 cq) ∧ w'.cell? ⟨w3.heap.size + 1, 0, none⟩ = some (.slice Ar 0 cr)) := fun w' h => by
    obtain ⟨q1, q2⟩ := KS.out w' (D5.trans (h.mono D5.size))
    exact ⟨q1, q2, (bq.below h ltq).cell, (br.below h ltr).cell⟩
  clear hb2 bq br ltq ltr hrW hr'W KS D3
  go_region_held3 (fun w' => w'.cell? ⟨w.heap.size, 0, none⟩ = some (.slice A n c) ∧ w'.cell? ⟨w.heap.size + 1, 0, none⟩ = some (.slice A' m d) ∧ w'.cell? ⟨w3.heap.size, 0, none⟩ = some (.slice Aq 0 cq) ∧ w'.cell? ⟨w3.heap.size + 1, 0, none⟩ = some (.slice Ar 0 cr))
    (first | exact KS2.out _ E6 | exact KS2.out _ E5 | exact KS2.out _ ((Below.refl _ _).drew))
    (first
      | (go_at_call_of 29 (Value.int .u64 0); (with_reducible refine (of_zero _).mono ?_); rintro e w5 ⟨A5, n5, c5, rfl, h5, hn5, hc5, hx5⟩; have E5 : Below W2.heap.size W2 w5 := ((Below.refl _ _).drew).trans (hx5.mono (Nat.le_refl _)))
      | (go_at_call_of 20 (Value.slice A' m d); (with_reducible refine (cmp_g A' m d ys A5 n5 c5 (dig B9 0) _ (hs'.below E5) hm hd (by omega) HY.out h5 hn5 hc5 (lenN h5 (by decide)) (dig_u32 0) 0 0 HV0.out (vd 0) 0 (by decide)).mono ?_); rintro e w6 ⟨rfl, hx6⟩; have E6 : Below W2.heap.size W2 w6 := E5.trans (hx6.mono E5.size)))
  obtain ⟨k1, k2, k3, k4⟩ := KS2.out _ E6
  have B := hbW.trans ((D5.trans (E6.mono D5.size)).mono hbW.size)
  clear E5 E6 hx5 hx6 D5 hbW KS2 h5 hq hp hs hs'
  go_wp2
  go_ret
  exact ⟨rfl, B⟩
set_option maxHeartbeats 4000000 in
set_option maxRecDepth 100000 in
theorem dividesN (A : Option Addr) (n c : Nat) (xs : List Nat) (A' : Option Addr) (m d : Nat) (ys : List Nat) (w : World)
    (hr : RL w .u32 A n xs) (hn : n ≤ c) (hc : c ≤ maxLen) (hx : ∀ x ∈ xs, x < 4294967296) (hr' : RL w .u32 A' m ys) (hm : m ≤ d) (hd : d ≤ maxLen) (hy : ∀ x ∈ ys, x < 4294967296) (hT : Tab w) (hN12 : n ≤ 12) (hM12 : m ≤ 12) (hv0 : val B9 ys ≠ 0) :
    Calls Tryd.prog 5 #[.agg #[.slice A n c], .agg #[.slice A' m d]] w fun e w' => e = .returned (.bool true) ∧ Below w.heap.size w w' := by
  have HX := hide hx
  have HY := hide hy
  have HU := hide (valB hr hN12 hx)
  have HV := hide (valB hr' hM12 hy)
  have HV0 := hide hv0
  clear hx hy hv0
  go_enter Tryd.func5, Tryd.ntmps5
  go_wp2_with fail
  generalize hW : (w.alloc _).alloc _ = W
  obtain ⟨hbW, b0, b1, -⟩ := boxes2 hW
  clear hW
  have lt0 := b0.lt
  have lt1 := b1.lt
  have KS : Hid (∀ w', Below W.heap.size W w' → w'.cell? ⟨w.heap.size, 0, none⟩ = some (.slice A n c) ∧ w'.cell? ⟨w.heap.size + 1, 0, none⟩ = some (.slice A' m d)) := fun w' h => ⟨(b0.below h lt0).cell, (b1.below h lt1).cell⟩
  clear b0 lt0 b1 lt1
  have hrW := hr.below hbW
  have hr'W := hr'.below hbW
  have T0 := hT.below hbW
  clear hT hr hr'
  refine (awake_any _ T0).mono ?_
  rintro e w1 ⟨rfl, D1⟩
  obtain ⟨k1, k2⟩ := KS.out w1 D1
  go_wp2_with fail
  refine (few_yes A n c A' m d _ hN12 hM12).mono ?_
  rintro e w2 ⟨rfl, hx⟩
  have D2 := D1.trans (hx.mono D1.size)
  clear hx k1 k2
  obtain ⟨k1, k2⟩ := KS.out w2 D2
  go_wp2_with fail
  refine (divMod_nz A n c xs A' m d ys _ (hrW.below D2) hn hc (by omega) HX.out (hr'W.below D2) hm hd (by omega) HY.out HV0.out).mono ?_
  rintro e w3 ⟨Aq, nq, cq, Ar, nr, cr, rfl, hq, hnq, hcq, hp, hnp, hcp, hx⟩
  have D3 := D2.trans (hx.mono D2.size)
  clear hx k1 k2 D1 D2
  have hQ := hide (show val B9 xs / val B9 ys < B9 ^ 13 from Nat.lt_of_le_of_lt (Nat.div_le_self _ _) HU.out)
  have hR := hide (show val B9 xs % val B9 ys < B9 ^ 13 from Nat.lt_of_le_of_lt (Nat.mod_le _ _) HU.out)
  have lq := lenB1 hq hQ.out
  have lr := lenB1 hp hR.out
  have HDM := hide (show val B9 xs / val B9 ys * val B9 ys + val B9 xs % val B9 ys = val B9 xs from by rw [Nat.mul_comm]; exact Nat.div_add_mod _ _)
  have HRL := hide (show cmpI (val B9 xs % val B9 ys) (val B9 ys) = -1 from cmpI_lt (Nat.mod_lt _ (Nat.pos_of_ne_zero HV0.out)))
  generalize val B9 xs / val B9 ys = Q at *
  generalize val B9 xs % val B9 ys = R at *
  go_wp2_with fail
  generalize hW : (w3.alloc _).alloc _ = W2
  obtain ⟨hb2, bq, br, -⟩ := boxes2 hW
  clear hW
  have ltq := bq.lt
  have ltr := br.lt
  have D5 := D3.trans (hb2.mono D3.size)
  have hq := hq.below hb2
  have hp := hp.below hb2
  have hs := hrW.below D5
  have hs' := hr'W.below D5
  have KS2 : Hid (∀ w', Below W2.heap.size W2 w' → w'.cell? ⟨w.heap.size, 0, none⟩ = some (.slice A n c) ∧ w'.cell? ⟨w.heap.size + 1, 0, none⟩ = some (.slice A' m d) ∧ w'.cell? ⟨w3.heap.size, 0, none⟩ = some (.slice Aq nq cq) ∧ w'.cell? ⟨w3.heap.size + 1, 0, none⟩ = some (.slice Ar nr cr)) := fun w' h => by
    obtain ⟨q1, q2⟩ := KS.out w' (D5.trans (h.mono D5.size))
    exact ⟨q1, q2, (bq.below h ltq).cell, (br.below h ltr).cell⟩
  clear hb2 bq br ltq ltr hrW hr'W KS D3
  go_region_held3 (fun w' => w'.cell? ⟨w.heap.size, 0, none⟩ = some (.slice A n c) ∧ w'.cell? ⟨w.heap.size + 1, 0, none⟩ = some (.slice A' m d) ∧ w'.cell? ⟨w3.heap.size, 0, none⟩ = some (.slice Aq nq cq) ∧ w'.cell? ⟨w3.heap.size + 1, 0, none⟩ = some (.slice Ar nr cr))
    (first | exact KS2.out _ E6 | exact KS2.out _ E5 | exact KS2.out _ ((Below.refl _ _).drew))
    (first
      | (go_at_call_of 29 (Value.int .u64 0); (with_reducible refine (of_zero _).mono ?_); rintro e w5 ⟨A5, n5, c5, rfl, h5, hn5, hc5, hx5⟩; have E5 : Below W2.heap.size W2 w5 := ((Below.refl _ _).drew).trans (hx5.mono (Nat.le_refl _)))
      | (go_at_call_of 20 (Value.slice A' m d); (with_reducible refine (cmp_g A' m d ys A5 n5 c5 (dig B9 0) _ (hs'.below E5) hm hd (by omega) HY.out h5 hn5 hc5 (lenN h5 (by decide)) (dig_u32 0) (val B9 ys) 0 rfl (vd 0) 1 (cmp_pos HV0.out)).mono ?_); rintro e w6 ⟨rfl, hx6⟩; have E6 : Below W2.heap.size W2 w6 := E5.trans (hx6.mono E5.size)))
  have hq := hq.below E6
  have hp := hp.below E6
  have hs := hs.below E6
  have hs' := hs'.below E6
  have B6 := hbW.trans ((D5.trans (E6.mono D5.size)).mono hbW.size)
  have KS3 : Hid (∀ w', Below w6.heap.size w6 w' → w'.cell? ⟨w.heap.size, 0, none⟩ = some (.slice A n c) ∧ w'.cell? ⟨w.heap.size + 1, 0, none⟩ = some (.slice A' m d) ∧ w'.cell? ⟨w3.heap.size, 0, none⟩ = some (.slice Aq nq cq) ∧ w'.cell? ⟨w3.heap.size + 1, 0, none⟩ = some (.slice Ar nr cr)) := fun w' h => KS2.out w' (E6.trans (h.mono E6.size))
  clear E5 E6 hx5 hx6 D5 hbW KS2 h5
  go_wp2_with fail
  go_region_held3 (fun w' => w'.cell? ⟨w.heap.size, 0, none⟩ = some (.slice A n c) ∧ w'.cell? ⟨w.heap.size + 1, 0, none⟩ = some (.slice A' m d) ∧ w'.cell? ⟨w3.heap.size, 0, none⟩ = some (.slice Aq nq cq) ∧ w'.cell? ⟨w3.heap.size + 1, 0, none⟩ = some (.slice Ar nr cr))
    (first | exact KS3.out _ E14 | exact KS3.out _ E13 | exact KS3.out _ E12 | exact KS3.out _ E11 | exact KS3.out _ E10 | exact KS3.out _ E9 | exact KS3.out _ E8 | exact KS3.out _ E7 | exact KS3.out _ ((Below.refl _ _).drew))
    (first
      | (go_at_call_of 18 (Value.slice Aq nq cq); (with_reducible refine (mul_g Aq nq cq (dig B9 Q) A' m d ys _ (hq.below ((Below.refl _ _).drew)) hnq hcq (by omega) (dig_u32 Q) (hs'.below ((Below.refl _ _).drew)) hm hd (by omega) HY.out Q (val B9 ys) _ (vd Q) rfl rfl).mono ?_); rintro e w7 ⟨A7, n7, c7, rfl, h7, hn7, hc7, hx7⟩; have E7 : Below w6.heap.size w6 w7 := ((Below.refl _ _).drew).trans (hx7.mono (Nat.le_refl _)))
      | (go_at_call_of 16 (Value.slice A7 n7 c7); (with_reducible refine (add_g A7 n7 c7 (dig B9 (Q * val B9 ys)) Ar nr cr (dig B9 R) _ h7 hn7 hc7 (lenB h7 (mulB hQ.out HV.out) (by decide)) (dig_u32 _) (hp.below E7) hnp hcp (by omega) (dig_u32 R) _ R (val B9 xs) (vd _) (vd R) HDM.out).mono ?_); rintro e w8 ⟨A8, n8, c8, rfl, h8, hn8, hc8, hx8⟩; have E8 : Below w6.heap.size w6 w8 := E7.trans (hx8.mono E7.size))
      | (go_at_call_of 20 (Value.slice A8 n8 c8); (with_reducible refine (cmp_g A8 n8 c8 (dig B9 (val B9 xs)) A n c xs _ h8 hn8 hc8 (lenB h8 HU.out (by decide)) (dig_u32 _) (hs.below E8) hn hc (by omega) HX.out (val B9 xs) (val B9 xs) (vd _) rfl 0 (cmp_refl _)).mono ?_); rintro e w9 ⟨rfl, hx9⟩; have E9 : Below w6.heap.size w6 w9 := E8.trans (hx9.mono E8.size))
      | (go_at_call_of 20 (Value.slice Ar nr cr); (with_reducible refine (cmp_g Ar nr cr (dig B9 R) A' m d ys _ (hp.below E9) hnp hcp (by omega) (dig_u32 R) (hs'.below E9) hm hd (by omega) HY.out R (val B9 ys) (vd R) rfl (-1) HRL.out).mono ?_); rintro e w10 ⟨rfl, hx10⟩; have E10 : Below w6.heap.size w6 w10 := E9.trans (hx10.mono E9.size))
      | (go_at_call_of 23 (Value.slice Aq nq cq); (with_reducible refine (rnorm_d Aq nq cq Q _ (hq.below E10) hnq hcq (by omega)).mono ?_); rintro e w11 ⟨A11, n11, c11, rfl, h11, hn11, hc11, hx11⟩; have E11 : Below w6.heap.size w6 w11 := E10.trans (hx11.mono E10.size))
      | (go_at_call_of 15 (Value.slice Aq nq cq); (with_reducible refine (same_d Aq nq cq Q A11 n11 c11 _ (hq.below E11) (by omega) h11).mono ?_); rintro e w12 ⟨rfl, hx12⟩; have E12 : Below w6.heap.size w6 w12 := E11.trans (hx12.mono E11.size))
      | (go_at_call_of 23 (Value.slice Ar nr cr); (with_reducible refine (rnorm_d Ar nr cr R _ (hp.below E12) hnp hcp (by omega)).mono ?_); rintro e w13 ⟨A13, n13, c13, rfl, h13, hn13, hc13, hx13⟩; have E13 : Below w6.heap.size w6 w13 := E12.trans (hx13.mono E12.size))
      | (go_at_call_of 15 (Value.slice Ar nr cr); (with_reducible refine (same_d Ar nr cr R A13 n13 c13 _ (hp.below E13) (by omega) h13).mono ?_); rintro e w14 ⟨rfl, hx14⟩; have E14 : Below w6.heap.size w6 w14 := E13.trans (hx14.mono E13.size)))
  have B := B6.trans (E14.mono B6.size)
  clear E7 E8 E9 E10 E11 E12 E13 E14 hx7 hx8 hx9 hx10 hx11 hx12 hx13 hx14 B6 KS3
  go_wp2
  go_ret
  exact ⟨rfl, B⟩
set_option maxHeartbeats 4000000 in
set_option maxRecDepth 100000 in
theorem divides_no (A : Option Addr) (n c : Nat) (A' : Option Addr) (m d : Nat) (w : World) (hT : Tab w) (h : ¬(n ≤ 12 ∧ m ≤ 12)) :
    Calls Tryd.prog 5 #[.agg #[.slice A n c], .agg #[.slice A' m d]] w fun e w' => e = .returned (.bool true) ∧ Below w.heap.size w w' := by
  have HH := hide h
  clear h
  go_enter Tryd.func5, Tryd.ntmps5
  go_wp2_with fail
  generalize hW : (w.alloc _).alloc _ = W
  obtain ⟨hbW, b0, b1, -⟩ := boxes2 hW
  clear hW
  have lt0 := b0.lt
  have lt1 := b1.lt
  have KS : Hid (∀ w', Below W.heap.size W w' → w'.cell? ⟨w.heap.size, 0, none⟩ = some (.slice A n c) ∧ w'.cell? ⟨w.heap.size + 1, 0, none⟩ = some (.slice A' m d)) := fun w' h => ⟨(b0.below h lt0).cell, (b1.below h lt1).cell⟩
  clear b0 lt0 b1 lt1
  have T0 := hT.below hbW
  refine (awake_any _ T0).mono ?_
  rintro e w1 ⟨rfl, D1⟩
  have T1 := T0.below D1
  obtain ⟨k1, k2⟩ := KS.out w1 D1
  go_wp2_with fail
  refine (few_no A n c A' m d _ HH.out).mono ?_
  rintro e w2 ⟨rfl, hx⟩
  have D2 := D1.trans (hx.mono D1.size)
  have T2 := T1.below hx
  clear hx k1 k2
  go_wp2_with fail
  refine (awake_any _ T2).mono ?_
  rintro e w4 ⟨rfl, hx⟩
  have D4 := D2.trans (hx.mono D2.size)
  clear hx
  go_wp2
  have B := hbW.trans (D4.mono hbW.size)
  go_ret
  exact ⟨rfl, B⟩
end Go.Proofs.YthkgiobemfnpmaaDoor
