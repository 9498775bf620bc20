/- The laws of sums and products: the walk. -/
import Derived.Test.YthkgiobemfnpmaaDoorAwake
import Derived.Deep.RegionHeld3
namespace Go.Proofs.YthkgiobemfnpmaaDoor
open Go Go.RowKit

theorem mulB {x y i j : Nat} (hx : x < B9 ^ i) (hy : y < B9 ^ j) : x * y < B9 ^ (i + j) := by
  rw [Nat.pow_add]; exact Nat.mul_lt_mul'' hx hy
theorem addB {x y i : Nat} (hx : x < B9 ^ i) (hy : y < B9 ^ i) : x + y < B9 ^ (i + 1) := by
  have h : B9 ^ (i + 1) = B9 ^ i * 1000000000 := by rw [Nat.pow_succ]
  omega
theorem upB {x i j : Nat} (hx : x < B9 ^ i) (h : i ≤ j) : x < B9 ^ j := Nat.lt_of_lt_of_le hx (Nat.pow_le_pow_right (by decide) h)
theorem lenB {w : World} {A : Option Addr} {n u k : Nat} (h : RL w .u32 A n (dig B9 u)) (hu : u < B9 ^ k) (hk : k ≤ 900000) : n ≤ 900000 := by
  have : n ≤ k := len_le h.len hu
  omega
theorem valB {w : World} {A : Option Addr} {n : Nat} {xs : List Nat} (h : RL w .u32 A n xs) (hn : n ≤ 12) (hx : ∀ x ∈ xs, x < 4294967296) : val B9 xs < B9 ^ 13 := by
  have h2 : (dig B9 (val B9 xs)).length ≤ n + 1 := dig_len_u32 rfl h.len hx
  exact (dig_length_le B9 (by decide) 13 _).1 (by omega)
theorem same_d (A : Option Addr) (n c u : Nat) (A' : Option Addr) (n' d : Nat) (w : World) (hr : RL w .u32 A n (dig B9 u)) (hN : n ≤ 900000) (hr' : RL w .u32 A' n' (dig B9 u)) :
    Calls Tryd.prog 15 #[.agg #[.slice A n c], .agg #[.slice A' n' d]] w fun e w' => e = .returned (.bool true) ∧ Below w.heap.size w w' := by
  obtain rfl : n' = n := hr'.len.symm.trans hr.len
  exact same_any A n' c _ A' d w hr (by unfold maxLen; omega) hr'

set_option maxHeartbeats 4000000 in
set_option maxRecDepth 100000 in
theorem ring_any (A : Option Addr) (n c : Nat) (xs : List Nat) (A' : Option Addr) (m d : Nat) (ys : List Nat) (A'' : Option Addr) (l b : Nat) (zs : List Nat) (w : World)
    (hr : RL w .u32 A n xs) (hn : n ≤ c) (hc : c ≤ maxLen) (hx : ∀ x ∈ xs, x < 4294967296) (hr' : RL w .u32 A' m ys) (hm : m ≤ d) (hd : d ≤ maxLen) (hy : ∀ x ∈ ys, x < 4294967296)
    (hr'' : RL w .u32 A'' l zs) (hl : l ≤ b) (hb : b ≤ maxLen) (hz : ∀ x ∈ zs, x < 4294967296) (hT : Tab w) (hN : n ≤ 12) (hM : m ≤ 12) (hL : l ≤ 12) :
    Calls Tryd.prog 8 #[.agg #[.slice A n c], .agg #[.slice A' m d], .agg #[.slice A'' l b]] w fun e w' => e = .returned (.bool true) ∧ Below w.heap.size w w' := by
  have HX := hide hx
  have HY := hide hy
  have HZ := hide hz
  have HU := hide (valB hr hN hx)
  have HV := hide (valB hr' hM hy)
  have HT := hide (valB hr'' hL hz)
  clear hx hy hz
  go_enter Tryd.func8, Tryd.ntmps8
  go_wp2_with fail
  generalize hW : ((w.alloc _).alloc _).alloc _ = W
  obtain ⟨hbW, e1, e2, e3, -⟩ := box3e hW
  clear hW
  have hsz : w.heap.size + 2 < W.heap.size := by
    rcases Nat.lt_or_ge (w.heap.size + 2) W.heap.size with h | h
    · exact h
    · rw [Array.getElem?_eq_none h] at e3; cases e3
  have KS : Hid (∀ w', Below W.heap.size W w' → w'.cell? ⟨w.heap.size, 0, none⟩ = some (.slice A n c) ∧ w'.cell? ⟨w.heap.size + 1, 0, none⟩ = some (.slice A' m d) ∧ w'.cell? ⟨w.heap.size + 2, 0, none⟩ = some (.slice A'' l b)) :=
    fun w' h => ⟨(h.cell (p := ⟨w.heap.size, 0, none⟩) (by simp; omega)).trans e1, (h.cell (p := ⟨w.heap.size + 1, 0, none⟩) (by simp; omega)).trans e2, (h.cell (p := ⟨w.heap.size + 2, 0, none⟩) hsz).trans (by rw [cell_of_row _ _ _ _ _ _ e3]; rfl)⟩
  have hrW := hr.below hbW
  have hrW' := hr'.below hbW
  have hrW'' := hr''.below hbW
  clear e1 e2 e3 hr hr' hr''
  refine (awake_any _ (hT.below hbW)).mono ?_
  rintro e w1 ⟨rfl, D1⟩
  obtain ⟨k1, k2, k3⟩ := KS.out w1 D1
  go_wp2_with fail
  refine (few_yes A n c A' m d _ hN hM).mono ?_
  rintro e w2 ⟨rfl, hx⟩
  have D2 := D1.trans (hx.mono D1.size)
  clear hx k1 k2 k3
  obtain ⟨k1, k2, k3⟩ := KS.out w2 D2
  go_wp2_with fail
  refine (few_yes A'' l b A'' l b _ hL hL).mono ?_
  rintro e w3 ⟨rfl, hx⟩
  have D3 := D2.trans (hx.mono D2.size)
  clear hx k1 k2 k3
  obtain ⟨k1, k2, k3⟩ := KS.out w3 D3
  go_wp2_with fail
  refine (mul_any A n c xs A' m d ys _ (hrW.below D3) hn hc (by omega) HX.out (hrW'.below D3) hm hd (by omega) HY.out _ rfl).mono ?_
  rintro e w4 ⟨Ap, np, cp, rfl, hp, hnp, hcp, hx⟩
  have D4 := D3.trans (hx.mono D3.size)
  clear hx k1 k2 k3 D1 D2 D3
  go_wp2_with fail
  generalize hW2 : w4.alloc _ = W2
  obtain ⟨hb2, e1, e2⟩ := box1e hW2
  clear hW2
  have D5 := D4.trans (hb2.mono D4.size)
  have hp := hp.below hb2
  have hs := hrW.below D5
  have hs' := hrW'.below D5
  have hs'' := hrW''.below D5
  have KS2 : Hid (∀ w', Below W2.heap.size W2 w' → w'.cell? ⟨w.heap.size, 0, none⟩ = some (.slice A n c) ∧ w'.cell? ⟨w.heap.size + 1, 0, none⟩ = some (.slice A' m d) ∧ w'.cell? ⟨w.heap.size + 2, 0, none⟩ = some (.slice A'' l b) ∧ w'.cell? ⟨w4.heap.size, 0, none⟩ = some (.slice Ap np cp)) :=
    fun w' h => by
      obtain ⟨q1, q2, q3⟩ := KS.out w' (D5.trans (h.mono D5.size))
      exact ⟨q1, q2, q3, (h.cell (p := ⟨w4.heap.size, 0, none⟩) (by simp; omega)).trans e1⟩
  clear hb2 e1 e2 hrW hrW' hrW'' KS D4
  go_region_held3 (fun w' => w'.cell? ⟨w.heap.size, 0, none⟩ = some (.slice A n c) ∧ w'.cell? ⟨w.heap.size + 1, 0, none⟩ = some (.slice A' m d) ∧ w'.cell? ⟨w.heap.size + 2, 0, none⟩ = some (.slice A'' l b) ∧ w'.cell? ⟨w4.heap.size, 0, none⟩ = some (.slice Ap np cp))
    (first | exact KS2.out _ E15 | exact KS2.out _ E14 | exact KS2.out _ E13 | exact KS2.out _ E12 | exact KS2.out _ E11 | exact KS2.out _ E10 | exact KS2.out _ E9 | exact KS2.out _ E8 | exact KS2.out _ E7 | exact KS2.out _ E6 | exact KS2.out _ E5 | exact KS2.out _ ((Below.refl _ _).drew))
    (first
      | (go_at_call_of 18 (Value.slice A' m d); (with_reducible refine (mul_any A' m d ys A n c xs _ (hs'.below ((Below.refl _ _).drew)) hm hd (by omega) HY.out (hs.below ((Below.refl _ _).drew)) hn hc (by omega) HX.out _ (Nat.mul_comm _ _)).mono ?_); rintro e w5 ⟨A5, n5, c5, rfl, h5, hn5, hc5, hx5⟩; have E5 : Below W2.heap.size W2 w5 := ((Below.refl _ _).drew).trans (hx5.mono (Nat.le_refl _)))
      | (go_at_call_of 15 (Value.slice Ap np cp); (with_reducible refine (same_d Ap np cp (val B9 xs * val B9 ys) A5 n5 c5 _ (hp.below E5) (lenB hp (mulB HU.out HV.out) (by decide)) h5).mono ?_); rintro e w6 ⟨rfl, hx6⟩; have E6 : Below W2.heap.size W2 w6 := E5.trans (hx6.mono E5.size))
      | (go_at_call_of 18 (Value.slice Ap np cp); (with_reducible refine (mul_any Ap np cp (dig B9 (val B9 xs * val B9 ys)) A'' l b zs _ (hp.below E6) hnp hcp (lenB hp (mulB HU.out HV.out) (by decide)) (dig_u32 _) (hs''.below E6) hl hb (by omega) HZ.out _ (show _ = val B9 xs * val B9 ys * val B9 zs by rw [val_dig B9 (by decide)])).mono ?_); rintro e w7 ⟨A7, n7, c7, rfl, h7, hn7, hc7, hx7⟩; have E7 : Below W2.heap.size W2 w7 := E6.trans (hx7.mono E6.size))
      | (go_at_call_of 18 (Value.slice A' m d); (with_reducible refine (mul_any A' m d ys A'' l b zs _ (hs'.below E7) hm hd (by omega) HY.out (hs''.below E7) hl hb (by omega) HZ.out _ rfl).mono ?_); rintro e w8 ⟨A8, n8, c8, rfl, h8, hn8, hc8, hx8⟩; have E8 : Below W2.heap.size W2 w8 := E7.trans (hx8.mono E7.size))
      | (go_at_call_of 18 (Value.slice A n c); (with_reducible refine (mul_any A n c xs A8 n8 c8 (dig B9 (val B9 ys * val B9 zs)) _ (hs.below E8) hn hc (by omega) HX.out h8 hn8 hc8 (lenB h8 (mulB HV.out HT.out) (by decide)) (dig_u32 _) _ (show _ = val B9 xs * val B9 ys * val B9 zs by rw [val_dig B9 (by decide), Nat.mul_assoc])).mono ?_); rintro e w9 ⟨A9, n9, c9, rfl, h9, hn9, hc9, hx9⟩; have E9 : Below W2.heap.size W2 w9 := E8.trans (hx9.mono E8.size))
      | (go_at_call_of 15 (Value.slice A7 n7 c7); (with_reducible refine (same_d A7 n7 c7 (val B9 xs * val B9 ys * val B9 zs) A9 n9 c9 _ ((h7.below hx8).below hx9) (lenB h7 (mulB (mulB HU.out HV.out) HT.out) (by decide)) h9).mono ?_); rintro e w10 ⟨rfl, hx10⟩; have E10 : Below W2.heap.size W2 w10 := E9.trans (hx10.mono E9.size))
      | (go_at_call_of 16 (Value.slice A n c); (with_reducible refine (add_any A n c xs A' m d ys _ (hs.below E10) hn hc (by omega) HX.out (hs'.below E10) hm hd (by omega) HY.out _ rfl).mono ?_); rintro e w11 ⟨A11, n11, c11, rfl, h11, hn11, hc11, hx11⟩; have E11 : Below W2.heap.size W2 w11 := E10.trans (hx11.mono E10.size))
      | (go_at_call_of 16 (Value.slice A11 n11 c11); (with_reducible refine (add_any A11 n11 c11 (dig B9 (val B9 xs + val B9 ys)) A'' l b zs _ h11 hn11 hc11 (lenB h11 (addB HU.out HV.out) (by decide)) (dig_u32 _) (hs''.below E11) hl hb (by omega) HZ.out _ (show _ = val B9 xs + val B9 ys + val B9 zs by rw [val_dig B9 (by decide)])).mono ?_); rintro e w12 ⟨A12, n12, c12, rfl, h12, hn12, hc12, hx12⟩; have E12 : Below W2.heap.size W2 w12 := E11.trans (hx12.mono E11.size))
      | (go_at_call_of 16 (Value.slice A'' l b); (with_reducible refine (add_any A'' l b zs A' m d ys _ (hs''.below E12) hl hb (by omega) HZ.out (hs'.below E12) hm hd (by omega) HY.out _ rfl).mono ?_); rintro e w13 ⟨A13, n13, c13, rfl, h13, hn13, hc13, hx13⟩; have E13 : Below W2.heap.size W2 w13 := E12.trans (hx13.mono E12.size))
      | (go_at_call_of 16 (Value.slice A n c); (with_reducible refine (add_any A n c xs A13 n13 c13 (dig B9 (val B9 zs + val B9 ys)) _ (hs.below E13) hn hc (by omega) HX.out h13 hn13 hc13 (lenB h13 (addB HT.out HV.out) (by decide)) (dig_u32 _) _ (show _ = val B9 xs + val B9 ys + val B9 zs by rw [val_dig B9 (by decide)]; omega)).mono ?_); rintro e w14 ⟨A14, n14, c14, rfl, h14, hn14, hc14, hx14⟩; have E14 : Below W2.heap.size W2 w14 := E13.trans (hx14.mono E13.size))
      | (go_at_call_of 15 (Value.slice A12 n12 c12); (with_reducible refine (same_d A12 n12 c12 (val B9 xs + val B9 ys + val B9 zs) A14 n14 c14 _ ((h12.below hx13).below hx14) (lenB h12 (addB (addB HU.out HV.out) (upB HT.out (by decide))) (by decide)) h14).mono ?_); rintro e w15 ⟨rfl, hx15⟩; have E15 : Below W2.heap.size W2 w15 := E14.trans (hx15.mono E14.size)))
  have ht := hs.below E15
  have ht' := hs'.below E15
  have ht'' := hs''.below E15
  have htp := hp.below E15
  have KS3 : Hid (∀ w', Below w15.heap.size w15 w' → w'.cell? ⟨w.heap.size, 0, none⟩ = some (.slice A n c) ∧ w'.cell? ⟨w.heap.size + 1, 0, none⟩ = some (.slice A' m d) ∧ w'.cell? ⟨w.heap.size + 2, 0, none⟩ = some (.slice A'' l b) ∧ w'.cell? ⟨w4.heap.size, 0, none⟩ = some (.slice Ap np cp)) :=
    fun w' h => KS2.out w' (E15.trans (h.mono E15.size))
  clear E5 E6 E7 E8 E9 E10 E11 E12 E13 E14 hx5 hx6 hx7 hx8 hx9 hx10 hx11 hx12 hx13 hx14 hx15 h5 h7 h8 h9 h11 h12 h13 h14 hs hs' hs'' KS2
  go_wp2_with fail
  go_region_held3 (fun w' => w'.cell? ⟨w.heap.size, 0, none⟩ = some (.slice A n c) ∧ w'.cell? ⟨w.heap.size + 1, 0, none⟩ = some (.slice A' m d) ∧ w'.cell? ⟨w.heap.size + 2, 0, none⟩ = some (.slice A'' l b) ∧ w'.cell? ⟨w4.heap.size, 0, none⟩ = some (.slice Ap np cp))
    (first | exact KS3.out _ G20 | exact KS3.out _ G19 | exact KS3.out _ G18 | exact KS3.out _ G17 | exact KS3.out _ G16 | exact KS3.out _ ((Below.refl _ _).drew))
    (first
      | (go_at_call_of 16 (Value.slice A' m d); (with_reducible refine (add_any A' m d ys A'' l b zs _ (ht'.below ((Below.refl _ _).drew)) hm hd (by omega) HY.out (ht''.below ((Below.refl _ _).drew)) hl hb (by omega) HZ.out _ rfl).mono ?_); rintro e w16 ⟨A16, n16, c16, rfl, h16, hn16, hc16, hx16⟩; have G16 : Below w15.heap.size w15 w16 := ((Below.refl _ _).drew).trans (hx16.mono (Nat.le_refl _)))
      | (go_at_call_of 18 (Value.slice A n c); (with_reducible refine (mul_any A n c xs A16 n16 c16 (dig B9 (val B9 ys + val B9 zs)) _ (ht.below G16) hn hc (by omega) HX.out h16 hn16 hc16 (lenB h16 (addB HV.out HT.out) (by decide)) (dig_u32 _) _ (show _ = val B9 xs * (val B9 ys + val B9 zs) by rw [val_dig B9 (by decide)])).mono ?_); rintro e w17 ⟨A17, n17, c17, rfl, h17, hn17, hc17, hx17⟩; have G17 : Below w15.heap.size w15 w17 := G16.trans (hx17.mono G16.size))
      | (go_at_call_of 18 (Value.slice A n c); (with_reducible refine (mul_any A n c xs A'' l b zs _ (ht.below G17) hn hc (by omega) HX.out (ht''.below G17) hl hb (by omega) HZ.out _ rfl).mono ?_); rintro e w18 ⟨A18, n18, c18, rfl, h18, hn18, hc18, hx18⟩; have G18 : Below w15.heap.size w15 w18 := G17.trans (hx18.mono G17.size))
      | (go_at_call_of 16 (Value.slice Ap np cp); (with_reducible refine (add_any Ap np cp (dig B9 (val B9 xs * val B9 ys)) A18 n18 c18 (dig B9 (val B9 xs * val B9 zs)) _ (htp.below G18) hnp hcp (lenB hp (mulB HU.out HV.out) (by decide)) (dig_u32 _) h18 hn18 hc18 (lenB h18 (mulB HU.out HT.out) (by decide)) (dig_u32 _) _ (show _ = val B9 xs * (val B9 ys + val B9 zs) by rw [val_dig B9 (by decide), val_dig B9 (by decide), Nat.mul_add])).mono ?_); rintro e w19 ⟨A19, n19, c19, rfl, h19, hn19, hc19, hx19⟩; have G19 : Below w15.heap.size w15 w19 := G18.trans (hx19.mono G18.size))
      | (go_at_call_of 15 (Value.slice A17 n17 c17); (with_reducible refine (same_d A17 n17 c17 (val B9 xs * (val B9 ys + val B9 zs)) A19 n19 c19 _ ((h17.below hx18).below hx19) (lenB h17 (mulB HU.out (addB HV.out HT.out)) (by decide)) h19).mono ?_); rintro e w20 ⟨rfl, hx20⟩; have G20 : Below w15.heap.size w15 w20 := G19.trans (hx20.mono G19.size)))
  have B := hbW.trans ((D5.trans ((E15.trans (G20.mono E15.size)).mono D5.size)).mono hbW.size)
  clear G16 G17 G18 G19 G20 hx16 hx17 hx18 hx19 hx20 KS3 E15 D5 hbW
  go_wp2
  go_ret
  exact ⟨rfl, B⟩

set_option maxHeartbeats 4000000 in
set_option maxRecDepth 100000 in
theorem ring_no (A : Option Addr) (n c : Nat) (A' : Option Addr) (m d : Nat) (A'' : Option Addr) (l b : Nat) (w : World) (hT : Tab w) (h : ¬(n ≤ 12 ∧ m ≤ 12 ∧ l ≤ 12)) :
    Calls Tryd.prog 8 #[.agg #[.slice A n c], .agg #[.slice A' m d], .agg #[.slice A'' l b]] w fun e w' => e = .returned (.bool true) ∧ Below w.heap.size w w' := by
  have HH := hide h
  clear h
  go_enter Tryd.func8, Tryd.ntmps8
  go_wp2_with fail
  generalize hW : ((w.alloc _).alloc _).alloc _ = W
  obtain ⟨hbW, e1, e2, e3, -⟩ := box3e hW
  clear hW
  have hsz : w.heap.size + 2 < W.heap.size := by
    rcases Nat.lt_or_ge (w.heap.size + 2) W.heap.size with h | h
    · exact h
    · rw [Array.getElem?_eq_none h] at e3; cases e3
  have KS : Hid (∀ w', Below W.heap.size W w' → w'.cell? ⟨w.heap.size, 0, none⟩ = some (.slice A n c) ∧ w'.cell? ⟨w.heap.size + 1, 0, none⟩ = some (.slice A' m d) ∧ w'.cell? ⟨w.heap.size + 2, 0, none⟩ = some (.slice A'' l b)) :=
    fun w' h => ⟨(h.cell (p := ⟨w.heap.size, 0, none⟩) (by simp; omega)).trans e1, (h.cell (p := ⟨w.heap.size + 1, 0, none⟩) (by simp; omega)).trans e2, (h.cell (p := ⟨w.heap.size + 2, 0, none⟩) hsz).trans (by rw [cell_of_row _ _ _ _ _ _ e3]; rfl)⟩
  clear e1 e2 e3
  have T0 := hT.below hbW
  refine (awake_any _ T0).mono ?_
  rintro e w1 ⟨rfl, D1⟩
  have T1 := T0.below D1
  obtain ⟨k1, k2, k3⟩ := KS.out w1 D1
  by_cases hnm : n ≤ 12 ∧ m ≤ 12
  · have hl : ¬(l ≤ 12 ∧ l ≤ 12) := fun h => HH.out ⟨hnm.1, hnm.2, h.1⟩
    have HM := hide hnm
    have HL := hide hl
    clear hnm hl
    go_wp2_with fail
    refine (few_yes A n c A' m d _ HM.out.1 HM.out.2).mono ?_
    rintro e w2 ⟨rfl, hx⟩
    have D2 := D1.trans (hx.mono D1.size)
    have T2 := T1.below hx
    clear hx k1 k2 k3
    obtain ⟨k1, k2, k3⟩ := KS.out w2 D2
    go_wp2_with fail
    refine (few_no A'' l b A'' l b _ HL.out).mono ?_
    rintro e w3 ⟨rfl, hx⟩
    have D3 := D2.trans (hx.mono D2.size)
    have T3 := T2.below hx
    clear hx k1 k2 k3
    go_wp2_with fail
    refine (awake_any _ T3).mono ?_
    rintro e w4 ⟨rfl, hx⟩
    have D4 := D3.trans (hx.mono D3.size)
    clear hx
    go_wp2
    have B := hbW.trans (D4.mono hbW.size)
    go_ret
    exact ⟨rfl, B⟩
  · have HM := hide hnm
    clear hnm
    go_wp2_with fail
    refine (few_no A n c A' m d _ HM.out).mono ?_
    rintro e w2 ⟨rfl, hx⟩
    have D2 := D1.trans (hx.mono D1.size)
    have T2 := T1.below hx
    clear hx k1 k2 k3
    go_wp2_with fail
    refine (awake_any _ T2).mono ?_
    rintro e w4 ⟨rfl, hx⟩
    have D4 := D2.trans (hx.mono D2.size)
    clear hx
    go_wp2
    have B := hbW.trans (D4.mono hbW.size)
    go_ret
    exact ⟨rfl, B⟩
end Go.Proofs.YthkgiobemfnpmaaDoor
