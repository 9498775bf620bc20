/- The law of common divisors: the walk. -/
import Derived.Test.YthkgiobemfnpmaaDoorRGcd
import Derived.Test.YthkgiobemfnpmaaDoorDivides
namespace Go.Proofs.YthkgiobemfnpmaaDoor
open Go Go.RowKit

def GivesNB (W : World) (u : Nat) (w : World) (e : Ending) (w' : World) : Prop :=
  ∃ A n c, e = .returned (.agg #[.slice A n c]) ∧ RL w' .u32 A n (dig B9 u) ∧ n ≤ c ∧ c ≤ maxLen ∧ Below w.heap.size w w' ∧ Below W.heap.size W w'
theorem of_zero_b {W w : World} (h : Below W.heap.size W w) : Calls Tryd.prog 29 #[.int .u64 0] w (GivesNB W 0 w) :=
  (of_zero w).mono fun _ _ ⟨A, n, c, e, h1, h2, h3, h4⟩ => ⟨A, n, c, e, h1, h2, h3, h4, h.trans (h4.mono h.size)⟩
theorem valB5 {w : World} {A : Option Addr} {n : Nat} {xs : List Nat} (h : RL w .u32 A n xs) (hn : n ≤ 4) (hx : ∀ x ∈ xs, x < 4294967296) : val B9 xs < B9 ^ 5 := by
  have h2 : (dig B9 (val B9 xs)).length ≤ n + 1 := dig_len_u32 rfl h.len hx
  exact (dig_length_le B9 (by decide) 5 _).1 (by omega)
theorem gcdB {u v M : Nat} (hu : u < M) (hv : v < M) : Nat.gcd u v < M := gcd_lt hu hv
theorem gcd_rest {u v : Nat} (h : Nat.gcd u v ≠ 0) : Nat.gcd (u / Nat.gcd u v) (v / Nat.gcd u v) = 1 := by
  rw [Nat.gcd_div (Nat.gcd_dvd_left u v) (Nat.gcd_dvd_right u v), Nat.div_self (Nat.pos_of_ne_zero h)]

set_option maxHeartbeats 4000000 in
set_option maxRecDepth 100000 in
theorem gcdsZ (A : Option Addr) (n c : Nat) (xs : List Nat) (A' : Option Addr) (m d : Nat) (ys : List Nat) (w : World)
    (hr : RL w .u32 A n xs) (hn : n ≤ c) (hc : c ≤ maxLen) (hx : ∀ x ∈ xs, x < 4294967296) (hr' : RL w .u32 A' m ys) (hm : m ≤ d) (hd : d ≤ maxLen) (hy : ∀ x ∈ ys, x < 4294967296) (hT : Tab w) (hN4 : n ≤ 4) (hM4 : m ≤ 4) (hu0 : val B9 xs = 0) (hv0 : val B9 ys = 0) :
    Calls Tryd.prog 9 #[.agg #[.slice A n c], .agg #[.slice A' m d]] w fun e w' => e = .returned (.bool true) ∧ Below w.heap.size w w' := by
  have HX := hide hx
  have HY := hide hy
  have hU := valB5 hr hN4 hx
  have hV := valB5 hr' hM4 hy
  have hdn : decide (4 < (n : Int)) = false := by simp; omega
  have hdm : decide (4 < (m : Int)) = false := by simp; omega
  have HU0 := hide hu0
  have HV0 := hide hv0
  have HG := hide (show Nat.gcd (val B9 xs) (val B9 ys) = 0 from by rw [hu0, hv0]; rfl)
  clear hx hy hu0 hv0 hU hV
  go_enter Tryd.func9, Tryd.ntmps9
  go_wp2_with fail
  generalize hW : (w.alloc _).alloc _ = W
  obtain ⟨hbW, b0, b1, -⟩ := boxes2 hW
  clear hW
  have lt0 := b0.lt
  have lt1 := b1.lt
  have KS : Hid (∀ w', Below W.heap.size W w' → w'.cell? ⟨w.heap.size, 0, none⟩ = some (.slice A n c) ∧ w'.cell? ⟨w.heap.size + 1, 0, none⟩ = some (.slice A' m d)) := fun w' h => ⟨(b0.below h lt0).cell, (b1.below h lt1).cell⟩
  clear b0 lt0 b1 lt1
  have hrW := hr.below hbW
  have hr'W := hr'.below hbW
  have T0 := hT.below hbW
  clear hT hr hr'
  refine (awake_any _ T0).mono ?_
  rintro e w1 ⟨rfl, D1⟩
  obtain ⟨k1, k2⟩ := KS.out w1 D1
  go_wp2_with fail
  refine (gcd_any A n c xs A' m d ys _ (hrW.below D1) hn hc (by omega) HX.out (hr'W.below D1) hm hd (by omega) HY.out _ HG.out).mono ?_
  rintro e w2 ⟨Ag, ng, cg, rfl, hg, hng, hcg, hx⟩
  have D2 := D1.trans (hx.mono D1.size)
  clear hx D1 k1 k2
  obtain rfl : ng = 0 := hg.len.symm
  go_wp2_with fail
  generalize hW : w2.alloc _ = W2
  obtain ⟨hb2, bg, -⟩ := boxes1 hW
  clear hW
  have ltg := bg.lt
  have D3 := D2.trans (hb2.mono D2.size)
  have hg := hg.below hb2
  have hs := hrW.below D3
  have hs' := hr'W.below D3
  have B3 := hbW.trans (D3.mono hbW.size)
  have KS2 : Hid (∀ w', Below W2.heap.size W2 w' → w'.cell? ⟨w.heap.size, 0, none⟩ = some (.slice A n c) ∧ w'.cell? ⟨w.heap.size + 1, 0, none⟩ = some (.slice A' m d) ∧ w'.cell? ⟨w2.heap.size, 0, none⟩ = some (.slice Ag 0 cg)) := fun w' h => by
    obtain ⟨q1, q2⟩ := KS.out w' (D3.trans (h.mono D3.size))
    exact ⟨q1, q2, (bg.below h ltg).cell⟩
  clear hb2 bg ltg hrW hr'W KS D2 D3 hbW T0
  go_region_held3 (fun w' => w'.cell? ⟨w.heap.size, 0, none⟩ = some (.slice A n c) ∧ w'.cell? ⟨w.heap.size + 1, 0, none⟩ = some (.slice A' m d) ∧ w'.cell? ⟨w2.heap.size, 0, none⟩ = some (.slice Ag 0 cg))
    (first | exact KS2.out _ E4 | exact KS2.out _ E3 | exact KS2.out _ ((Below.refl _ _).drew))
    (first
      | (go_at_call_of 33 (Value.slice A n c); (with_reducible refine (rgcd_any A n c xs A' m d ys _ (hs.below ((Below.refl _ _).drew)) hn hc (by omega) HX.out (hs'.below ((Below.refl _ _).drew)) hm hd (by omega) HY.out _ _ rfl rfl _ HG.out).mono ?_); rintro e w3 ⟨A3, n3, c3, rfl, h3, hn3, hc3, hx3⟩; have E3 : Below W2.heap.size W2 w3 := ((Below.refl _ _).drew).trans (hx3.mono (Nat.le_refl _)))
      | (go_at_call_of 15 (Value.slice Ag 0 cg); (with_reducible refine (same_d Ag 0 cg 0 A3 n3 c3 _ (hg.below E3) (by omega) h3).mono ?_); rintro e w4 ⟨rfl, hx4⟩; have E4 : Below W2.heap.size W2 w4 := E3.trans (hx4.mono E3.size)))
  have hg := hg.below E4
  have hs := hs.below E4
  have hs' := hs'.below E4
  have B4 := B3.trans (E4.mono B3.size)
  have KS3 : Hid (∀ w', Below w4.heap.size w4 w' → w'.cell? ⟨w.heap.size, 0, none⟩ = some (.slice A n c) ∧ w'.cell? ⟨w.heap.size + 1, 0, none⟩ = some (.slice A' m d) ∧ w'.cell? ⟨w2.heap.size, 0, none⟩ = some (.slice Ag 0 cg)) := fun w' h => KS2.out w' (E4.trans (h.mono E4.size))
  clear E3 E4 hx3 hx4 h3 KS2 B3
  obtain ⟨k1, k2, k3⟩ := KS3.out w4 (Below.refl _ _)
  go_wp2_with fail
  go_region_held3 (fun w' => w'.cell? ⟨w.heap.size, 0, none⟩ = some (.slice A n c) ∧ w'.cell? ⟨w.heap.size + 1, 0, none⟩ = some (.slice A' m d) ∧ w'.cell? ⟨w2.heap.size, 0, none⟩ = some (.slice Ag 0 cg))
    (first | exact KS3.out _ E8 | exact KS3.out _ E7 | exact KS3.out _ E6 | exact KS3.out _ E5 | exact KS3.out _ ((Below.refl _ _).drew))
    (first
      | (go_at_call_of 29 (Value.int .u64 0); (with_reducible refine (of_zero_b (W := w4) ((Below.refl _ _).drew)).mono ?_); rintro e w5 ⟨A5, n5, c5, rfl, h5, hn5, hc5, hx5, E5⟩)
      | (go_at_call_of 29 (Value.int .u64 0); (with_reducible refine (of_zero_b (W := w4) E6).mono ?_); rintro e w7 ⟨A7, n7, c7, rfl, h7, hn7, hc7, hx7, E7⟩)
      | (go_at_call_of 20 (Value.slice A n c); (with_reducible refine (cmp_g A n c xs A5 n5 c5 (dig B9 0) _ (hs.below E5) hn hc (by omega) HX.out h5 hn5 hc5 (lenN h5 (by decide)) (dig_u32 0) 0 0 HU0.out (vd 0) 0 (by decide)).mono ?_); rintro e w6 ⟨rfl, hx6⟩; have E6 : Below w4.heap.size w4 w6 := E5.trans (hx6.mono E5.size))
      | (go_at_call_of 20 (Value.slice A' m d); (with_reducible refine (cmp_g A' m d ys A7 n7 c7 (dig B9 0) _ (hs'.below E7) hm hd (by omega) HY.out h7 hn7 hc7 (lenN h7 (by decide)) (dig_u32 0) 0 0 HV0.out (vd 0) 0 (by decide)).mono ?_); rintro e w8 ⟨rfl, hx8⟩; have E8 : Below w4.heap.size w4 w8 := E7.trans (hx8.mono E7.size)))
  have B := B4.trans (E8.mono B4.size)
  clear E5 E6 E7 E8 hx5 hx6 hx7 hx8 KS3 B4
  go_wp2
  go_ret
  exact ⟨rfl, B⟩
set_option maxHeartbeats 4000000 in
set_option maxRecDepth 100000 in
theorem gcdsN (A : Option Addr) (n c : Nat) (xs : List Nat) (A' : Option Addr) (m d : Nat) (ys : List Nat) (w : World)
    (hr : RL w .u32 A n xs) (hn : n ≤ c) (hc : c ≤ maxLen) (hx : ∀ x ∈ xs, x < 4294967296) (hr' : RL w .u32 A' m ys) (hm : m ≤ d) (hd : d ≤ maxLen) (hy : ∀ x ∈ ys, x < 4294967296) (hT : Tab w) (hN4 : n ≤ 4) (hM4 : m ≤ 4) (hg0 : Nat.gcd (val B9 xs) (val B9 ys) ≠ 0) :
    Calls Tryd.prog 9 #[.agg #[.slice A n c], .agg #[.slice A' m d]] w fun e w' => e = .returned (.bool true) ∧ Below w.heap.size w w' := by
  have HX := hide hx
  have HY := hide hy
  have hU := valB5 hr hN4 hx
  have hV := valB5 hr' hM4 hy
  have hdn : decide (4 < (n : Int)) = false := by simp; omega
  have hdm : decide (4 < (m : Int)) = false := by simp; omega
  obtain ⟨G, hG⟩ : ∃ G, Nat.gcd (val B9 xs) (val B9 ys) = G := ⟨_, rfl⟩
  obtain ⟨Q, hQ⟩ : ∃ Q, val B9 xs / G = Q := ⟨_, rfl⟩
  obtain ⟨P, hP⟩ : ∃ P, val B9 ys / G = P := ⟨_, rfl⟩
  have HGB := hide (show G < B9 ^ 5 from by rw [← hG]; exact gcdB hU hV)
  have HQB := hide (show Q < B9 ^ 5 from by rw [← hQ]; exact Nat.lt_of_le_of_lt (Nat.div_le_self _ _) hU)
  have HPB := hide (show P < B9 ^ 5 from by rw [← hP]; exact Nat.lt_of_le_of_lt (Nat.div_le_self _ _) hV)
  have HQP := hide (show Nat.gcd Q P = 1 from by rw [← hQ, ← hP, ← hG]; exact gcd_rest hg0)
  have HXR := hide (show val B9 xs % G = 0 from by rw [← hG]; exact Nat.mod_eq_zero_of_dvd (Nat.gcd_dvd_left _ _))
  have HYR := hide (show val B9 ys % G = 0 from by rw [← hG]; exact Nat.mod_eq_zero_of_dvd (Nat.gcd_dvd_right _ _))
  rw [hG] at hg0
  have HG0 := hide hg0
  have HG := hide hG
  have HXQ := hide hQ
  have HYQ := hide hP
  clear hx hy hg0 hG hQ hP hU hV
  go_enter Tryd.func9, Tryd.ntmps9
  go_wp2_with fail
  generalize hW : (w.alloc _).alloc _ = W
  obtain ⟨hbW, b0, b1, -⟩ := boxes2 hW
  clear hW
  have lt0 := b0.lt
  have lt1 := b1.lt
  have KS : Hid (∀ w', Below W.heap.size W w' → w'.cell? ⟨w.heap.size, 0, none⟩ = some (.slice A n c) ∧ w'.cell? ⟨w.heap.size + 1, 0, none⟩ = some (.slice A' m d)) := fun w' h => ⟨(b0.below h lt0).cell, (b1.below h lt1).cell⟩
  clear b0 lt0 b1 lt1
  have hrW := hr.below hbW
  have hr'W := hr'.below hbW
  have T0 := hT.below hbW
  clear hT hr hr'
  refine (awake_any _ T0).mono ?_
  rintro e w1 ⟨rfl, D1⟩
  obtain ⟨k1, k2⟩ := KS.out w1 D1
  go_wp2_with fail
  refine (gcd_any A n c xs A' m d ys _ (hrW.below D1) hn hc (by omega) HX.out (hr'W.below D1) hm hd (by omega) HY.out _ HG.out).mono ?_
  rintro e w2 ⟨Ag, ng, cg, rfl, hg, hng, hcg, hx⟩
  have D2 := D1.trans (hx.mono D1.size)
  clear hx D1 k1 k2
  have lg := lenB1 hg HGB.out
  have hng0 : ((ng : Int) == 0) = false := by
    have : ng ≠ 0 := fun h => HG0.out ((dig_eq_nil B9 (by decide)).1 (List.eq_nil_of_length_eq_zero (by rw [hg.len, h])))
    simp; omega
  go_wp2_with fail
  generalize hW : w2.alloc _ = W2
  obtain ⟨hb2, bg, -⟩ := boxes1 hW
  clear hW
  have ltg := bg.lt
  have D3 := D2.trans (hb2.mono D2.size)
  have hg := hg.below hb2
  have hs := hrW.below D3
  have hs' := hr'W.below D3
  have B3 := hbW.trans (D3.mono hbW.size)
  have KS2 : Hid (∀ w', Below W2.heap.size W2 w' → w'.cell? ⟨w.heap.size, 0, none⟩ = some (.slice A n c) ∧ w'.cell? ⟨w.heap.size + 1, 0, none⟩ = some (.slice A' m d) ∧ w'.cell? ⟨w2.heap.size, 0, none⟩ = some (.slice Ag ng cg)) := fun w' h => by
    obtain ⟨q1, q2⟩ := KS.out w' (D3.trans (h.mono D3.size))
    exact ⟨q1, q2, (bg.below h ltg).cell⟩
  clear hb2 bg ltg hrW hr'W KS D2 D3 hbW T0
  go_region_held3 (fun w' => w'.cell? ⟨w.heap.size, 0, none⟩ = some (.slice A n c) ∧ w'.cell? ⟨w.heap.size + 1, 0, none⟩ = some (.slice A' m d) ∧ w'.cell? ⟨w2.heap.size, 0, none⟩ = some (.slice Ag ng cg))
    (first | exact KS2.out _ E4 | exact KS2.out _ E3 | exact KS2.out _ ((Below.refl _ _).drew))
    (first
      | (go_at_call_of 33 (Value.slice A n c); (with_reducible refine (rgcd_any A n c xs A' m d ys _ (hs.below ((Below.refl _ _).drew)) hn hc (by omega) HX.out (hs'.below ((Below.refl _ _).drew)) hm hd (by omega) HY.out _ _ rfl rfl _ HG.out).mono ?_); rintro e w3 ⟨A3, n3, c3, rfl, h3, hn3, hc3, hx3⟩; have E3 : Below W2.heap.size W2 w3 := ((Below.refl _ _).drew).trans (hx3.mono (Nat.le_refl _)))
      | (go_at_call_of 15 (Value.slice Ag ng cg); (with_reducible refine (same_d Ag ng cg G A3 n3 c3 _ (hg.below E3) (by omega) h3).mono ?_); rintro e w4 ⟨rfl, hx4⟩; have E4 : Below W2.heap.size W2 w4 := E3.trans (hx4.mono E3.size)))
  have hg := hg.below E4
  have hs := hs.below E4
  have hs' := hs'.below E4
  have B4 := B3.trans (E4.mono B3.size)
  have KS3 : Hid (∀ w', Below w4.heap.size w4 w' → w'.cell? ⟨w.heap.size, 0, none⟩ = some (.slice A n c) ∧ w'.cell? ⟨w.heap.size + 1, 0, none⟩ = some (.slice A' m d) ∧ w'.cell? ⟨w2.heap.size, 0, none⟩ = some (.slice Ag ng cg)) := fun w' h => KS2.out w' (E4.trans (h.mono E4.size))
  clear E3 E4 hx3 hx4 h3 KS2 B3
  obtain ⟨k1, k2, k3⟩ := KS3.out w4 (Below.refl _ _)
  go_wp2_with fail
  refine (divMod_nz A n c xs Ag ng cg (dig B9 G) _ hs hn hc (by omega) HX.out hg hng hcg (by omega) (dig_u32 G) (by rw [vd]; exact HG0.out)).mono ?_
  rintro e w5 ⟨Aq, nq, cq, Ar, nr, cr, rfl, hq, hnq, hcq, hr0, hnr, hcr, hx⟩
  rw [vd, HXQ.out] at hq
  rw [vd, HXR.out] at hr0
  obtain rfl : nr = 0 := hr0.len.symm
  have D5 : Below w4.heap.size w4 w5 := hx
  clear hx k1 k2 k3 hr0
  obtain ⟨k1, k2, k3⟩ := KS3.out ((w5.alloc (.cells #[.slice Aq nq cq] 24)).alloc (.cells #[.slice Ar 0 cr] 24)) ((D5.alloc D5.size _).alloc (D5.alloc D5.size _).size _)
  go_wp2_with fail
  generalize hW : (w5.alloc _).alloc _ = W5
  obtain ⟨hb5, bq, br, -⟩ := boxes2 hW
  clear hW k1 k2 k3
  have D6 := D5.trans (hb5.mono D5.size)
  have hq := hq.below hb5
  refine (divMod_nz A' m d ys Ag ng cg (dig B9 G) _ (hs'.below D6) hm hd (by omega) HY.out (hg.below D6) hng hcg (by omega) (dig_u32 G) (by rw [vd]; exact HG0.out)).mono ?_
  rintro e w7 ⟨Ap, np, cp, As, ns, cs, rfl, hp, hnp, hcp, hs0, hns, hcs, hx⟩
  rw [vd, HYQ.out] at hp
  rw [vd, HYR.out] at hs0
  obtain rfl : ns = 0 := hs0.len.symm
  have D7 := D6.trans (hx.mono D6.size)
  have hq := hq.below hx
  have bq := bq.below' hx
  have br := br.below' hx
  clear hx hs0 hb5 D5 D6 hg hs hs' KS3
  have y1 := ((bq.alloc (.cells #[.slice Ap np cp] 24)).alloc (.cells #[.slice As 0 cs] 24)).cell
  have y2 := ((br.alloc (.cells #[.slice Ap np cp] 24)).alloc (.cells #[.slice As 0 cs] 24)).cell
  obtain ⟨-, y3b, y4b, -⟩ := boxes2 (w := w7) (v0 := .slice Ap np cp) (v1 := .slice As 0 cs) (t0 := 24) (t1 := 24) rfl
  have y3 := y3b.cell
  have y4 := y4b.cell
  clear y3b y4b
  go_wp2_with fail
  clear y1 y2 y3 y4
  generalize hW : (w7.alloc _).alloc _ = W7
  obtain ⟨hb7, bp, bs, -⟩ := boxes2 hW
  clear hW
  have hq := hq.below hb7
  have hp := hp.below hb7
  have bq := bq.below' hb7
  have br := br.below' hb7
  have D8 := B4.trans ((D7.trans (hb7.mono D7.size)).mono B4.size)
  have lq := lenB1 hq HQB.out
  have lp := lenB1 hp HPB.out
  have t1 := bq.lt
  have t2 := br.lt
  have t3 := bp.lt
  have t4 := bs.lt
  have KS4 : Hid (∀ w', Below W7.heap.size W7 w' → w'.cell? ⟨w5.heap.size, 0, none⟩ = some (.slice Aq nq cq) ∧ w'.cell? ⟨w5.heap.size + 1, 0, none⟩ = some (.slice Ar 0 cr) ∧ w'.cell? ⟨w7.heap.size, 0, none⟩ = some (.slice Ap np cp) ∧ w'.cell? ⟨w7.heap.size + 1, 0, none⟩ = some (.slice As 0 cs)) := fun w' h => ⟨(bq.below h t1).cell, (br.below h t2).cell, (bp.below h t3).cell, (bs.below h t4).cell⟩
  have jr := br.cell
  have js := bs.cell
  clear hb7 bq br bp bs t1 t2 t3 t4 D7 B4
  clear jr js KS4
  refine (gcd_any Aq nq cq (dig B9 Q) Ap np cp (dig B9 P) _ hq hnq hcq (by omega) (dig_u32 Q) hp hnp hcp (by omega) (dig_u32 P) 1 (by rw [vd, vd]; exact HQP.out)).mono ?_
  rintro e w9 ⟨A9, n9, c9, rfl, h9, hn9, hc9, hx⟩
  have D9 := D8.trans (hx.mono D8.size)
  clear hx D8 hq hp
  go_wp2_with fail
  refine (of_one _).mono ?_
  rintro e w10 ⟨A10, n10, c10, rfl, h10, hn10, hc10, hx⟩
  have D10 := D9.trans (hx.mono D9.size)
  have h9 := h9.below hx
  clear hx D9
  go_wp2_with fail
  refine (same_d A9 n9 c9 1 A10 n10 c10 _ h9 (lenN h9 (by decide)) h10).mono ?_
  rintro e w11 ⟨rfl, hx⟩
  have D11 := D10.trans (hx.mono D10.size)
  clear hx D10 h9 h10
  go_wp2
  go_ret
  exact ⟨rfl, D11⟩
set_option maxHeartbeats 4000000 in
set_option maxRecDepth 100000 in
theorem gcds_no_n (A : Option Addr) (n c : Nat) (A' : Option Addr) (m d : Nat) (w : World) (hT : Tab w) (hn : 4 < n) :
    Calls Tryd.prog 9 #[.agg #[.slice A n c], .agg #[.slice A' m d]] w fun e w' => e = .returned (.bool true) ∧ Below w.heap.size w w' := by
  have hdn : decide (4 < (n : Int)) = true := by simp; omega
  go_enter Tryd.func9, Tryd.ntmps9
  go_wp2_with fail
  generalize hW : (w.alloc _).alloc _ = W
  obtain ⟨hbW, b0, b1, -⟩ := boxes2 hW
  clear hW
  have lt0 := b0.lt
  have lt1 := b1.lt
  have KS : Hid (∀ w', Below W.heap.size W w' → w'.cell? ⟨w.heap.size, 0, none⟩ = some (.slice A n c) ∧ w'.cell? ⟨w.heap.size + 1, 0, none⟩ = some (.slice A' m d)) := fun w' h => ⟨(b0.below h lt0).cell, (b1.below h lt1).cell⟩
  clear b0 lt0 b1 lt1
  have T0 := hT.below hbW
  refine (awake_any _ T0).mono ?_
  rintro e w1 ⟨rfl, D1⟩
  have T1 := T0.below D1
  obtain ⟨k1, k2⟩ := KS.out w1 D1
  go_wp2_with fail
  refine (awake_any _ T1).mono ?_
  rintro e w4 ⟨rfl, hx⟩
  have D4 := hbW.trans ((D1.trans (hx.mono D1.size)).mono hbW.size)
  clear hx k1 k2 D1
  go_wp2
  go_ret
  exact ⟨rfl, D4⟩
set_option maxHeartbeats 4000000 in
set_option maxRecDepth 100000 in
theorem gcds_no_m (A : Option Addr) (n c : Nat) (A' : Option Addr) (m d : Nat) (w : World) (hT : Tab w) (hn : n ≤ 4) (hm : 4 < m) :
    Calls Tryd.prog 9 #[.agg #[.slice A n c], .agg #[.slice A' m d]] w fun e w' => e = .returned (.bool true) ∧ Below w.heap.size w w' := by
  have hdn : decide (4 < (n : Int)) = false := by simp; omega
  have hdm : decide (4 < (m : Int)) = true := by simp; omega
  go_enter Tryd.func9, Tryd.ntmps9
  go_wp2_with fail
  generalize hW : (w.alloc _).alloc _ = W
  obtain ⟨hbW, b0, b1, -⟩ := boxes2 hW
  clear hW
  have lt0 := b0.lt
  have lt1 := b1.lt
  have KS : Hid (∀ w', Below W.heap.size W w' → w'.cell? ⟨w.heap.size, 0, none⟩ = some (.slice A n c) ∧ w'.cell? ⟨w.heap.size + 1, 0, none⟩ = some (.slice A' m d)) := fun w' h => ⟨(b0.below h lt0).cell, (b1.below h lt1).cell⟩
  clear b0 lt0 b1 lt1
  have T0 := hT.below hbW
  refine (awake_any _ T0).mono ?_
  rintro e w1 ⟨rfl, D1⟩
  have T1 := T0.below D1
  obtain ⟨k1, k2⟩ := KS.out w1 D1
  go_wp2_with fail
  refine (awake_any _ T1).mono ?_
  rintro e w4 ⟨rfl, hx⟩
  have D4 := hbW.trans ((D1.trans (hx.mono D1.size)).mono hbW.size)
  clear hx k1 k2 D1
  go_wp2
  go_ret
  exact ⟨rfl, D4⟩
end Go.Proofs.YthkgiobemfnpmaaDoor
