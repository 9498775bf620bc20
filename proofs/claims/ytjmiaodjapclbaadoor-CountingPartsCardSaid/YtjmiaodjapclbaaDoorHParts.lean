/- The contracts of the reference's parts, Stirling, Surjections, Bell (layer 3). -/
import Derived.Test.YtjmiaodjapclbaaDoorHRow
import Derived.Test.YtjmiaodjapclbaaDoorCPart
import Derived.Test.YtjmiaodjapclbaaDoorCSteps
import Derived.Deep.RegionLaw
namespace Go.Proofs.YtjmiaodjapclbaaDoor
open Go Go.RowKit

/-- a row of the numbers of partitions -/
def SR (n : Nat) : List Nat := (List.range (n + 1)).map (stir n)
theorem SR_len (n : Nat) : (SR n).length = n + 1 := by simp [SR]
theorem SR_at {n k : Nat} (h : k ≤ n) : (SR n)[k]? = some (stir n k) := by
  unfold SR
  rw [List.getElem?_map, List.getElem?_range (by omega)]
  rfl
theorem SR_val {n k u : Nat} (h : (SR n)[k]? = some u) : u = stir n k := by
  have hk := (List.getElem?_eq_some_iff.1 h).1
  rw [SR_len] at hk
  rw [SR_at (by omega)] at h
  injection h with h
  exact h.symm
theorem cnNil {w : World} : Cn w none 0 0 0 := ⟨RL.nil_, by omega, by simp [maxLen]⟩

theorem NR.far {w : World} {base n c : Nat} {A : Option Addr} {us : List Nat} (h : NR w base A n c us) {k i : Nat} {vs : Array Value} {t : TypeId} (hk : Box w k vs t) (hv : NoInt vs) (hne : ∀ b o, A = some ⟨b, o, none⟩ → b ≠ k) (v : Value) : NR (w.setCell ⟨k, i, none⟩ v) base A n c us := by
  refine ⟨h.1, ?_⟩
  rcases h.2 with h0 | ⟨g, cur, e, hb, hgg, h1, h2, h3, h4, hu⟩
  · exact .inl h0
  · refine .inr ⟨g, cur, e, hb, (Below.heap_setCell w ⟨k, i, none⟩ v g (hne g 0 e)).trans hgg, h1, h2, h3, h4, fun j u hj => ?_⟩
    obtain ⟨S, m, d, e, hc⟩ := hu j u hj
    exact ⟨S, m, d, e, hc.far hk hv v⟩
/-- no slice of naturals lies in a box of one natural whose content a number's box holds: a store beside it -/
theorem NL.far1 {w : World} {A : Option Addr} {n : Nat} {us : List Nat} (h : NL w A n us) {k i : Nat} {vs : Array Value} {t : TypeId} (hk : Box w k vs t) (hv : NoInt vs) (hne : ∀ b o, A = some ⟨b, o, none⟩ → b ≠ k) (v : Value) : NL (w.setCell ⟨k, i, none⟩ v) A n us :=
  ⟨h.1, fun hn => by
    obtain ⟨b, o, e, hl, hc⟩ := h.2 hn
    refine ⟨b, o, e, by simpa [World.setCell] using hl, fun j u hu => ?_⟩
    obtain ⟨S, m, c, h1, h2⟩ := hc j u hu
    exact ⟨S, m, c, (World.cell?_of_block (a := ⟨b, o + j, none⟩) (Below.heap_setCell w ⟨k, i, none⟩ v b (hne b o e))).trans h1, h2.far hk hv v⟩⟩
set_option maxHeartbeats 4000000 in
theorem hparts_ok (n : Nat) (hn : n ≤ 64) (w : World) : Calls Tryd.prog 47 #[.int .i64 (n : Int)] w (GivesNs (SR n) w) := by
  have HB := hide (show ∀ r k, r ≤ 64 → stir r k < B9 ^ 100 from fun r k h => upB (stir_lt r k h) (by omega))
  have C1 := hide (show ∀ W, Calls Tryd.prog 42 #[.int .i64 1] W (GivesN 1 W) from fun W => hof_any 1 W (by omega))
  go_enter Tryd.func47, Tryd.ntmps47
  go_wp2_with fail
  with_reducible refine (C1.out _).mono ?_
  intro e w1 h
  obtain ⟨A1, n1, c1, rfl, h1, hb1⟩ := GivesN.cn h
  clear h
  have hbA := hb1
  clear hb1
  go_wp2_with fail
  have hr := NR.one A1 n1 c1 1 (base := w.heap.size) hbA.size h1
  generalize hW : w1.alloc _ = W2 at *
  obtain ⟨hb, -, -⟩ := boxesA1 hW
  clear hW
  have hbA := hbA.trans (hb.mono hbA.size)
  have hs := hbA.size
  clear hb h1
  generalize w1.heap.size = g1 at *
  go_loopw [3, 4, 5, 6, 7] (fun v3 v4 _ _ _ wr => ∃ r A c, r ≤ n ∧ v4 = .int .i64 ((r + 1 : Nat) : Int) ∧ v3 = .slice A (r + 1) c ∧ NR wr w.heap.size A (r + 1) c (SR r) ∧ Below w.heap.size w wr) (fun _ v4 _ _ _ _ => n + 1 - (intOf v4).toNat)
  case atStart => exact ⟨0, _, _, by omega, rfl, rfl, hr, hbA⟩
  case round =>
    obtain ⟨r, A, c, hrn, rfl, rfl, hr, hbA⟩ := hrel
    obtain ⟨p, hp⟩ : ∃ p, r + 1 = p := ⟨_, rfl⟩
    rw [hp]
    rw [hp] at hr
    have HP := hide hp
    by_cases hlt : p ≤ n
    · have hp1 : p ≤ 64 := by omega
      have hrp : r ≤ 64 := by omega
      have hpr : p ≤ r + 1 := by omega
      clear hp
      have HT0 := hide (show (SR p).take (0 + 1) = [0] from by
        have h1 := takeSnoc (SR_at (n := p) (k := 0) (by omega))
        have h2 : stir p 0 = 0 := by rw [← HP.out]; rfl
        rw [h1, h2]; rfl)
      have HLT := hide (show ∀ b o, A = some ⟨b, o, none⟩ → b < wr.heap.size from fun b o e => (hr.lt b o e).2)
      have hsz := hbA.size
      go_wp2_with fail
      have hx := NR.one (w := wr) none 0 0 0 (base := wr.heap.size) (Nat.le_refl _) cnNil
      generalize hW : wr.alloc _ = W3 at *
      obtain ⟨hb, -, -⟩ := boxesA1 hW
      clear hW
      have HB2 := hide hb.size
      have hbA := hbA.trans (hb.mono hbA.size)
      have hr2 := (hr.below hb).nl
      clear hb hr
      have HSZ := hide hsz
      clear hsz
      generalize wr.heap.size = B2 at *
      go_loopw [5, 6, 7] (fun v5 v6 _ wr => ∃ q A5 c5, q + 1 ≤ p + 1 ∧ v6 = .int .i64 ((q + 1 : Nat) : Int) ∧ v5 = .slice A5 (q + 1) c5 ∧ NR wr B2 A5 (q + 1) c5 ((SR p).take (q + 1)) ∧ NL wr A p (SR r) ∧ B2 ≤ wr.heap.size ∧ Below w.heap.size w wr) (fun _ v6 _ _ => p + 2 - (intOf v6).toNat)
      case atStart => exact ⟨0, _, _, by omega, rfl, rfl, by rw [HT0.out]; exact hx, hr2, HB2.out, hbA⟩
      case round =>
        obtain ⟨q, A5, c5, hq, rfl, rfl, hx, hr2, hB2, hbA⟩ := hrel
        obtain ⟨f, hf⟩ : ∃ f, q + 1 = f := ⟨_, rfl⟩
        rw [hf] at hx hq
        rw [hf]
        by_cases hlf : f ≤ p
        · obtain ⟨b, o, u1, S1, m1, d1, rfl, hbl, hu1, k1, x1⟩ := hr2.at_ (j := q) (by omega)
          obtain rfl := SR_val hu1
          have he : (f : Int) - 1 = (q : Int) := by omega
          have hw : IntKind.i64.wrap (q : Int) = (q : Int) := IntWalk.i64_in _ (by omega)
          have i1 : (0 : Int) ≤ (q : Int) := by omega
          have i2 : (q : Int) < (p : Int) := by omega
          have i3 : q < p := by omega
          have HT1 := hide (show (SR p).take (f + 1) = (SR p).take f ++ [stir p f] from takeSnoc (SR_at hlf))
          by_cases hlp : f < p
          · obtain ⟨u2, S2, m2, d2, -, hu2, k2, x2⟩ := hr2.cell hlp
            obtain rfl := SR_val hu2
            have HZ := hide (show stir r q + f * stir r f = stir p f from by rw [← hf, ← HP.out]; rfl)
            have HF := hide hf
            have HBZ := hide (show f * stir r f < B9 ^ 100 from by have h1 := HZ.out; have h2 := HB.out p f hp1; omega)
            have HBF := hide (show f < B9 ^ 100 from Nat.lt_of_le_of_lt (show f ≤ 64 by omega) (Nat.lt_of_lt_of_le (show 64 < B9 ^ 1 by decide) (Nat.pow_le_pow_right (by decide) (by omega))))
            clear hu1 hu2 hf hq
            go_wp2_with fail
            have HG7 := hide hB2
            have HN7 := hide (show ∀ b o, A5 = some ⟨b, o, none⟩ → b ≠ wr.heap.size from fun b o e => Nat.ne_of_lt (hx.lt b o e).2)
            generalize hW : wr.alloc _ = W5
            obtain ⟨hb, b7, -⟩ := boxesA1 hW
            clear hW
            have hB5 := Nat.le_trans hB2 hb.size
            have hbA := hbA.trans (hb.mono hbA.size)
            have hr2 := hr2.below hb
            have hx := hx.below hb
            have x1 := x1.below hb
            have x2 := x2.below hb
            have k2 := (hb.cell (p := ⟨b, o + f, none⟩) hbl).trans k2
            have hl2 := World.block_lt_of_cell? W5 _ k2
            clear hb k1 hbl hB2
            generalize wr.heap.size = g7 at *
            have KF : Hid (∀ w', Below W5.heap.size W5 w' → w'.cell? ⟨g7, 0, none⟩ = some (.slice S1 m1 d1) ∧ w'.cell? ⟨b, o + f, none⟩ = some (.slice S2 m2 d2) ∧ w'.frozen? ⟨g7, 0, none⟩ = false) := fun w' h => ⟨(b7.below' h).cell, (h.cell (p := ⟨b, o + f, none⟩) hl2).trans k2, (b7.below' h).frozen 0⟩
            clear k2 hl2
            have P0 : Below W5.heap.size W5 W5.drew := (Below.refl _ _).drew
            obtain ⟨k1, k2, -⟩ := KF.out _ P0
            go_region_law (first
              | (go_simp; go_at_call 42; (with_reducible refine (hof_any f _ (by omega)).mono ?_); rintro e w6 ⟨A6, n6, c6, rfl, r6, l6, m6, hb6⟩; have h6 : Cn w6 A6 n6 c6 f := ⟨r6, l6, m6⟩; have E6 := P0.trans (hb6.mono P0.size); obtain ⟨v0, v1, -⟩ := KF.out _ E6)
              | (go_simp; go_at_call 43; (with_reducible refine (rmul_n (L := 100) (h6.nt HBF.out) ((x2.below E6).nt (HB.out r f hrp)) (by omega) _ rfl).mono ?_); rintro e w7 ⟨A7, n7, c7, rfl, r7, l7, m7, hb7⟩; have h7 : Cn w7 A7 n7 c7 (f * stir r f) := ⟨r7, l7, m7⟩; have E7 := E6.trans (hb7.mono E6.size); obtain ⟨y0, y1, -⟩ := KF.out _ E7)
              | (go_simp; go_at_call 48; (with_reducible refine (radd_n (L := 100) ((x1.below E7).nt (HB.out r q hrp)) (h7.nt HBZ.out) (by omega) _ HZ.out).mono ?_); rintro e w8 ⟨A8, n8, c8, rfl, r8, l8, m8, hb8⟩; have h8 : Cn w8 A8 n8 c8 (stir p f) := ⟨r8, l8, m8⟩; have E8 := E7.trans (hb8.mono E7.size); obtain ⟨z0, z1, e0⟩ := KF.out _ E8))
            all_goals
              have hB8 := Nat.le_trans hB5 E8.size
              have hbA := hbA.trans (E8.mono hbA.size)
              have b7 := b7.below' E8
              have hr2 := hr2.below E8
              have hx := hx.below E8
              have h8 := h8.far (i := 0) b7 noInt1 (.slice A8 n8 c8)
              have F7 : Grow B2 w8 (w8.setCell ⟨g7, 0, none⟩ (.slice A8 n8 c8)) := ⟨(Below.refl _ _).setCell HG7.out _, by simp [World.setCell], fun _ _ _ _ hq => hq.far (i := 0) b7 noInt1 _⟩
              have hr2 := hr2.grow (B := B2) HLT.out F7
              have hx := hx.far (i := 0) b7 noInt1 HN7.out (.slice A8 n8 c8)
              have hbA := hbA.trans (F7.1.mono HSZ.out)
              have hB9 := Nat.le_trans hB8 F7.2.1
              have b7 := b7.put (.slice A8 n8 c8)
              clear F7 E8 E7 E6 P0 KF h6 h7 k1 k2 v0 v1 y0 y1 z0 z1 e0 r6 l6 m6 r7 l7 m7 r8 l8 m8 hb6 hb7 hb8 x1 x2
              generalize w8.setCell (⟨g7, 0, none⟩ : Addr) (.slice A8 n8 c8) = w9 at *
              have k7 := b7.cell
              have l7 := b7.lt
              obtain ⟨F8, cel8, cn8, s8⟩ := asc_store B2 (Below.refl w9.heap.size w9) h8 hB9
              have row8 := hx.below F8
              clear hx h8
              go_wp2_with (at_builtin; refine wpList_append_nr rfl _ _ 52 rfl 24 Tryd.underlying52 nat_info B2 _ f c5 _ rfl row8 w9.heap.size 0 1 A8 n8 c8 (stir p f) rfl cel8 cn8 (by omega) (f + 1) rfl (by omega) s8 ?_; intro A10 c10 w10 hr10 hG10)
              have G := (Grow.of F8 hB9).trans hG10
              have hr2 := hr2.grow (B := B2) HLT.out G
              have hB10 := Nat.le_trans hB9 G.2.1
              have hbA := hbA.trans (G.1.mono HSZ.out)
              have HR10 := hide hr10
              clear hr10 G hG10 row8 cel8 cn8 s8 F8 k7 l7 b7 hB9 hB8 hB5
              go_wp2_with fail
              go_roundw
              case measure => first | (simp [intOf]; done) | (simp [intOf]; omega)
              case rel => exact ⟨f, A10, c10, by omega, by go_num, rfl, by rw [HT1.out]; exact HR10.out, hr2, hB10, hbA⟩
          · obtain rfl : f = p := by omega
            have HZ := hide (show stir r q = stir f f from by
              have h1 := HP.out
              have h2 : q = r := by omega
              rw [h2, stir_self, stir_self])
            have x1 : Cn wr S1 m1 d1 (stir f f) := by rw [← HZ.out]; exact x1
            have HF := hide hf
            obtain ⟨F8, -, bq, -⟩ := boxesA2 (rfl : (wr.alloc (.cells #[.slice S1 m1 d1] 25)).alloc (.cells #[.slice S1 m1 d1] 25) = _)
            have cel8 := bq.cell
            have cn8 := x1.below F8
            have row8 := hx.below F8
            have s8 := Nat.le_trans hB2 F8.size
            clear hu1 hf hq bq x1 hx
            go_wp2_with (at_builtin; refine wpList_append_nr rfl _ _ 52 rfl 24 Tryd.underlying52 nat_info B2 _ f c5 _ rfl row8 (wr.heap.size + 1) 0 1 S1 m1 d1 (stir f f) rfl cel8 cn8 (by omega) (f + 1) rfl (by omega) s8 ?_; intro A10 c10 w10 hr10 hG10)
            have G := (Grow.of F8 hB2).trans hG10
            have hr2 := hr2.grow (B := B2) HLT.out G
            have hB10 := Nat.le_trans hB2 G.2.1
            have hbA := hbA.trans (G.1.mono HSZ.out)
            have HR10 := hide hr10
            clear hr10 G hG10 row8 cel8 cn8 s8 F8 k1 hB2 hbl
            go_wp2_with fail
            go_roundw
            case measure => first | (simp [intOf]; done) | (simp [intOf]; omega)
            case rel => exact ⟨f, A10, c10, Nat.le_refl _, by go_num, rfl, by rw [HT1.out]; exact HR10.out, hr2, hB10, hbA⟩
        · obtain rfl : f = p + 1 := by omega
          have HX := hide (show NR wr w.heap.size A5 (p + 1) c5 (SR p) from by
            rw [List.take_of_length_le (by rw [SR_len]; exact Nat.le_refl _)] at hx
            exact hx.low HSZ.out)
          clear hx hr2 hf
          go_wp2_with fail
          go_roundw
          case measure => simp [intOf]; omega
          case rel => exact ⟨p, A5, c5, by omega, by go_num, rfl, HX.out, hbA⟩
    · obtain rfl : r = n := by omega
      have hnp : ¬ p ≤ r := hlt
      go_wp2_with fail
      go_ret
      exact ⟨A, p, c, rfl, by rw [SR_len]; exact HP.out, hr.le.1, hr.le.2, hr.nl, fun b o e => (hr.lt b o e).1, hbA⟩
set_option maxHeartbeats 1000000 in
theorem hstir_ok (n k : Nat) (hn : n ≤ 64) (hk : k ≤ n) (w : World) (T : Nat) (hT : stir n k = T) : Calls Tryd.prog 21 #[.int .i64 (n : Int), .int .i64 (k : Int)] w (GivesNE T 0 w) := by
  have HT := hide hT
  have d1 : decide ((n : Int) < 0) = false := by simp
  have d2 : decide ((64 : Int) < (n : Int)) = false := by simp; omega
  have d3 : decide ((k : Int) < 0) = false := by simp
  have d4 : decide ((n : Int) < (k : Int)) = false := by simp; omega
  have d5 : ¬ n < k := by omega
  clear hT
  go_enter Tryd.func21, Tryd.ntmps21
  go_wp2_with fail
  generalize hW : w.alloc _ = W
  obtain ⟨hbW, bR, -⟩ := boxesA1 hW
  clear hW
  refine (hparts_ok n hn _).mono ?_
  rintro e w1 ⟨A, m, c, rfl, hl, -, -, hx, -, hb1⟩
  rw [SR_len] at hl
  have hkm : k < m := by omega
  obtain ⟨b, o, u, S, m1, d6, rfl, hbl, hu, k1, x1⟩ := hx.at_ hkm
  obtain rfl : u = T := (SR_val hu).trans HT.out
  have hbA := hbW.trans (hb1.mono hbW.size)
  have bR := bR.below' hb1
  have i1 : (0 : Int) ≤ (k : Int) := by omega
  have i2 : (k : Int) < (m : Int) := by omega
  have g0 := bR.cell
  have f0 := bR.frozen 0
  have h3 := x1.far (i := 0) bR noInt1 (.slice S m1 d6)
  have b3 := bR.put (.slice S m1 d6)
  clear hu hl hx hb1 x1 bR
  go_wp2_with fail
  have k0 := b3.cell
  refine bodyPost_ret (v := .tuple #[.agg #[.slice S m1 d6], .int .i64 0]) (by simp [results, Tryd.results21, go_sem, k0]) rfl ?_
  exact ⟨S, m1, d6, rfl, h3.1, h3.2.1, h3.2.2, hbA.setCell (Nat.le_refl _) _⟩
theorem hstir_any (n : Nat) (k : Int) (hn : n ≤ 64) (w : World) (T : Nat) (hT : stI n k = T) : Calls Tryd.prog 21 #[.int .i64 (n : Int), .int .i64 k] w (GivesNE T 0 w) := by
  by_cases h : 0 ≤ k ∧ k ≤ n
  · obtain ⟨j, rfl⟩ : ∃ j : Nat, k = (j : Int) := ⟨k.toNat, by omega⟩
    exact hstir_ok n j hn (by omega) w T (by rw [← stI_nat]; exact hT)
  · obtain rfl : T = 0 := by rw [← hT]; unfold stI; rw [if_neg h]
    exact hstir_no n k w hn h
set_option maxHeartbeats 1000000 in
theorem hsur_ok (n k : Nat) (hn : n ≤ 64) (hk : k ≤ 64) (w : World) (T : Nat) (hT : prodf 1 k * stir n k = T) : Calls Tryd.prog 23 #[.int .i64 (n : Int), .int .i64 (k : Int)] w (GivesNE T 0 w) := by
  have HT := hide hT
  obtain ⟨M, hM⟩ : ∃ M, M = 402 := ⟨_, rfl⟩
  have HA := hide (show prodf 1 k < B9 ^ M from upB (prodf_lt 1 k (by omega)) (by omega))
  have HB := hide (show stir n k < B9 ^ M from upB (stir_lt n k hn) (by omega))
  have HS := hide (stI_nat n k)
  have d1 : decide ((n : Int) < 0) = false := by simp
  have d2 : decide ((64 : Int) < (n : Int)) = false := by simp; omega
  have d3 : decide ((k : Int) < 0) = false := by simp
  have d4 : decide ((64 : Int) < (k : Int)) = false := by simp; omega
  clear hT
  go_enter Tryd.func23, Tryd.ntmps23
  go_wp2_with fail
  generalize hW : w.alloc _ = W
  obtain ⟨hbW, bR, -⟩ := boxesA1 hW
  clear hW
  with_reducible refine (hfact_ok k (by omega) _ _ rfl).mono ?_
  intro e w3 h
  obtain ⟨A3, n3, c3, rfl, h3, hb3⟩ := GivesNE.cn h
  clear h
  have hbA := hbW.trans (hb3.mono hbW.size)
  have bR := bR.below' hb3
  clear hb3 hbW
  go_wp2_with fail
  generalize hW : w3.alloc _ = W3
  obtain ⟨hb, b6, -⟩ := boxesA1 hW
  clear hW
  have hbA := hbA.trans (hb.mono hbA.size)
  have bR := bR.below' hb
  have h3 := h3.below hb
  clear hb
  generalize w3.heap.size = g6 at *
  with_reducible refine (hstir_any n k hn _ _ HS.out).mono ?_
  intro e w4 h
  obtain ⟨A4, n4, c4, rfl, h4, hb4⟩ := GivesNE.cn h
  clear h
  have hbA := hbA.trans (hb4.mono hbA.size)
  have bR := bR.below' hb4
  have b6 := b6.below' hb4
  have h3 := h3.below hb4
  clear hb4
  have k6 := b6.cell
  have l6 := b6.lt
  go_wp2_with fail
  clear k6 l6
  generalize hW : w4.alloc _ = W4
  obtain ⟨hb, -, -⟩ := boxesA1 hW
  clear hW
  have hbA := hbA.trans (hb.mono hbA.size)
  have bR := bR.below' hb
  have h3 := h3.below hb
  have h4 := h4.below hb
  clear hb b6
  with_reducible refine (rmul_n (L := M) (h3.nt HA.out) (h4.nt HB.out) (by omega) T HT.out).mono ?_
  intro e w5 h
  obtain ⟨A2, n2, c2, rfl, h2, hb2⟩ := GivesN.cn h
  clear h
  have hbA := hbA.trans (hb2.mono hbA.size)
  have bR := bR.below' hb2
  clear hb2 h3 h4
  have g0 := bR.cell
  have f0 := bR.frozen 0
  have h3 := h2.far (i := 0) bR noInt1 (.slice A2 n2 c2)
  have b3 := bR.put (.slice A2 n2 c2)
  go_wp2_with fail
  have k0 := b3.cell
  refine bodyPost_ret (v := .tuple #[.agg #[.slice A2 n2 c2], .int .i64 0]) (by simp [results, Tryd.results23, go_sem, k0]) rfl ?_
  exact ⟨A2, n2, c2, rfl, h3.1, h3.2.1, h3.2.2, hbA.setCell (Nat.le_refl _) _⟩
set_option maxHeartbeats 4000000 in
theorem hbell_ok (n : Nat) (hn : n ≤ 64) (w : World) (T : Nat) (hT : sumTo (stir n) n = T) : Calls Tryd.prog 25 #[.int .i64 (n : Int)] w (GivesNE T 0 w) := by
  have HT := hide hT
  have d1 : decide ((n : Int) < 0) = false := by simp
  have d2 : decide ((64 : Int) < (n : Int)) = false := by simp; omega
  have B6 : Hid (∀ q, stir n q < B9 ^ 65) := fun q => stir_lt n q hn
  have BS : Hid (∀ q, q ≤ 65 → sumLt (stir n) q < B9 ^ 100) := fun q hq => upB (sumLt_lt B6.out (by omega)) (by omega)
  clear hT
  go_enter Tryd.func25, Tryd.ntmps25
  go_wp2_with fail
  generalize hW : (w.alloc _).alloc _ = W
  obtain ⟨hbW, bR, b4, -⟩ := boxesA2 hW
  clear hW
  have hl4 := b4.lt
  with_reducible refine (hparts_ok n hn _).mono ?_
  rintro e w1 ⟨A, m, c, rfl, hl, -, -, hx, hnw, hb1⟩
  rw [SR_len] at hl
  have hbA := hbW.trans (hb1.mono hbW.size)
  have bR := bR.below' hb1
  have b4 := b4.below' hb1
  have h4 : Cn w1 none 0 0 0 := cnNil
  have HL := hide hl
  have HNE := hide (show ∀ b o, A = some ⟨b, o, none⟩ → b ≠ w.heap.size + 1 from fun b o e => by have := hnw b o e; have := hl4; omega)
  have HG := hide (show w.heap.size ≠ w.heap.size + 1 ∧ w.heap.size ≤ w.heap.size + 1 from ⟨by omega, by omega⟩)
  have hm : m ≤ 65 := by omega
  clear hb1 hbW hl hl4 hnw
  generalize w.heap.size + 1 = g4 at *
  go_wp2_with fail
  go_loopw [6] (fun v6 wr => ∃ q A4 n4 c4, q ≤ m ∧ v6 = .int .i64 ((q : Nat) : Int) ∧ Below w.heap.size w wr ∧ Box wr w.heap.size #[.slice none 0 0] 25 ∧ Box wr g4 #[.slice A4 n4 c4] 25 ∧ NL wr A m (SR n) ∧ Cn wr A4 n4 c4 (sumLt (stir n) q)) (fun v6 _ => m - (intOf v6).toNat)
  case atStart => exact ⟨0, _, _, _, by omega, rfl, hbA, bR, b4, hx, h4⟩
  case round =>
    obtain ⟨q, A4, n4, c4, hq, rfl, hbA, bR, b4, hx, h4⟩ := hrel
    by_cases hlt : q < m
    · obtain ⟨b, o, u1, S1, m1, e1, rfl, hbl, hu1, k1, x1⟩ := hx.at_ hlt
      obtain rfl := SR_val hu1
      have HB := hide (BS.out q (by omega))
      have HB2 := hide (show stir n q < B9 ^ 100 from upB (B6.out q) (by omega))
      have i1 : (0 : Int) ≤ (q : Int) := by omega
      have i2 : (q : Int) < (m : Int) := by omega
      clear hu1
      have KF : Hid (∀ w', Below wr.heap.size wr w' → w'.cell? ⟨g4, 0, none⟩ = some (.slice A4 n4 c4) ∧ w'.cell? ⟨b, o + q, none⟩ = some (.slice S1 m1 e1) ∧ w'.frozen? ⟨g4, 0, none⟩ = false) := fun w' h => ⟨(b4.below' h).cell, (h.cell (p := ⟨b, o + q, none⟩) hbl).trans k1, (b4.below' h).frozen 0⟩
      clear k1
      go_wp2_with fail
      have P0 : Below wr.heap.size wr wr.drew := (Below.refl _ _).drew
      obtain ⟨k0, k1, -⟩ := KF.out _ P0
      go_region_law (first
        | (go_simp; go_at_call 48; (with_reducible refine (radd_n (L := 100) ((h4.below P0).nt HB.out) ((x1.below P0).nt HB2.out) (by omega) (sumLt (stir n) (q + 1)) rfl).mono ?_); rintro e w6 ⟨A6, n6, c6, rfl, r6, l6, m6, hb6⟩; have h6 : Cn w6 A6 n6 c6 (sumLt (stir n) (q + 1)) := ⟨r6, l6, m6⟩; have E6 := P0.trans (hb6.mono P0.size); obtain ⟨y0, y1, e0⟩ := KF.out _ E6))
      all_goals
        have bR := bR.below' E6
        have b4 := b4.below' E6
        have hbA := hbA.trans (E6.mono hbA.size)
        have hx := hx.below E6
        have h6 := h6.far (i := 0) b4 noInt1 (.slice A6 n6 c6)
        have hx : NL (w6.setCell ⟨g4, 0, none⟩ (.slice A6 n6 c6)) (some ⟨b, o, none⟩) m (SR n) := hx.far1 b4 noInt1 (fun b o e => HNE.out b o e) _
        have bR := bR.far (p := ⟨g4, 0, none⟩) HG.out.1 (.slice A6 n6 c6)
        have b4 := b4.put (.slice A6 n6 c6)
        have hbA : Below w.heap.size w (w6.setCell ⟨g4, 0, none⟩ (.slice A6 n6 c6)) := hbA.setCell HG.out.2 _
        clear E6 P0 KF h4 k0 k1 y0 y1 e0 r6 l6 m6 hb6 x1
        generalize w6.setCell (⟨g4, 0, none⟩ : Addr) (.slice A6 n6 c6) = w7 at *
        go_wp2
        go_roundw
        case measure => simp [intOf]; omega
        case rel => exact ⟨q + 1, A6, n6, c6, by omega, by go_num, hbA, bR, b4, hx, h6⟩
    · obtain rfl : q = m := by omega
      have x4 : Cn wr A4 n4 c4 T := by
        have h1 := h4
        rw [← HL.out, sumLt_to, HT.out] at h1
        exact h1
      clear h4
      have k0 := b4.cell
      have g0 := bR.cell
      have f0 := bR.frozen 0
      have h3 := x4.far (i := 0) bR noInt1 (.slice A4 n4 c4)
      have b3 := bR.put (.slice A4 n4 c4)
      go_wp2_with fail
      have k1 := b3.cell
      refine bodyPost_ret (v := .tuple #[.agg #[.slice A4 n4 c4], .int .i64 0]) (by simp [results, Tryd.results25, go_sem, k1]) rfl ?_
      exact ⟨A4, n4, c4, rfl, h3.1, h3.2.1, h3.2.2, hbA.setCell (Nat.le_refl _) _⟩
end Go.Proofs.YtjmiaodjapclbaaDoor
