/- FractionMeans: the walks. -/
import Derived.Test.YtgfdeihfinlfoaaGreatDoorZC
import Derived.Test.YtgfdeihfinlfoaaGreatDoorZLaw
import Derived.Test.YtgfdeihfinlfoaaGreatDoorFOpen
import Derived.Deep.Slices
namespace Go.Proofs.YtgfdeihfinlfoaaGreatDoor
open Go Go.RowKit

set_option maxHeartbeats 16000000 in
set_option maxRecDepth 100000 in
theorem zmeans_no (HA : Hid Awake) (S : Option Addr) (k c : Nat) (w : World) (hT : Zw w) (N M : Nat → Nat) (hO : OL w S k N M) (hk : k ≤ maxLen) (hf : ¬ isFew k N M) :
    Calls Tryz.prog 6 #[.slice S k c] w fun e w' => e = .returned (.bool true) ∧ Below w.heap.size w w' := by
  have HT0 := hide hT
  have HO := hide hO
  have HK := hide hk
  have HF := hide hf
  clear hT hO hk hf
  go_enter Tryz.func6, Tryz.ntmps6
  go_wp2_with fail
  refine (HA.out _ HT0.out.tab).mono ?_
  rintro e w1 ⟨rfl, B⟩
  go_wp2_with fail
  refine (few_any S k c N M _ HK.out (HO.out.few B) false ⟨fun h => absurd h HF.out, fun h => by cases h⟩).mono ?_
  rintro e w2 ⟨rfl, rfl⟩
  go_wp2_with fail
  refine (HA.out _ (HT0.out.below B).tab).mono ?_
  rintro e w3 ⟨rfl, hb⟩
  have B := B.trans (hb.mono B.size)
  clear hb
  go_wp2_with fail
  go_ret
  exact ⟨rfl, B⟩
set_option maxHeartbeats 16000000 in
set_option maxRecDepth 100000 in
theorem zmeans_0 (HA : Hid Awake) (S : Option Addr) (c : Nat) (w : World) (hT : Zw w) (N M : Nat → Nat) (hO : OL w S 0 N M) (hc : c ≤ maxLen) :
    Calls Tryz.prog 6 #[.slice S 0 c] w fun e w' => e = .returned (.bool true) ∧ Below w.heap.size w w' := by
  have HT0 := hide hT
  have CS : Hid (∀ W : World, Below w.heap.size w W → Calls Tryz.prog 21 #[.slice S 0 c] W (GivesF 0 W)) := fun W hW => fsum_0 S c W
  have CT : Hid (∀ W : World, Below w.heap.size w W → Calls Tryz.prog 22 #[.slice S 0 c] W (GivesF 0 W)) := fun W hW => gsum_any S 0 c [] W ⟨rfl, fun h => by omega⟩ (by omega) hc (by omega) 0 rfl
  have C1 : Hid (∀ W : World, Calls Tryz.prog 19 #[.slice S 0 c] W fun e w' => e = .returned (.tuple #[.agg #[.bool false, .slice none 0 0, .slice none 0 0], .int .i64 7]) ∧ Below W.heap.size W w') := fun W => fmean_0 S c W
  have C2 : Hid (∀ W : World, Calls Tryz.prog 20 #[.slice S 0 c] W fun e w' => e = .returned (.tuple #[.agg #[.bool false, .slice none 0 0, .slice none 0 0], .int .i64 7]) ∧ Below W.heap.size W w') := fun W => gmean_0 S c W
  have TS : Hid (Ht 0 200) := (sumR_ht [] (by simp)).up (by simp)
  have HO := hide hO
  have HK := hide (show 0 ≤ maxLen from by simp [maxLen])
  clear hT hO hc
  go_enter Tryz.func6, Tryz.ntmps6
  go_wp2_with fail
  refine (HA.out _ HT0.out.tab).mono ?_
  rintro e w1 ⟨rfl, B⟩
  go_wp2_with fail
  refine (few_any S 0 c N M _ HK.out (HO.out.few B) true ⟨fun _ => rfl, fun _ => ⟨fun i hi => by omega, by omega⟩⟩).mono ?_
  rintro e w2 ⟨rfl, rfl⟩
  go_wp2_with fail
  refine (C1.out _).mono ?_
  rintro e w3 ⟨rfl, hb⟩
  have B := B.trans (hb.mono B.size)
  clear hb
  go_wp2_with fail
  generalize hW : w3.alloc _ = W3
  obtain ⟨hb, bm, -⟩ := boxesA1 hW
  clear hW
  have B := B.trans (hb.mono B.size)
  clear hb
  generalize w3.heap.size = gm at *
  refine (C2.out _).mono ?_
  rintro e w4 ⟨rfl, hb⟩
  have B := B.trans (hb.mono B.size)
  have bm := bm.below' hb
  clear hb
  have lm := bm.lt
  go_wp2_with fail
  generalize hW : w4.alloc _ = W4
  obtain ⟨hb, bn, -⟩ := boxesA1 hW
  clear hW lm
  have B := B.trans (hb.mono B.size)
  have bm := bm.below' hb
  clear hb
  generalize w4.heap.size = gn at *
  refine (CS.out _ B).mono ?_
  rintro e w5 ⟨p7, A7, n7, c7, B7, m7, d7, rfl, x7, hb⟩
  have B := B.trans (hb.mono B.size)
  have bm := bm.below' hb
  have bn := bn.below' hb
  clear hb
  go_wp2_with fail
  refine (CT.out _ B).mono ?_
  rintro e w6 ⟨p8, A8, n8, c8, B8, m8, d8, rfl, x8, hb⟩
  have B := B.trans (hb.mono B.size)
  have bm := bm.below' hb
  have bn := bn.below' hb
  have x7 := x7.below hb
  clear hb
  go_wp2_with fail
  refine (fbase_f x7 x8 TS.out (by omega)).mono ?_
  rintro e w7 ⟨rfl, hb⟩
  have B := B.trans (hb.mono B.size)
  have bm := bm.below' hb
  have bn := bn.below' hb
  clear hb x7 x8
  have k0 : w7.cell? ⟨gm, 0, none⟩ = some (.bool false) := bm.at_ 0
  have k1 : w7.cell? ⟨gm, 1, none⟩ = some (.slice none 0 0) := bm.at_ 1
  have k2 : w7.cell? ⟨gm, 2, none⟩ = some (.slice none 0 0) := bm.at_ 2
  have k3 : w7.cell? ⟨gn, 0, none⟩ = some (.bool false) := bn.at_ 0
  have k4 : w7.cell? ⟨gn, 1, none⟩ = some (.slice none 0 0) := bn.at_ 1
  have k5 : w7.cell? ⟨gn, 2, none⟩ = some (.slice none 0 0) := bn.at_ 2
  go_wp2_with fail
  refine (base_zero _).mono ?_
  rintro e w8 ⟨rfl, hb⟩
  have B := B.trans (hb.mono B.size)
  have bm := bm.below' hb
  clear hb k0 k1 k2 k3 k4 k5 bn
  go_wp2_with fail
  go_loop [7, 8, 9] (fun a b i => a = .bool false ∧ b = .bool false ∧ i = .int .i64 0) (fun _ _ _ => 0)
  case atStart => exact ⟨rfl, rfl, rfl⟩
  case round =>
    obtain ⟨rfl, rfl, rfl⟩ := hrel
    go_wp2_with fail
    go_ret
    exact ⟨rfl, B⟩
theorem ht_natr {k : Nat} (hk : k ≤ 20) : Ht ((k : Nat) : Rat) 1 := Ht.int (i := 1) (k := (k : Int)) (by show k < 1000000000 ^ 1; omega) (by omega)
set_option maxHeartbeats 16000000 in
set_option maxRecDepth 100000 in
theorem zmeans_k (HA : Hid Awake) (S : Option Addr) (k c : Nat) (w : World) (hT : Zw w) (rs : List Rat) (N M : Nat → Nat) (hO : OL w S k N M) (hL : FL w S k 6 rs) (hf : isFew k N M) (hkc : k ≤ c) (hc : c ≤ maxLen) (h0 : k ≠ 0) (mu : Rat) (hmu : sumR rs / ((k : Nat) : Rat) = mu) :
    Calls Tryz.prog 6 #[.slice S k c] w fun e w' => e = .returned (.bool true) ∧ Below w.heap.size w w' := by
  have HT0 := hide hT
  have hk := hf.2
  have CS : Hid (∀ W : World, Below w.heap.size w W → Calls Tryz.prog 21 #[.slice S k c] W (GivesF (sumR rs) W)) := fun W hW => fsumL k k (Nat.le_refl _) S c rs W (hL.below hW) hkc hc hk
  have CT : Hid (∀ W : World, Below w.heap.size w W → Calls Tryz.prog 22 #[.slice S k c] W (GivesF (sumR rs) W)) := fun W hW => gsum_any S k c rs W (hL.below hW) hkc hc hk _ rfl
  have C1 : Hid (∀ W : World, Below w.heap.size w W → Calls Tryz.prog 19 #[.slice S k c] W (GivesFE mu 0 W)) := fun W hW => fmean_k S k c rs W (hL.below hW) hkc hc hk h0 mu hmu
  have C2 : Hid (∀ W : World, Below w.heap.size w W → Calls Tryz.prog 20 #[.slice S k c] W (GivesFE mu 0 W)) := fun W hW => gmean_k S k c rs W (hL.below hW) hkc hc hk h0 mu hmu
  have TS := hide (show Ht (sumR rs) 200 from (sumR_ht _ hL.ht).up (by rw [hL.len]; omega))
  have TM := hide (show Ht mu 400 from by rw [← hmu]; exact (Ht.div TS.out (ht_natr hk)).up (by omega))
  have HZ := hide (belo_all hL.len h0 hmu)
  have HL := hide hL
  have HO := hide hO
  have HF := hide hf
  have HK := hide (show k ≤ maxLen from Nat.le_trans hkc hc)
  have e0 : ((k : Int) == 0) = false := by rw [beq_eq_false_iff_ne]; omega
  clear hT hO hL hf hc hmu h0 hkc
  go_enter Tryz.func6, Tryz.ntmps6
  go_wp2_with fail
  refine (HA.out _ HT0.out.tab).mono ?_
  rintro e w1 ⟨rfl, B⟩
  go_wp2_with fail
  refine (few_any S k c N M _ HK.out (HO.out.few B) true ⟨fun _ => rfl, fun _ => HF.out⟩).mono ?_
  rintro e w2 ⟨rfl, rfl⟩
  go_wp2_with fail
  refine (C1.out _ B).mono ?_
  rintro e w3 ⟨p5, A5, n5, c5, B5, m5, d5, rfl, x5, hb⟩
  have B := B.trans (hb.mono B.size)
  clear hb
  go_wp2_with fail
  generalize hW : w3.alloc _ = W3
  obtain ⟨hb, bm, -⟩ := boxesA1 hW
  clear hW
  have B := B.trans (hb.mono B.size)
  have x5 := x5.below hb
  clear hb
  generalize w3.heap.size = gm at *
  refine (C2.out _ B).mono ?_
  rintro e w4 ⟨p6, A6, n6, c6, B6, m6, d6, rfl, x6, hb⟩
  have B := B.trans (hb.mono B.size)
  have bm := bm.below' hb
  have x5 := x5.below hb
  clear hb
  have lm := bm.lt
  go_wp2_with fail
  generalize hW : w4.alloc _ = W4
  obtain ⟨hb, bn, -⟩ := boxesA1 hW
  clear hW lm
  have B := B.trans (hb.mono B.size)
  have bm := bm.below' hb
  have x5 := x5.below hb
  have x6 := x6.below hb
  clear hb
  generalize w4.heap.size = gn at *
  refine (CS.out _ B).mono ?_
  rintro e w5 ⟨p7, A7, n7, c7, B7, m7, d7, rfl, x7, hb⟩
  have B := B.trans (hb.mono B.size)
  have bm := bm.below' hb
  have bn := bn.below' hb
  have x5 := x5.below hb
  have x6 := x6.below hb
  clear hb
  go_wp2_with fail
  refine (CT.out _ B).mono ?_
  rintro e w6 ⟨p8, A8, n8, c8, B8, m8, d8, rfl, x8, hb⟩
  have B := B.trans (hb.mono B.size)
  have bm := bm.below' hb
  have bn := bn.below' hb
  have x7 := x7.below hb
  have x5 := x5.below hb
  have x6 := x6.below hb
  clear hb
  go_wp2_with fail
  refine (fbase_f x7 x8 TS.out (by omega)).mono ?_
  rintro e w7 ⟨rfl, hb⟩
  have B := B.trans (hb.mono B.size)
  have bm := bm.below' hb
  have bn := bn.below' hb
  have x5 := x5.below hb
  have x6 := x6.below hb
  clear hb x7 x8
  have k0 : w7.cell? ⟨gm, 0, none⟩ = some (.bool p5) := bm.at_ 0
  have k1 : w7.cell? ⟨gm, 1, none⟩ = some (.slice A5 n5 c5) := bm.at_ 1
  have k2 : w7.cell? ⟨gm, 2, none⟩ = some (.slice B5 m5 d5) := bm.at_ 2
  have k3 : w7.cell? ⟨gn, 0, none⟩ = some (.bool p6) := bn.at_ 0
  have k4 : w7.cell? ⟨gn, 1, none⟩ = some (.slice A6 n6 c6) := bn.at_ 1
  have k5 : w7.cell? ⟨gn, 2, none⟩ = some (.slice B6 m6 d6) := bn.at_ 2
  go_wp2_with fail
  refine (fbase_f x5 x6 TM.out (by omega)).mono ?_
  rintro e w8 ⟨rfl, hb⟩
  have B := B.trans (hb.mono B.size)
  have bm := bm.below' hb
  have x5 := x5.below hb
  clear hb k0 k1 k2 k3 k4 k5 bn x6
  go_wp2_with fail
  go_loopg [7, 8, 9] k (fun gk a b i wr => ∃ j : Nat, j + gk = k ∧ i = .int .i64 (j : Int) ∧ a = .bool (belo mu (rs.take j)) ∧ b = .bool (abov mu (rs.take j)) ∧ Below w.heap.size w wr ∧ Box wr gm #[.bool p5, .slice A5 n5 c5, .slice B5 m5 d5] 26 ∧ Fc wr p5 A5 n5 c5 B5 m5 d5 mu)
  case atStart => exact ⟨0, by omega, rfl, rfl, rfl, B, bm, x5⟩
  case round =>
    obtain ⟨j, hj, rfl, rfl, rfl, Br, br, xr⟩ := hrel
    have HJ := hide hj
    by_cases hlt : j < k
    · obtain ⟨b, o, r1, p2, A2, n2, c2, B2, m2, d2, rfl, hr1, k0, k1, k2, hx2, hlb⟩ := (HL.out.below Br).at_ hlt
      have HS1 := hide (show belo mu (rs.take (j + 1)) = (belo mu (rs.take j) || decide (r1 ≤ mu)) from by rw [take_snocR hr1, belo_snoc])
      have HS2 := hide (show abov mu (rs.take (j + 1)) = (abov mu (rs.take j) || decide (mu ≤ r1)) from by rw [take_snocR hr1, abov_snoc])
      have HX2 := hide hx2
      have HXR := hide xr
      obtain ⟨q, hq⟩ : ∃ q, cs r1 mu = q := ⟨_, rfl⟩
      have HQ1 := hide (show decide (q ≤ 0) = decide (r1 ≤ mu) from by rw [← hq]; exact decide_eq_decide.2 (cs_le r1 mu))
      have HQ2 := hide (show decide (0 ≤ q) = decide (mu ≤ r1) from by rw [← hq, cs_swap]; exact decide_eq_decide.2 (by rw [← cs_le mu r1]; omega))
      have HQ := hide hq
      have i0 : (0 : Int) ≤ (j : Int) := by omega
      have i1 : (j : Int) < (k : Int) := by omega
      have HG := hide (show j + 1 + (gk - 1) = k from by omega)
      have hg1 : 1 ≤ gk := by omega
      have lr := br.lt
      clear hr1 hx2 xr hj hq
      rcases hbe : belo mu (rs.take j) with _ | _ <;> rcases hab : abov mu (rs.take j) with _ | _
      · have KS : Hid (∀ w', Below wr.heap.size wr w' → w'.cell? ⟨b, o + j * 3, none⟩ = some (.bool p2) ∧ w'.cell? ⟨b, o + j * 3 + 1, none⟩ = some (.slice A2 n2 c2) ∧ w'.cell? ⟨b, o + j * 3 + 2, none⟩ = some (.slice B2 m2 d2) ∧ w'.cell? ⟨gm, 0, none⟩ = some (.bool p5) ∧ w'.cell? ⟨gm, 1, none⟩ = some (.slice A5 n5 c5) ∧ w'.cell? ⟨gm, 2, none⟩ = some (.slice B5 m5 d5)) := fun w' h => ⟨(h.cell hlb).trans k0, (h.cell hlb).trans k1, (h.cell hlb).trans k2, (br.below h lr).at_ 0, (br.below h lr).at_ 1, (br.below h lr).at_ 2⟩
        rw [hbe] at HS1
        rw [hab] at HS2
        clear hbe hab
        go_wp2_with fail
        have Effa0 : Below wr.heap.size wr wr.drew := (Below.refl _ _).drew
        refine wp_region_held_drew (S := (fun w' => w'.cell? ⟨b, o + j * 3, none⟩ = some (.bool p2) ∧ w'.cell? ⟨b, o + j * 3 + 1, none⟩ = some (.slice A2 n2 c2) ∧ w'.cell? ⟨b, o + j * 3 + 2, none⟩ = some (.slice B2 m2 d2) ∧ w'.cell? ⟨gm, 0, none⟩ = some (.bool p5) ∧ w'.cell? ⟨gm, 1, none⟩ = some (.slice A5 n5 c5) ∧ w'.cell? ⟨gm, 2, none⟩ = some (.slice B5 m5 d5))) (by kernel_rfl) (KS.out _ Effa0) (fun hHeld => ?_)
        refine take_at 0 59 (v := ?vffa0) rfl rfl (by kernel_rfl) (by kernel_rfl) (by kernel_rfl) (fun _ _ _ h => h) (by rfl) ?yffa0 (by assumption) ?rffa0
        case yffa0 => (intro w hSw; (try dsimp only at hSw); (first | (go_simp; done) | (go_simp; with_reducible rfl)))
        try simp only [Act.put, List.setIfInBounds_toArray, List.set_cons_zero, List.set_cons_succ]
        refine take_at 1 60 (v := ?vffa1) rfl rfl (by kernel_rfl) (by kernel_rfl) (by kernel_rfl) (fun _ _ _ h => h) (by rfl) ?yffa1 (by assumption) ?rffa1
        case yffa1 => (intro w hSw; (try dsimp only at hSw); (first | (go_simp; done) | (go_simp; with_reducible rfl)))
        try simp only [Act.put, List.setIfInBounds_toArray, List.set_cons_zero, List.set_cons_succ]
        refine take_at 2 61 (v := ?vffa2) rfl rfl (by kernel_rfl) (by kernel_rfl) (by kernel_rfl) (fun _ _ _ h => h) (by rfl) ?yffa2 (by assumption) ?rffa2
        case yffa2 => (intro w hSw; (try dsimp only at hSw); (first | (go_simp; done) | (go_simp; with_reducible rfl)))
        try simp only [Act.put, List.setIfInBounds_toArray, List.set_cons_zero, List.set_cons_succ]
        refine take_at 3 62 (v := ?vffa3) rfl rfl (by kernel_rfl) (by kernel_rfl) (by kernel_rfl) (fun _ _ _ h => h) (by rfl) ?yffa3 (by assumption) ?rffa3
        case yffa3 => (intro w hSw; (try dsimp only at hSw); (first | (go_simp; done) | (go_simp; with_reducible rfl)))
        try simp only [Act.put, List.setIfInBounds_toArray, List.set_cons_zero, List.set_cons_succ]
        refine take_at 4 63 (v := ?vffa4) rfl rfl (by kernel_rfl) (by kernel_rfl) (by kernel_rfl) (fun _ _ _ h => h) (by rfl) ?yffa4 (by assumption) ?rffa4
        case yffa4 => (intro w hSw; (try dsimp only at hSw); (first | (go_simp; done) | (go_simp; with_reducible rfl)))
        try simp only [Act.put, List.setIfInBounds_toArray, List.set_cons_zero, List.set_cons_succ]
        refine take_at 5 64 (v := ?vffa5) rfl rfl (by kernel_rfl) (by kernel_rfl) (by kernel_rfl) (fun _ _ _ h => h) (by rfl) ?yffa5 (by assumption) ?rffa5
        case yffa5 => (intro w hSw; (try dsimp only at hSw); (first | (go_simp; done) | (go_simp; with_reducible rfl)))
        try simp only [Act.put, List.setIfInBounds_toArray, List.set_cons_zero, List.set_cons_succ]
        refine take_at 6 65 (v := ?vffa6) rfl rfl (by kernel_rfl) (by kernel_rfl) (by kernel_rfl) (fun _ _ _ h => h) (by rfl) ?yffa6 (by assumption) ?rffa6
        case yffa6 => (intro w hSw; (try dsimp only at hSw); (first | (go_simp; done) | (go_simp; with_reducible rfl)))
        try simp only [Act.put, List.setIfInBounds_toArray, List.set_cons_zero, List.set_cons_succ]
        refine come_at 7 rfl (by kernel_rfl) (by rfl) (fun K hK => ?_)
        go_simp
        (with_reducible refine (fcmp_f (L := 400) ((HX2.out.below Effa0).up (by omega)) ((HXR.out.below Effa0).fr TM.out) (by omega) (by omega) q HQ.out).mono ?_)
        rintro e vffa ⟨rfl, hxffa⟩
        have Effa : Below wr.heap.size wr vffa := Effa0.trans (hxffa.mono Effa0.size)
        go_wp2_with fail
        refine hK.out _ _ (KS.out _ Effa) (fun hHeld2 => ?_)
        clear hK K hHeld
        have hHeld := hHeld2
        clear hHeld2
        try simp only [Act.put, List.setIfInBounds_toArray, List.set_cons_zero, List.set_cons_succ]
        refine take_at 8 67 (v := ?vffa8) rfl rfl (by kernel_rfl) (by kernel_rfl) (by kernel_rfl) (fun _ _ _ h => h) (by rfl) ?yffa8 (by assumption) ?rffa8
        case yffa8 => (intro w hSw; (try dsimp only at hSw); (first | (go_simp; done) | (go_simp; with_reducible rfl)))
        try simp only [Act.put, List.setIfInBounds_toArray, List.set_cons_zero, List.set_cons_succ]
        refine take_at 9 68 (v := ?vffa9) rfl rfl (by kernel_rfl) (by kernel_rfl) (by kernel_rfl) (fun _ _ _ h => h) (by rfl) ?yffa9 (by assumption) ?rffa9
        case yffa9 => (intro w hSw; (try dsimp only at hSw); (first | (go_simp; done) | (go_simp; with_reducible rfl)))
        try simp only [Act.put, List.setIfInBounds_toArray, List.set_cons_zero, List.set_cons_succ]
        refine take_at 10 7 (v := ?vffa10) rfl rfl (by kernel_rfl) (by kernel_rfl) (by kernel_rfl) (fun _ _ _ h => h) (by rfl) ?yffa10 (by assumption) ?rffa10
        case yffa10 => (intro w hSw; (try dsimp only at hSw); (first | (go_simp; done) | (go_simp; with_reducible rfl)))
        try simp only [Act.put, List.setIfInBounds_toArray, List.set_cons_zero, List.set_cons_succ]
        refine wpAnyH_done (by kernel_rfl) ?_ _
        have PREV := Effa
        go_wp2_with fail
        have Effb0 : Below wr.heap.size wr vffa.drew := PREV.drew
        refine wp_region_held_drew (S := (fun w' => w'.cell? ⟨b, o + j * 3, none⟩ = some (.bool p2) ∧ w'.cell? ⟨b, o + j * 3 + 1, none⟩ = some (.slice A2 n2 c2) ∧ w'.cell? ⟨b, o + j * 3 + 2, none⟩ = some (.slice B2 m2 d2) ∧ w'.cell? ⟨gm, 0, none⟩ = some (.bool p5) ∧ w'.cell? ⟨gm, 1, none⟩ = some (.slice A5 n5 c5) ∧ w'.cell? ⟨gm, 2, none⟩ = some (.slice B5 m5 d5))) (by kernel_rfl) (KS.out _ Effb0) (fun hHeld => ?_)
        refine take_at 0 69 (v := ?vffb0) rfl rfl (by kernel_rfl) (by kernel_rfl) (by kernel_rfl) (fun _ _ _ h => h) (by rfl) ?yffb0 (by assumption) ?rffb0
        case yffb0 => (intro w hSw; (try dsimp only at hSw); (first | (go_simp; done) | (go_simp; with_reducible rfl)))
        try simp only [Act.put, List.setIfInBounds_toArray, List.set_cons_zero, List.set_cons_succ]
        refine take_at 1 70 (v := ?vffb1) rfl rfl (by kernel_rfl) (by kernel_rfl) (by kernel_rfl) (fun _ _ _ h => h) (by rfl) ?yffb1 (by assumption) ?rffb1
        case yffb1 => (intro w hSw; (try dsimp only at hSw); (first | (go_simp; done) | (go_simp; with_reducible rfl)))
        try simp only [Act.put, List.setIfInBounds_toArray, List.set_cons_zero, List.set_cons_succ]
        refine take_at 2 71 (v := ?vffb2) rfl rfl (by kernel_rfl) (by kernel_rfl) (by kernel_rfl) (fun _ _ _ h => h) (by rfl) ?yffb2 (by assumption) ?rffb2
        case yffb2 => (intro w hSw; (try dsimp only at hSw); (first | (go_simp; done) | (go_simp; with_reducible rfl)))
        try simp only [Act.put, List.setIfInBounds_toArray, List.set_cons_zero, List.set_cons_succ]
        refine take_at 3 72 (v := ?vffb3) rfl rfl (by kernel_rfl) (by kernel_rfl) (by kernel_rfl) (fun _ _ _ h => h) (by rfl) ?yffb3 (by assumption) ?rffb3
        case yffb3 => (intro w hSw; (try dsimp only at hSw); (first | (go_simp; done) | (go_simp; with_reducible rfl)))
        try simp only [Act.put, List.setIfInBounds_toArray, List.set_cons_zero, List.set_cons_succ]
        refine take_at 4 73 (v := ?vffb4) rfl rfl (by kernel_rfl) (by kernel_rfl) (by kernel_rfl) (fun _ _ _ h => h) (by rfl) ?yffb4 (by assumption) ?rffb4
        case yffb4 => (intro w hSw; (try dsimp only at hSw); (first | (go_simp; done) | (go_simp; with_reducible rfl)))
        try simp only [Act.put, List.setIfInBounds_toArray, List.set_cons_zero, List.set_cons_succ]
        refine take_at 5 74 (v := ?vffb5) rfl rfl (by kernel_rfl) (by kernel_rfl) (by kernel_rfl) (fun _ _ _ h => h) (by rfl) ?yffb5 (by assumption) ?rffb5
        case yffb5 => (intro w hSw; (try dsimp only at hSw); (first | (go_simp; done) | (go_simp; with_reducible rfl)))
        try simp only [Act.put, List.setIfInBounds_toArray, List.set_cons_zero, List.set_cons_succ]
        refine take_at 6 75 (v := ?vffb6) rfl rfl (by kernel_rfl) (by kernel_rfl) (by kernel_rfl) (fun _ _ _ h => h) (by rfl) ?yffb6 (by assumption) ?rffb6
        case yffb6 => (intro w hSw; (try dsimp only at hSw); (first | (go_simp; done) | (go_simp; with_reducible rfl)))
        try simp only [Act.put, List.setIfInBounds_toArray, List.set_cons_zero, List.set_cons_succ]
        refine come_at 7 rfl (by kernel_rfl) (by rfl) (fun K hK => ?_)
        go_simp
        (with_reducible refine (fcmp_f (L := 400) ((HX2.out.below Effb0).up (by omega)) ((HXR.out.below Effb0).fr TM.out) (by omega) (by omega) q HQ.out).mono ?_)
        rintro e vffb ⟨rfl, hxffb⟩
        have Effb : Below wr.heap.size wr vffb := Effb0.trans (hxffb.mono Effb0.size)
        go_wp2_with fail
        refine hK.out _ _ (KS.out _ Effb) (fun hHeld2 => ?_)
        clear hK K hHeld
        have hHeld := hHeld2
        clear hHeld2
        try simp only [Act.put, List.setIfInBounds_toArray, List.set_cons_zero, List.set_cons_succ]
        refine take_at 8 77 (v := ?vffb8) rfl rfl (by kernel_rfl) (by kernel_rfl) (by kernel_rfl) (fun _ _ _ h => h) (by rfl) ?yffb8 (by assumption) ?rffb8
        case yffb8 => (intro w hSw; (try dsimp only at hSw); (first | (go_simp; done) | (go_simp; with_reducible rfl)))
        try simp only [Act.put, List.setIfInBounds_toArray, List.set_cons_zero, List.set_cons_succ]
        refine take_at 9 78 (v := ?vffb9) rfl rfl (by kernel_rfl) (by kernel_rfl) (by kernel_rfl) (fun _ _ _ h => h) (by rfl) ?yffb9 (by assumption) ?rffb9
        case yffb9 => (intro w hSw; (try dsimp only at hSw); (first | (go_simp; done) | (go_simp; with_reducible rfl)))
        try simp only [Act.put, List.setIfInBounds_toArray, List.set_cons_zero, List.set_cons_succ]
        refine take_at 10 8 (v := ?vffb10) rfl rfl (by kernel_rfl) (by kernel_rfl) (by kernel_rfl) (fun _ _ _ h => h) (by rfl) ?yffb10 (by assumption) ?rffb10
        case yffb10 => (intro w hSw; (try dsimp only at hSw); (first | (go_simp; done) | (go_simp; with_reducible rfl)))
        try simp only [Act.put, List.setIfInBounds_toArray, List.set_cons_zero, List.set_cons_succ]
        refine wpAnyH_done (by kernel_rfl) ?_ _
        have Br := Br.trans (Effb.mono Br.size)
        have br := br.below Effb lr
        have xr := HXR.out.below Effb
        go_wp2_with fail
        go_roundg (gk - 1)
        case measure => omega
        case rel => exact ⟨j + 1, HG.out, by go_num, by rw [HS1.out, ← HQ1.out]; rfl, by rw [HS2.out, ← HQ2.out]; rfl, Br, br, xr⟩
      · have KS : Hid (∀ w', Below wr.heap.size wr w' → w'.cell? ⟨b, o + j * 3, none⟩ = some (.bool p2) ∧ w'.cell? ⟨b, o + j * 3 + 1, none⟩ = some (.slice A2 n2 c2) ∧ w'.cell? ⟨b, o + j * 3 + 2, none⟩ = some (.slice B2 m2 d2) ∧ w'.cell? ⟨gm, 0, none⟩ = some (.bool p5) ∧ w'.cell? ⟨gm, 1, none⟩ = some (.slice A5 n5 c5) ∧ w'.cell? ⟨gm, 2, none⟩ = some (.slice B5 m5 d5)) := fun w' h => ⟨(h.cell hlb).trans k0, (h.cell hlb).trans k1, (h.cell hlb).trans k2, (br.below h lr).at_ 0, (br.below h lr).at_ 1, (br.below h lr).at_ 2⟩
        rw [hbe] at HS1
        rw [hab] at HS2
        clear hbe hab
        go_wp2_with fail
        have Efta0 : Below wr.heap.size wr wr.drew := (Below.refl _ _).drew
        refine wp_region_held_drew (S := (fun w' => w'.cell? ⟨b, o + j * 3, none⟩ = some (.bool p2) ∧ w'.cell? ⟨b, o + j * 3 + 1, none⟩ = some (.slice A2 n2 c2) ∧ w'.cell? ⟨b, o + j * 3 + 2, none⟩ = some (.slice B2 m2 d2) ∧ w'.cell? ⟨gm, 0, none⟩ = some (.bool p5) ∧ w'.cell? ⟨gm, 1, none⟩ = some (.slice A5 n5 c5) ∧ w'.cell? ⟨gm, 2, none⟩ = some (.slice B5 m5 d5))) (by kernel_rfl) (KS.out _ Efta0) (fun hHeld => ?_)
        refine take_at 0 59 (v := ?vfta0) rfl rfl (by kernel_rfl) (by kernel_rfl) (by kernel_rfl) (fun _ _ _ h => h) (by rfl) ?yfta0 (by assumption) ?rfta0
        case yfta0 => (intro w hSw; (try dsimp only at hSw); (first | (go_simp; done) | (go_simp; with_reducible rfl)))
        try simp only [Act.put, List.setIfInBounds_toArray, List.set_cons_zero, List.set_cons_succ]
        refine take_at 1 60 (v := ?vfta1) rfl rfl (by kernel_rfl) (by kernel_rfl) (by kernel_rfl) (fun _ _ _ h => h) (by rfl) ?yfta1 (by assumption) ?rfta1
        case yfta1 => (intro w hSw; (try dsimp only at hSw); (first | (go_simp; done) | (go_simp; with_reducible rfl)))
        try simp only [Act.put, List.setIfInBounds_toArray, List.set_cons_zero, List.set_cons_succ]
        refine take_at 2 61 (v := ?vfta2) rfl rfl (by kernel_rfl) (by kernel_rfl) (by kernel_rfl) (fun _ _ _ h => h) (by rfl) ?yfta2 (by assumption) ?rfta2
        case yfta2 => (intro w hSw; (try dsimp only at hSw); (first | (go_simp; done) | (go_simp; with_reducible rfl)))
        try simp only [Act.put, List.setIfInBounds_toArray, List.set_cons_zero, List.set_cons_succ]
        refine take_at 3 62 (v := ?vfta3) rfl rfl (by kernel_rfl) (by kernel_rfl) (by kernel_rfl) (fun _ _ _ h => h) (by rfl) ?yfta3 (by assumption) ?rfta3
        case yfta3 => (intro w hSw; (try dsimp only at hSw); (first | (go_simp; done) | (go_simp; with_reducible rfl)))
        try simp only [Act.put, List.setIfInBounds_toArray, List.set_cons_zero, List.set_cons_succ]
        refine take_at 4 63 (v := ?vfta4) rfl rfl (by kernel_rfl) (by kernel_rfl) (by kernel_rfl) (fun _ _ _ h => h) (by rfl) ?yfta4 (by assumption) ?rfta4
        case yfta4 => (intro w hSw; (try dsimp only at hSw); (first | (go_simp; done) | (go_simp; with_reducible rfl)))
        try simp only [Act.put, List.setIfInBounds_toArray, List.set_cons_zero, List.set_cons_succ]
        refine take_at 5 64 (v := ?vfta5) rfl rfl (by kernel_rfl) (by kernel_rfl) (by kernel_rfl) (fun _ _ _ h => h) (by rfl) ?yfta5 (by assumption) ?rfta5
        case yfta5 => (intro w hSw; (try dsimp only at hSw); (first | (go_simp; done) | (go_simp; with_reducible rfl)))
        try simp only [Act.put, List.setIfInBounds_toArray, List.set_cons_zero, List.set_cons_succ]
        refine take_at 6 65 (v := ?vfta6) rfl rfl (by kernel_rfl) (by kernel_rfl) (by kernel_rfl) (fun _ _ _ h => h) (by rfl) ?yfta6 (by assumption) ?rfta6
        case yfta6 => (intro w hSw; (try dsimp only at hSw); (first | (go_simp; done) | (go_simp; with_reducible rfl)))
        try simp only [Act.put, List.setIfInBounds_toArray, List.set_cons_zero, List.set_cons_succ]
        refine come_at 7 rfl (by kernel_rfl) (by rfl) (fun K hK => ?_)
        go_simp
        (with_reducible refine (fcmp_f (L := 400) ((HX2.out.below Efta0).up (by omega)) ((HXR.out.below Efta0).fr TM.out) (by omega) (by omega) q HQ.out).mono ?_)
        rintro e vfta ⟨rfl, hxfta⟩
        have Efta : Below wr.heap.size wr vfta := Efta0.trans (hxfta.mono Efta0.size)
        go_wp2_with fail
        refine hK.out _ _ (KS.out _ Efta) (fun hHeld2 => ?_)
        clear hK K hHeld
        have hHeld := hHeld2
        clear hHeld2
        try simp only [Act.put, List.setIfInBounds_toArray, List.set_cons_zero, List.set_cons_succ]
        refine take_at 8 67 (v := ?vfta8) rfl rfl (by kernel_rfl) (by kernel_rfl) (by kernel_rfl) (fun _ _ _ h => h) (by rfl) ?yfta8 (by assumption) ?rfta8
        case yfta8 => (intro w hSw; (try dsimp only at hSw); (first | (go_simp; done) | (go_simp; with_reducible rfl)))
        try simp only [Act.put, List.setIfInBounds_toArray, List.set_cons_zero, List.set_cons_succ]
        refine take_at 9 68 (v := ?vfta9) rfl rfl (by kernel_rfl) (by kernel_rfl) (by kernel_rfl) (fun _ _ _ h => h) (by rfl) ?yfta9 (by assumption) ?rfta9
        case yfta9 => (intro w hSw; (try dsimp only at hSw); (first | (go_simp; done) | (go_simp; with_reducible rfl)))
        try simp only [Act.put, List.setIfInBounds_toArray, List.set_cons_zero, List.set_cons_succ]
        refine take_at 10 7 (v := ?vfta10) rfl rfl (by kernel_rfl) (by kernel_rfl) (by kernel_rfl) (fun _ _ _ h => h) (by rfl) ?yfta10 (by assumption) ?rfta10
        case yfta10 => (intro w hSw; (try dsimp only at hSw); (first | (go_simp; done) | (go_simp; with_reducible rfl)))
        try simp only [Act.put, List.setIfInBounds_toArray, List.set_cons_zero, List.set_cons_succ]
        refine wpAnyH_done (by kernel_rfl) ?_ _
        have PREV := Efta
        go_wp2_with fail
        have Eftb0 : Below wr.heap.size wr vfta.drew := PREV.drew
        refine wp_region_held_drew (S := (fun w' => w'.cell? ⟨b, o + j * 3, none⟩ = some (.bool p2) ∧ w'.cell? ⟨b, o + j * 3 + 1, none⟩ = some (.slice A2 n2 c2) ∧ w'.cell? ⟨b, o + j * 3 + 2, none⟩ = some (.slice B2 m2 d2) ∧ w'.cell? ⟨gm, 0, none⟩ = some (.bool p5) ∧ w'.cell? ⟨gm, 1, none⟩ = some (.slice A5 n5 c5) ∧ w'.cell? ⟨gm, 2, none⟩ = some (.slice B5 m5 d5))) (by kernel_rfl) (KS.out _ Eftb0) (fun hHeld => ?_)
        refine take_at 0 69 (v := ?vftb0) rfl rfl (by kernel_rfl) (by kernel_rfl) (by kernel_rfl) (fun _ _ _ h => h) (by rfl) ?yftb0 (by assumption) ?rftb0
        case yftb0 => (intro w hSw; (try dsimp only at hSw); (first | (go_simp; done) | (go_simp; with_reducible rfl)))
        try simp only [Act.put, List.setIfInBounds_toArray, List.set_cons_zero, List.set_cons_succ]
        refine take_at 1 70 (v := ?vftb1) rfl rfl (by kernel_rfl) (by kernel_rfl) (by kernel_rfl) (fun _ _ _ h => h) (by rfl) ?yftb1 (by assumption) ?rftb1
        case yftb1 => (intro w hSw; (try dsimp only at hSw); (first | (go_simp; done) | (go_simp; with_reducible rfl)))
        try simp only [Act.put, List.setIfInBounds_toArray, List.set_cons_zero, List.set_cons_succ]
        refine pass_at 2 71 rfl rfl (by kernel_rfl) (by kernel_rfl) (by kernel_rfl) (fun _ _ _ h => h) (by rfl) (by assumption) ?_
        try simp only [Act.put, List.setIfInBounds_toArray, List.set_cons_zero, List.set_cons_succ]
        refine pass_at 3 72 rfl rfl (by kernel_rfl) (by kernel_rfl) (by kernel_rfl) (fun _ _ _ h => h) (by rfl) (by assumption) ?_
        try simp only [Act.put, List.setIfInBounds_toArray, List.set_cons_zero, List.set_cons_succ]
        refine pass_at 4 73 rfl rfl (by kernel_rfl) (by kernel_rfl) (by kernel_rfl) (fun _ _ _ h => h) (by rfl) (by assumption) ?_
        try simp only [Act.put, List.setIfInBounds_toArray, List.set_cons_zero, List.set_cons_succ]
        refine pass_at 5 74 rfl rfl (by kernel_rfl) (by kernel_rfl) (by kernel_rfl) (fun _ _ _ h => h) (by rfl) (by assumption) ?_
        try simp only [Act.put, List.setIfInBounds_toArray, List.set_cons_zero, List.set_cons_succ]
        refine pass_at 6 75 rfl rfl (by kernel_rfl) (by kernel_rfl) (by kernel_rfl) (fun _ _ _ h => h) (by rfl) (by assumption) ?_
        try simp only [Act.put, List.setIfInBounds_toArray, List.set_cons_zero, List.set_cons_succ]
        refine pass_at 7 76 rfl rfl (by kernel_rfl) (by kernel_rfl) (by kernel_rfl) (fun _ _ _ h => h) (by rfl) (by assumption) ?_
        try simp only [Act.put, List.setIfInBounds_toArray, List.set_cons_zero, List.set_cons_succ]
        refine pass_at 8 77 rfl rfl (by kernel_rfl) (by kernel_rfl) (by kernel_rfl) (fun _ _ _ h => h) (by rfl) (by assumption) ?_
        try simp only [Act.put, List.setIfInBounds_toArray, List.set_cons_zero, List.set_cons_succ]
        refine take_at 9 78 (v := ?vftb9) rfl rfl (by kernel_rfl) (by kernel_rfl) (by kernel_rfl) (fun _ _ _ h => h) (by rfl) ?yftb9 (by assumption) ?rftb9
        case yftb9 => (intro w hSw; (try dsimp only at hSw); (first | (go_simp; done) | (go_simp; with_reducible rfl)))
        try simp only [Act.put, List.setIfInBounds_toArray, List.set_cons_zero, List.set_cons_succ]
        refine take_at 10 8 (v := ?vftb10) rfl rfl (by kernel_rfl) (by kernel_rfl) (by kernel_rfl) (fun _ _ _ h => h) (by rfl) ?yftb10 (by assumption) ?rftb10
        case yftb10 => (intro w hSw; (try dsimp only at hSw); (first | (go_simp; done) | (go_simp; with_reducible rfl)))
        try simp only [Act.put, List.setIfInBounds_toArray, List.set_cons_zero, List.set_cons_succ]
        refine wpAnyH_done (by kernel_rfl) ?_ _
        have Eftb := Eftb0
        have Br := Br.trans (Eftb.mono Br.size)
        have br := br.below Eftb lr
        have xr := HXR.out.below Eftb
        go_wp2_with fail
        go_roundg (gk - 1)
        case measure => omega
        case rel => exact ⟨j + 1, HG.out, by go_num, by rw [HS1.out, ← HQ1.out]; rfl, by rw [HS2.out]; rfl, Br, br, xr⟩
      · have KS : Hid (∀ w', Below wr.heap.size wr w' → w'.cell? ⟨b, o + j * 3, none⟩ = some (.bool p2) ∧ w'.cell? ⟨b, o + j * 3 + 1, none⟩ = some (.slice A2 n2 c2) ∧ w'.cell? ⟨b, o + j * 3 + 2, none⟩ = some (.slice B2 m2 d2) ∧ w'.cell? ⟨gm, 0, none⟩ = some (.bool p5) ∧ w'.cell? ⟨gm, 1, none⟩ = some (.slice A5 n5 c5) ∧ w'.cell? ⟨gm, 2, none⟩ = some (.slice B5 m5 d5)) := fun w' h => ⟨(h.cell hlb).trans k0, (h.cell hlb).trans k1, (h.cell hlb).trans k2, (br.below h lr).at_ 0, (br.below h lr).at_ 1, (br.below h lr).at_ 2⟩
        rw [hbe] at HS1
        rw [hab] at HS2
        clear hbe hab
        go_wp2_with fail
        have Etfa0 : Below wr.heap.size wr wr.drew := (Below.refl _ _).drew
        refine wp_region_held_drew (S := (fun w' => w'.cell? ⟨b, o + j * 3, none⟩ = some (.bool p2) ∧ w'.cell? ⟨b, o + j * 3 + 1, none⟩ = some (.slice A2 n2 c2) ∧ w'.cell? ⟨b, o + j * 3 + 2, none⟩ = some (.slice B2 m2 d2) ∧ w'.cell? ⟨gm, 0, none⟩ = some (.bool p5) ∧ w'.cell? ⟨gm, 1, none⟩ = some (.slice A5 n5 c5) ∧ w'.cell? ⟨gm, 2, none⟩ = some (.slice B5 m5 d5))) (by kernel_rfl) (KS.out _ Etfa0) (fun hHeld => ?_)
        refine take_at 0 59 (v := ?vtfa0) rfl rfl (by kernel_rfl) (by kernel_rfl) (by kernel_rfl) (fun _ _ _ h => h) (by rfl) ?ytfa0 (by assumption) ?rtfa0
        case ytfa0 => (intro w hSw; (try dsimp only at hSw); (first | (go_simp; done) | (go_simp; with_reducible rfl)))
        try simp only [Act.put, List.setIfInBounds_toArray, List.set_cons_zero, List.set_cons_succ]
        refine take_at 1 60 (v := ?vtfa1) rfl rfl (by kernel_rfl) (by kernel_rfl) (by kernel_rfl) (fun _ _ _ h => h) (by rfl) ?ytfa1 (by assumption) ?rtfa1
        case ytfa1 => (intro w hSw; (try dsimp only at hSw); (first | (go_simp; done) | (go_simp; with_reducible rfl)))
        try simp only [Act.put, List.setIfInBounds_toArray, List.set_cons_zero, List.set_cons_succ]
        refine pass_at 2 61 rfl rfl (by kernel_rfl) (by kernel_rfl) (by kernel_rfl) (fun _ _ _ h => h) (by rfl) (by assumption) ?_
        try simp only [Act.put, List.setIfInBounds_toArray, List.set_cons_zero, List.set_cons_succ]
        refine pass_at 3 62 rfl rfl (by kernel_rfl) (by kernel_rfl) (by kernel_rfl) (fun _ _ _ h => h) (by rfl) (by assumption) ?_
        try simp only [Act.put, List.setIfInBounds_toArray, List.set_cons_zero, List.set_cons_succ]
        refine pass_at 4 63 rfl rfl (by kernel_rfl) (by kernel_rfl) (by kernel_rfl) (fun _ _ _ h => h) (by rfl) (by assumption) ?_
        try simp only [Act.put, List.setIfInBounds_toArray, List.set_cons_zero, List.set_cons_succ]
        refine pass_at 5 64 rfl rfl (by kernel_rfl) (by kernel_rfl) (by kernel_rfl) (fun _ _ _ h => h) (by rfl) (by assumption) ?_
        try simp only [Act.put, List.setIfInBounds_toArray, List.set_cons_zero, List.set_cons_succ]
        refine pass_at 6 65 rfl rfl (by kernel_rfl) (by kernel_rfl) (by kernel_rfl) (fun _ _ _ h => h) (by rfl) (by assumption) ?_
        try simp only [Act.put, List.setIfInBounds_toArray, List.set_cons_zero, List.set_cons_succ]
        refine pass_at 7 66 rfl rfl (by kernel_rfl) (by kernel_rfl) (by kernel_rfl) (fun _ _ _ h => h) (by rfl) (by assumption) ?_
        try simp only [Act.put, List.setIfInBounds_toArray, List.set_cons_zero, List.set_cons_succ]
        refine pass_at 8 67 rfl rfl (by kernel_rfl) (by kernel_rfl) (by kernel_rfl) (fun _ _ _ h => h) (by rfl) (by assumption) ?_
        try simp only [Act.put, List.setIfInBounds_toArray, List.set_cons_zero, List.set_cons_succ]
        refine take_at 9 68 (v := ?vtfa9) rfl rfl (by kernel_rfl) (by kernel_rfl) (by kernel_rfl) (fun _ _ _ h => h) (by rfl) ?ytfa9 (by assumption) ?rtfa9
        case ytfa9 => (intro w hSw; (try dsimp only at hSw); (first | (go_simp; done) | (go_simp; with_reducible rfl)))
        try simp only [Act.put, List.setIfInBounds_toArray, List.set_cons_zero, List.set_cons_succ]
        refine take_at 10 7 (v := ?vtfa10) rfl rfl (by kernel_rfl) (by kernel_rfl) (by kernel_rfl) (fun _ _ _ h => h) (by rfl) ?ytfa10 (by assumption) ?rtfa10
        case ytfa10 => (intro w hSw; (try dsimp only at hSw); (first | (go_simp; done) | (go_simp; with_reducible rfl)))
        try simp only [Act.put, List.setIfInBounds_toArray, List.set_cons_zero, List.set_cons_succ]
        refine wpAnyH_done (by kernel_rfl) ?_ _
        have Etfa := Etfa0
        have PREV := Etfa
        go_wp2_with fail
        have Etfb0 : Below wr.heap.size wr wr.drew.drew := PREV.drew
        refine wp_region_held_drew (S := (fun w' => w'.cell? ⟨b, o + j * 3, none⟩ = some (.bool p2) ∧ w'.cell? ⟨b, o + j * 3 + 1, none⟩ = some (.slice A2 n2 c2) ∧ w'.cell? ⟨b, o + j * 3 + 2, none⟩ = some (.slice B2 m2 d2) ∧ w'.cell? ⟨gm, 0, none⟩ = some (.bool p5) ∧ w'.cell? ⟨gm, 1, none⟩ = some (.slice A5 n5 c5) ∧ w'.cell? ⟨gm, 2, none⟩ = some (.slice B5 m5 d5))) (by kernel_rfl) (KS.out _ Etfb0) (fun hHeld => ?_)
        refine take_at 0 69 (v := ?vtfb0) rfl rfl (by kernel_rfl) (by kernel_rfl) (by kernel_rfl) (fun _ _ _ h => h) (by rfl) ?ytfb0 (by assumption) ?rtfb0
        case ytfb0 => (intro w hSw; (try dsimp only at hSw); (first | (go_simp; done) | (go_simp; with_reducible rfl)))
        try simp only [Act.put, List.setIfInBounds_toArray, List.set_cons_zero, List.set_cons_succ]
        refine take_at 1 70 (v := ?vtfb1) rfl rfl (by kernel_rfl) (by kernel_rfl) (by kernel_rfl) (fun _ _ _ h => h) (by rfl) ?ytfb1 (by assumption) ?rtfb1
        case ytfb1 => (intro w hSw; (try dsimp only at hSw); (first | (go_simp; done) | (go_simp; with_reducible rfl)))
        try simp only [Act.put, List.setIfInBounds_toArray, List.set_cons_zero, List.set_cons_succ]
        refine take_at 2 71 (v := ?vtfb2) rfl rfl (by kernel_rfl) (by kernel_rfl) (by kernel_rfl) (fun _ _ _ h => h) (by rfl) ?ytfb2 (by assumption) ?rtfb2
        case ytfb2 => (intro w hSw; (try dsimp only at hSw); (first | (go_simp; done) | (go_simp; with_reducible rfl)))
        try simp only [Act.put, List.setIfInBounds_toArray, List.set_cons_zero, List.set_cons_succ]
        refine take_at 3 72 (v := ?vtfb3) rfl rfl (by kernel_rfl) (by kernel_rfl) (by kernel_rfl) (fun _ _ _ h => h) (by rfl) ?ytfb3 (by assumption) ?rtfb3
        case ytfb3 => (intro w hSw; (try dsimp only at hSw); (first | (go_simp; done) | (go_simp; with_reducible rfl)))
        try simp only [Act.put, List.setIfInBounds_toArray, List.set_cons_zero, List.set_cons_succ]
        refine take_at 4 73 (v := ?vtfb4) rfl rfl (by kernel_rfl) (by kernel_rfl) (by kernel_rfl) (fun _ _ _ h => h) (by rfl) ?ytfb4 (by assumption) ?rtfb4
        case ytfb4 => (intro w hSw; (try dsimp only at hSw); (first | (go_simp; done) | (go_simp; with_reducible rfl)))
        try simp only [Act.put, List.setIfInBounds_toArray, List.set_cons_zero, List.set_cons_succ]
        refine take_at 5 74 (v := ?vtfb5) rfl rfl (by kernel_rfl) (by kernel_rfl) (by kernel_rfl) (fun _ _ _ h => h) (by rfl) ?ytfb5 (by assumption) ?rtfb5
        case ytfb5 => (intro w hSw; (try dsimp only at hSw); (first | (go_simp; done) | (go_simp; with_reducible rfl)))
        try simp only [Act.put, List.setIfInBounds_toArray, List.set_cons_zero, List.set_cons_succ]
        refine take_at 6 75 (v := ?vtfb6) rfl rfl (by kernel_rfl) (by kernel_rfl) (by kernel_rfl) (fun _ _ _ h => h) (by rfl) ?ytfb6 (by assumption) ?rtfb6
        case ytfb6 => (intro w hSw; (try dsimp only at hSw); (first | (go_simp; done) | (go_simp; with_reducible rfl)))
        try simp only [Act.put, List.setIfInBounds_toArray, List.set_cons_zero, List.set_cons_succ]
        refine come_at 7 rfl (by kernel_rfl) (by rfl) (fun K hK => ?_)
        go_simp
        (with_reducible refine (fcmp_f (L := 400) ((HX2.out.below Etfb0).up (by omega)) ((HXR.out.below Etfb0).fr TM.out) (by omega) (by omega) q HQ.out).mono ?_)
        rintro e vtfb ⟨rfl, hxtfb⟩
        have Etfb : Below wr.heap.size wr vtfb := Etfb0.trans (hxtfb.mono Etfb0.size)
        go_wp2_with fail
        refine hK.out _ _ (KS.out _ Etfb) (fun hHeld2 => ?_)
        clear hK K hHeld
        have hHeld := hHeld2
        clear hHeld2
        try simp only [Act.put, List.setIfInBounds_toArray, List.set_cons_zero, List.set_cons_succ]
        refine take_at 8 77 (v := ?vtfb8) rfl rfl (by kernel_rfl) (by kernel_rfl) (by kernel_rfl) (fun _ _ _ h => h) (by rfl) ?ytfb8 (by assumption) ?rtfb8
        case ytfb8 => (intro w hSw; (try dsimp only at hSw); (first | (go_simp; done) | (go_simp; with_reducible rfl)))
        try simp only [Act.put, List.setIfInBounds_toArray, List.set_cons_zero, List.set_cons_succ]
        refine take_at 9 78 (v := ?vtfb9) rfl rfl (by kernel_rfl) (by kernel_rfl) (by kernel_rfl) (fun _ _ _ h => h) (by rfl) ?ytfb9 (by assumption) ?rtfb9
        case ytfb9 => (intro w hSw; (try dsimp only at hSw); (first | (go_simp; done) | (go_simp; with_reducible rfl)))
        try simp only [Act.put, List.setIfInBounds_toArray, List.set_cons_zero, List.set_cons_succ]
        refine take_at 10 8 (v := ?vtfb10) rfl rfl (by kernel_rfl) (by kernel_rfl) (by kernel_rfl) (fun _ _ _ h => h) (by rfl) ?ytfb10 (by assumption) ?rtfb10
        case ytfb10 => (intro w hSw; (try dsimp only at hSw); (first | (go_simp; done) | (go_simp; with_reducible rfl)))
        try simp only [Act.put, List.setIfInBounds_toArray, List.set_cons_zero, List.set_cons_succ]
        refine wpAnyH_done (by kernel_rfl) ?_ _
        have Br := Br.trans (Etfb.mono Br.size)
        have br := br.below Etfb lr
        have xr := HXR.out.below Etfb
        go_wp2_with fail
        go_roundg (gk - 1)
        case measure => omega
        case rel => exact ⟨j + 1, HG.out, by go_num, by rw [HS1.out]; rfl, by rw [HS2.out, ← HQ2.out]; rfl, Br, br, xr⟩
      · have KS : Hid (∀ w', Below wr.heap.size wr w' → w'.cell? ⟨b, o + j * 3, none⟩ = some (.bool p2) ∧ w'.cell? ⟨b, o + j * 3 + 1, none⟩ = some (.slice A2 n2 c2) ∧ w'.cell? ⟨b, o + j * 3 + 2, none⟩ = some (.slice B2 m2 d2) ∧ w'.cell? ⟨gm, 0, none⟩ = some (.bool p5) ∧ w'.cell? ⟨gm, 1, none⟩ = some (.slice A5 n5 c5) ∧ w'.cell? ⟨gm, 2, none⟩ = some (.slice B5 m5 d5)) := fun w' h => ⟨(h.cell hlb).trans k0, (h.cell hlb).trans k1, (h.cell hlb).trans k2, (br.below h lr).at_ 0, (br.below h lr).at_ 1, (br.below h lr).at_ 2⟩
        rw [hbe] at HS1
        rw [hab] at HS2
        clear hbe hab
        go_wp2_with fail
        have Etta0 : Below wr.heap.size wr wr.drew := (Below.refl _ _).drew
        refine wp_region_held_drew (S := (fun w' => w'.cell? ⟨b, o + j * 3, none⟩ = some (.bool p2) ∧ w'.cell? ⟨b, o + j * 3 + 1, none⟩ = some (.slice A2 n2 c2) ∧ w'.cell? ⟨b, o + j * 3 + 2, none⟩ = some (.slice B2 m2 d2) ∧ w'.cell? ⟨gm, 0, none⟩ = some (.bool p5) ∧ w'.cell? ⟨gm, 1, none⟩ = some (.slice A5 n5 c5) ∧ w'.cell? ⟨gm, 2, none⟩ = some (.slice B5 m5 d5))) (by kernel_rfl) (KS.out _ Etta0) (fun hHeld => ?_)
        refine take_at 0 59 (v := ?vtta0) rfl rfl (by kernel_rfl) (by kernel_rfl) (by kernel_rfl) (fun _ _ _ h => h) (by rfl) ?ytta0 (by assumption) ?rtta0
        case ytta0 => (intro w hSw; (try dsimp only at hSw); (first | (go_simp; done) | (go_simp; with_reducible rfl)))
        try simp only [Act.put, List.setIfInBounds_toArray, List.set_cons_zero, List.set_cons_succ]
        refine take_at 1 60 (v := ?vtta1) rfl rfl (by kernel_rfl) (by kernel_rfl) (by kernel_rfl) (fun _ _ _ h => h) (by rfl) ?ytta1 (by assumption) ?rtta1
        case ytta1 => (intro w hSw; (try dsimp only at hSw); (first | (go_simp; done) | (go_simp; with_reducible rfl)))
        try simp only [Act.put, List.setIfInBounds_toArray, List.set_cons_zero, List.set_cons_succ]
        refine pass_at 2 61 rfl rfl (by kernel_rfl) (by kernel_rfl) (by kernel_rfl) (fun _ _ _ h => h) (by rfl) (by assumption) ?_
        try simp only [Act.put, List.setIfInBounds_toArray, List.set_cons_zero, List.set_cons_succ]
        refine pass_at 3 62 rfl rfl (by kernel_rfl) (by kernel_rfl) (by kernel_rfl) (fun _ _ _ h => h) (by rfl) (by assumption) ?_
        try simp only [Act.put, List.setIfInBounds_toArray, List.set_cons_zero, List.set_cons_succ]
        refine pass_at 4 63 rfl rfl (by kernel_rfl) (by kernel_rfl) (by kernel_rfl) (fun _ _ _ h => h) (by rfl) (by assumption) ?_
        try simp only [Act.put, List.setIfInBounds_toArray, List.set_cons_zero, List.set_cons_succ]
        refine pass_at 5 64 rfl rfl (by kernel_rfl) (by kernel_rfl) (by kernel_rfl) (fun _ _ _ h => h) (by rfl) (by assumption) ?_
        try simp only [Act.put, List.setIfInBounds_toArray, List.set_cons_zero, List.set_cons_succ]
        refine pass_at 6 65 rfl rfl (by kernel_rfl) (by kernel_rfl) (by kernel_rfl) (fun _ _ _ h => h) (by rfl) (by assumption) ?_
        try simp only [Act.put, List.setIfInBounds_toArray, List.set_cons_zero, List.set_cons_succ]
        refine pass_at 7 66 rfl rfl (by kernel_rfl) (by kernel_rfl) (by kernel_rfl) (fun _ _ _ h => h) (by rfl) (by assumption) ?_
        try simp only [Act.put, List.setIfInBounds_toArray, List.set_cons_zero, List.set_cons_succ]
        refine pass_at 8 67 rfl rfl (by kernel_rfl) (by kernel_rfl) (by kernel_rfl) (fun _ _ _ h => h) (by rfl) (by assumption) ?_
        try simp only [Act.put, List.setIfInBounds_toArray, List.set_cons_zero, List.set_cons_succ]
        refine take_at 9 68 (v := ?vtta9) rfl rfl (by kernel_rfl) (by kernel_rfl) (by kernel_rfl) (fun _ _ _ h => h) (by rfl) ?ytta9 (by assumption) ?rtta9
        case ytta9 => (intro w hSw; (try dsimp only at hSw); (first | (go_simp; done) | (go_simp; with_reducible rfl)))
        try simp only [Act.put, List.setIfInBounds_toArray, List.set_cons_zero, List.set_cons_succ]
        refine take_at 10 7 (v := ?vtta10) rfl rfl (by kernel_rfl) (by kernel_rfl) (by kernel_rfl) (fun _ _ _ h => h) (by rfl) ?ytta10 (by assumption) ?rtta10
        case ytta10 => (intro w hSw; (try dsimp only at hSw); (first | (go_simp; done) | (go_simp; with_reducible rfl)))
        try simp only [Act.put, List.setIfInBounds_toArray, List.set_cons_zero, List.set_cons_succ]
        refine wpAnyH_done (by kernel_rfl) ?_ _
        have Etta := Etta0
        have PREV := Etta
        go_wp2_with fail
        have Ettb0 : Below wr.heap.size wr wr.drew.drew := PREV.drew
        refine wp_region_held_drew (S := (fun w' => w'.cell? ⟨b, o + j * 3, none⟩ = some (.bool p2) ∧ w'.cell? ⟨b, o + j * 3 + 1, none⟩ = some (.slice A2 n2 c2) ∧ w'.cell? ⟨b, o + j * 3 + 2, none⟩ = some (.slice B2 m2 d2) ∧ w'.cell? ⟨gm, 0, none⟩ = some (.bool p5) ∧ w'.cell? ⟨gm, 1, none⟩ = some (.slice A5 n5 c5) ∧ w'.cell? ⟨gm, 2, none⟩ = some (.slice B5 m5 d5))) (by kernel_rfl) (KS.out _ Ettb0) (fun hHeld => ?_)
        refine take_at 0 69 (v := ?vttb0) rfl rfl (by kernel_rfl) (by kernel_rfl) (by kernel_rfl) (fun _ _ _ h => h) (by rfl) ?yttb0 (by assumption) ?rttb0
        case yttb0 => (intro w hSw; (try dsimp only at hSw); (first | (go_simp; done) | (go_simp; with_reducible rfl)))
        try simp only [Act.put, List.setIfInBounds_toArray, List.set_cons_zero, List.set_cons_succ]
        refine take_at 1 70 (v := ?vttb1) rfl rfl (by kernel_rfl) (by kernel_rfl) (by kernel_rfl) (fun _ _ _ h => h) (by rfl) ?yttb1 (by assumption) ?rttb1
        case yttb1 => (intro w hSw; (try dsimp only at hSw); (first | (go_simp; done) | (go_simp; with_reducible rfl)))
        try simp only [Act.put, List.setIfInBounds_toArray, List.set_cons_zero, List.set_cons_succ]
        refine pass_at 2 71 rfl rfl (by kernel_rfl) (by kernel_rfl) (by kernel_rfl) (fun _ _ _ h => h) (by rfl) (by assumption) ?_
        try simp only [Act.put, List.setIfInBounds_toArray, List.set_cons_zero, List.set_cons_succ]
        refine pass_at 3 72 rfl rfl (by kernel_rfl) (by kernel_rfl) (by kernel_rfl) (fun _ _ _ h => h) (by rfl) (by assumption) ?_
        try simp only [Act.put, List.setIfInBounds_toArray, List.set_cons_zero, List.set_cons_succ]
        refine pass_at 4 73 rfl rfl (by kernel_rfl) (by kernel_rfl) (by kernel_rfl) (fun _ _ _ h => h) (by rfl) (by assumption) ?_
        try simp only [Act.put, List.setIfInBounds_toArray, List.set_cons_zero, List.set_cons_succ]
        refine pass_at 5 74 rfl rfl (by kernel_rfl) (by kernel_rfl) (by kernel_rfl) (fun _ _ _ h => h) (by rfl) (by assumption) ?_
        try simp only [Act.put, List.setIfInBounds_toArray, List.set_cons_zero, List.set_cons_succ]
        refine pass_at 6 75 rfl rfl (by kernel_rfl) (by kernel_rfl) (by kernel_rfl) (fun _ _ _ h => h) (by rfl) (by assumption) ?_
        try simp only [Act.put, List.setIfInBounds_toArray, List.set_cons_zero, List.set_cons_succ]
        refine pass_at 7 76 rfl rfl (by kernel_rfl) (by kernel_rfl) (by kernel_rfl) (fun _ _ _ h => h) (by rfl) (by assumption) ?_
        try simp only [Act.put, List.setIfInBounds_toArray, List.set_cons_zero, List.set_cons_succ]
        refine pass_at 8 77 rfl rfl (by kernel_rfl) (by kernel_rfl) (by kernel_rfl) (fun _ _ _ h => h) (by rfl) (by assumption) ?_
        try simp only [Act.put, List.setIfInBounds_toArray, List.set_cons_zero, List.set_cons_succ]
        refine take_at 9 78 (v := ?vttb9) rfl rfl (by kernel_rfl) (by kernel_rfl) (by kernel_rfl) (fun _ _ _ h => h) (by rfl) ?yttb9 (by assumption) ?rttb9
        case yttb9 => (intro w hSw; (try dsimp only at hSw); (first | (go_simp; done) | (go_simp; with_reducible rfl)))
        try simp only [Act.put, List.setIfInBounds_toArray, List.set_cons_zero, List.set_cons_succ]
        refine take_at 10 8 (v := ?vttb10) rfl rfl (by kernel_rfl) (by kernel_rfl) (by kernel_rfl) (fun _ _ _ h => h) (by rfl) ?yttb10 (by assumption) ?rttb10
        case yttb10 => (intro w hSw; (try dsimp only at hSw); (first | (go_simp; done) | (go_simp; with_reducible rfl)))
        try simp only [Act.put, List.setIfInBounds_toArray, List.set_cons_zero, List.set_cons_succ]
        refine wpAnyH_done (by kernel_rfl) ?_ _
        have Ettb := Ettb0
        have Br := Br.trans (Ettb.mono Br.size)
        have br := br.below Ettb lr
        have xr := HXR.out.below Ettb
        go_wp2_with fail
        go_roundg (gk - 1)
        case measure => omega
        case rel => exact ⟨j + 1, HG.out, by go_num, by rw [HS1.out]; rfl, by rw [HS2.out]; rfl, Br, br, xr⟩
    · obtain rfl : j = k := by omega
      have e1 : belo mu (rs.take j) = true := by rw [List.take_of_length_le (by rw [HL.out.len]; exact Nat.le_refl _)]; exact HZ.out.1
      have e2 : abov mu (rs.take j) = true := by rw [List.take_of_length_le (by rw [HL.out.len]; exact Nat.le_refl _)]; exact HZ.out.2
      rw [e1, e2]
      clear e1 e2 hj xr br
      go_wp2_with fail
      go_ret
      exact ⟨rfl, Br⟩
end Go.Proofs.YtgfdeihfinlfoaaGreatDoor

/- Opening a slice of fractions. -/
namespace Go.Proofs.YtgfdeihfinlfoaaGreatDoor
open Go Go.ChangeShapes Go.WideShapes Go.ChangeAt Go.RowKit

theorem add_noneF (b o j : Nat) : (⟨b, o, none⟩ : Addr).add j = ⟨b, o + j, none⟩ := by
  unfold Addr.add
  split
  · rename_i h; subst h; rfl
  · rfl
theorem gather2 {P : Nat → Nat → Nat → Prop} {k : Nat} (H : ∀ i, i < k → ∃ n m, P i n m) : ∃ N M : Nat → Nat, ∀ i < k, P i (N i) (M i) := by
  refine ⟨fun i => if h : i < k then (H i h).choose else 0, fun i => if h : i < k then (H i h).choose_spec.choose else 0, fun i hi => ?_⟩
  simp only [dif_pos hi]
  exact (H i hi).choose_spec.choose_spec
set_option maxRecDepth 100000 in
theorem open_fl {H : Type} {enc : TypeId × Value → H} {W : World} {base : Nat} {v : Value} {d : DataW H} {p : List MemPlace} (hv : Value.okWide Tryz.prog W .any base 37 v)
    (h : DataW.Trod enc Tryz.prog W 0 (fun _ => true) true 37 v d p) : ∃ (S : Option Addr) (k c : Nat) (N M : Nat → Nat), v = .slice S k c ∧ OL W S k N M ∧ k ≤ c ∧ c ≤ maxLen := by
  obtain ⟨A, len, cap, rfl⟩ := okWide_slice Tryz.underlying37 hv
  obtain ⟨fuel, hf⟩ := h
  rcases Go.Deep.open_slice Tryz.underlying37 hf with ⟨hcs, _⟩ | ⟨a, len', cap', m, n, D, Pl, hcs, hb, hl, hm, hmm, hx, hi⟩
  · simp [Value.cells] at hcs
    obtain ⟨rfl, rfl, rfl⟩ := hcs
    exact ⟨_, _, _, fun _ => 0, fun _ => 0, rfl, fun h => by omega, by omega, by simp [maxLen]⟩
  · simp [Value.cells] at hcs
    obtain ⟨rfl, rfl, rfl⟩ := hcs
    simp only [if_true] at hmm
    have hcell : ∀ i, i < len → ∃ n' m' : Nat, ∃ q A' c' B' d' r, W.cell? (a.add (i * 3)) = some (.bool q) ∧ W.cell? (a.add (i * 3 + 1)) = some (.slice A' n' c') ∧ W.cell? (a.add (i * 3 + 2)) = some (.slice B' m' d') ∧
        (n' ≤ 6 → m' ≤ 6 → Fr W 6 q A' n' c' B' m' d' r) := by
      intro i hil
      obtain ⟨cs', hc, ht⟩ := hi i (by omega)
      rw [cellsFr] at hc
      obtain ⟨_, hcl, hat⟩ := World.cells?_some hc
      obtain ⟨xs, n', _, hx', hl', hlen, hall⟩ := DataW.trod_struct Tryz.underlying26 ht
      obtain ⟨c0, c1, c2, rfl⟩ : ∃ c0 c1 c2, cs' = [c0, c1, c2] := by
        match cs', hcl with
        | [c0, c1, c2], _ => exact ⟨c0, c1, c2, rfl⟩
      match xs, hlen with
      | [y0, y1, y2], _ =>
        have h0 := hall 0 _ rfl
        have h1 := hall 1 _ rfl
        have h2 := hall 2 _ rfl
        simp only [List.getElem?_cons_zero, List.getElem?_cons_succ] at h0 h1 h2
        obtain ⟨q, hq, -⟩ := DataW.trod_bool Tryz.underlying4 h0
        obtain ⟨A, n, c, us, rfl, r1, r2, r3, r4⟩ := open_natural h1
        obtain ⟨B, m, e, vs, rfl, s1, s2, s3, s4⟩ := open_natural h2
        have hq2 : c0 = .bool q := by
          have h5 := congrArg List.head? hq
          simpa [show Tryz.prog.cellsOf 4 = 1 from cellsBo] using h5
        have a0 := hat 0 (by omega)
        have a1 := hat 1 (by omega)
        have a2 := hat 2 (by omega)
        rw [Go.Deep.add_add] at a0 a1 a2
        rw [Nat.add_zero] at a0
        exact ⟨n, m, q, A, c, B, e, qv q (val B9 us) (val B9 vs), by rw [a0, hq2]; rfl, by rw [a1]; rfl, by rw [a2]; rfl, fun z1 z2 => frac_fr r1 r2 r3 r4 s1 s2 s3 s4 6 z1 z2⟩
    obtain ⟨N, M, hNM⟩ := gather2 hcell
    refine ⟨_, _, _, N, M, rfl, fun hn => ?_, by omega, by omega⟩
    obtain ⟨q, A', c', B', d', r, hx0, _⟩ := hNM 0 hn
    have ea : a = ⟨a.block, a.off, none⟩ := spot_none (w := W) (a := a) (by simpa [Addr.add] using hx0)
    refine ⟨a.block, a.off, by rw [← ea], fun i hi2 => ?_⟩
    obtain ⟨q, A', c', B', d', r, z0, z1, z2, z3⟩ := hNM i hi2
    rw [ea, add_noneF] at z0 z1 z2
    exact ⟨q, A', c', B', d', r, z0, z1, z2, z3⟩
end Go.Proofs.YtgfdeihfinlfoaaGreatDoor
