/- The contract of the reference's Floor. -/
import Derived.Test.YtanhofmgapbjfaaDoorGAdd
import Derived.Test.YtanhofmgapbjfaaDoorFFloor
namespace Go.Proofs.YtanhofmgapbjfaaDoor
open Go Go.RowKit

set_option maxHeartbeats 1000000 in
theorem gfloor_a {w : World} {L : Nat} {p : Bool} {A : Option Addr} {n c : Nat} {B : Option Addr} {m d : Nat} {x : Rat} (hx : Fr w L p A n c B m d x) (h1L0 : 1 ≤ L) (hL0 : L ≤ 9000) (r : Rat) (hr : (x.floor : Rat) = r) :
    Calls Tryd.prog 31 #[.agg #[.bool p, .slice A n c, .slice B m d]] w (GivesR r w) := by
  have HR := hide hr
  have HX := hide hx.ht
  obtain ⟨M, hM⟩ : ∃ M, L + 1 = M := ⟨_, rfl⟩
  have hL : M ≤ 10000 := by omega
  have h1L : 1 ≤ M := by omega
  rw [hM] at HX
  clear hr
  go_enter Tryd.func31, Tryd.ntmps31
  go_wp2_with fail
  generalize hW : (w.alloc _).alloc _ = W
  obtain ⟨hbW, b0, bR, hz⟩ := boxesA2 hW
  clear hW
  refine (gnorm_f (hx.below hbW) h1L0 (by omega) x rfl).mono ?_
  rintro e w1 ⟨p1, A1, n1, c1, B1, m1, d1, rfl, hF, hb1⟩
  have hbA := hbW.trans (hb1.mono hbW.size)
  have b0 := b0.below' hb1
  have bR := bR.below' hb1
  have k0 : w1.cell? ⟨w.heap.size, 0, none⟩ = some (.bool p) := b0.at_ 0
  have k1 : w1.cell? ⟨w.heap.size, 1, none⟩ = some (.slice A n c) := b0.at_ 1
  have k2 : w1.cell? ⟨w.heap.size, 2, none⟩ = some (.slice B m d) := b0.at_ 2
  have f0 := b0.frozen 0
  have f1 := b0.frozen 1
  have f2 := b0.frozen 2
  have HR := hide (show fl p1 x.num.natAbs x.den = r from by rw [fl_floor, fcq hF.1]; exact HR.out)
  have HV1 := hide x.den_nz
  have hA1 := hF.2.1.nt HX.out.1
  have hB1 := hF.2.2.nt HX.out.2
  clear hb1 hbW hz hx HX hF hM
  generalize x.num.natAbs = u1 at *
  generalize x.den = v1 at *
  go_wp2_with fail
  clear k0 k1 k2 f0 f1 f2
  generalize hW3 : ((w1.setCell _ _).setCell _ _).setCell _ _ = W3
  obtain ⟨b3, N3, -, B3, X3⟩ := put3 b0 hW3
  clear hW3 b0
  have bR := X3 _ _ _ (by simp) bR
  have hA := N3 _ _ _ _ _ hA1
  have hB := N3 _ _ _ _ _ hB1
  have hbA := B3 _ _ hbA (Nat.le_refl _)
  clear N3 B3 X3 hA1 hB1
  obtain ⟨q, hq⟩ : ∃ q, u1 / v1 = q := ⟨_, rfl⟩
  obtain ⟨t, ht⟩ : ∃ t, u1 % v1 = t := ⟨_, rfl⟩
  have HQL := hide (show q < B9 ^ (M + 1) from Nat.lt_of_le_of_lt (by rw [← hq]; exact Nat.div_le_self _ _) hA.lt)
  have HTL := hide (show t < B9 ^ (M + 1) from Nat.lt_of_le_of_lt (by rw [← ht]; exact Nat.mod_le _ _) hA.lt)
  have HRQ := hide (show qv p1 (if p1 then (if t = 0 then q else q + 1) else q) 1 = r from by
    have := HR.out
    rw [fl, if_neg HV1.out, hq, ht] at this
    exact this)
  refine (rdiv_n hA hB (by omega) HV1.out q t hq ht).mono fun e w5 h => ?_
  obtain ⟨A5, n5, c5, A6, n6, c6, rfl, h5, h6, hb5⟩ := h.cn
  clear h hq ht
  have hbA := hbA.trans (hb5.mono hbA.size)
  have b3 := b3.below' hb5
  have bR := bR.below' hb5
  clear hb5 hA hB
  have lt0 := b3.lt
  have lt1 := bR.lt
  have k0 : w5.cell? ⟨w.heap.size, 0, none⟩ = some (.bool p1) := b3.at_ 0
  cases p1
  · go_wp2_with fail
    generalize hW6 : (w5.alloc _).alloc _ = W6
    obtain ⟨hb6, bn, bt, -⟩ := boxesA2 hW6
    clear hW6
    have h5 := h5.below hb6
    have h6 := h6.below hb6
    have hbA := hbA.trans (hb6.mono hbA.size)
    have n5R : w5.heap.size ≠ w.heap.size + 1 := by omega
    have b3 := b3.below' hb6
    have bR := bR.below' hb6
    have HS5 := hide (show w.heap.size + 1 < w5.heap.size from lt1)
    clear hb6 k0 lt0 lt1
    have HRT := hide (show qv false q 1 = r from HRQ.out)
    have hqn : Nt W6 (M + 2) A5 n5 c5 q := (h5.nt HQL.out).up (by omega)
    have lt0 := b3.lt
    have ltR := bR.lt
    have lt2 := bn.lt
    have P0 : Below W6.heap.size W6 W6.drew := (Below.refl _ _).drew
    have KS : Hid (∀ w', Below W6.heap.size W6 w' → w'.cell? ⟨w.heap.size, 0, none⟩ = some (.bool false) ∧ w'.cell? ⟨w5.heap.size, 0, none⟩ = some (.slice A5 n5 c5)) := fun w' h =>
      ⟨(b3.below h lt0).at_ 0, (bn.below h lt2).cell⟩
    have KB : Hid (∀ w', Below W6.heap.size W6 w' → Box w' (w.heap.size + 1) #[.bool false, .slice none 0 0, .slice none 0 0] 26) := fun w' h => bR.below h ltR
    have HF : Hid (∀ w', Box w' (w.heap.size + 1) #[.bool false, .slice none 0 0, .slice none 0 0] 26 → w'.cell? ⟨w.heap.size + 1, 0, none⟩ = some (.bool false) ∧ w'.cell? ⟨w.heap.size + 1, 1, none⟩ = some (.slice none 0 0) ∧ w'.cell? ⟨w.heap.size + 1, 2, none⟩ = some (.slice none 0 0) ∧ w'.frozen? ⟨w.heap.size + 1, 0, none⟩ = false ∧ w'.frozen? ⟨w.heap.size + 1, 1, none⟩ = false ∧ w'.frozen? ⟨w.heap.size + 1, 2, none⟩ = false) :=
      fun w' h => ⟨h.at_ 0, h.at_ 1, h.at_ 2, h.frozen 0, h.frozen 1, h.frozen 2⟩
    have ST : Hid (∀ w' (x y z : Value), Below W6.heap.size W6 w' → (fun w' => w'.cell? ⟨w.heap.size, 0, none⟩ = some (.bool false) ∧ w'.cell? ⟨w5.heap.size, 0, none⟩ = some (.slice A5 n5 c5)) (((w'.setCell ⟨w.heap.size + 1, 0, none⟩ x).setCell ⟨w.heap.size + 1, 1, none⟩ y).setCell ⟨w.heap.size + 1, 2, none⟩ z)) := fun w' x y z h => by
      obtain ⟨q0, q1⟩ := KS.out w' h
      refine ⟨?_, ?_⟩
      · rw [cell_far _ _ _ _ (by simp), cell_far _ _ _ _ (by simp), cell_far _ _ _ _ (by simp)]; exact q0
      · rw [cell_far _ _ _ _ n5R, cell_far _ _ _ _ n5R, cell_far _ _ _ _ n5R]; exact q1
    go_region_held3 (fun w' => w'.cell? ⟨w.heap.size, 0, none⟩ = some (.bool false) ∧ w'.cell? ⟨w5.heap.size, 0, none⟩ = some (.slice A5 n5 c5))
      (first | exact KS.out _ En | exact KS.out _ Eo | exact ST.out _ _ _ _ En | exact ST.out _ _ _ _ Eo | exact KS.out _ (Below.refl _ _) | exact KS.out _ P0)
      (first | (go_at_call_of 54 (Value.int .i64 1); (with_reducible refine (gof_one _).mono ?_); rintro e wo ⟨Ao, no, co, rfl, ro, lo, mo, hxwo⟩; have Eo := (P0).trans (hxwo.mono (P0).size); have ho : Cn wo Ao no co 1 := ⟨ro, lo, mo⟩) | (go_at_call_of 37 (Value.slice A5 n5 c5); (with_reducible refine (gnew_any (M + 2) (by omega) (by omega) false A5 n5 c5 q Ao no co 1 _ (hqn.below Eo) ((ho.nt (L := 1) (by decide)).up (by omega)) r HRT.out).mono ?_); rintro e wn ⟨A2, n2, c2, B2, m2, d2, rfl, h2, i2, hxwn⟩; have En := (Eo).trans (hxwn.mono (Eo).size); obtain ⟨g0, g1, g2, f0, f1, f2⟩ := HF.out _ (KB.out _ En)))
    clear g0 g1 g2 f0 f1 f2
    have X10 := KB.out _ En
    have hbZ := hbA.trans (En.mono hbA.size)
    generalize hW10 : ((wn.setCell _ _).setCell _ _).setCell _ _ = W10
    obtain ⟨b10, N10, C10, B10, -⟩ := put3 X10 hW10
    clear hW10
    have k0 : W10.cell? ⟨w.heap.size + 1, 0, none⟩ = some (.bool (decide (r.num < 0))) := b10.at_ 0
    have k1 : W10.cell? ⟨w.heap.size + 1, 1, none⟩ = some (.slice A2 n2 c2) := b10.at_ 1
    have k2 : W10.cell? ⟨w.heap.size + 1, 2, none⟩ = some (.slice B2 m2 d2) := b10.at_ 2
    go_wp2
    refine bodyPost_ret (v := .agg #[.bool (decide (r.num < 0)), .slice A2 n2 c2, .slice B2 m2 d2]) (by simp [results, Tryd.results31, go_sem, k0, k1, k2]) rfl ?_
    exact ⟨A2, n2, c2, B2, m2, d2, rfl, C10 _ _ _ _ h2, C10 _ _ _ _ i2, B10 _ _ hbZ (by omega)⟩
  · obtain ⟨o, ho⟩ : ∃ o, decide (t = 0) = o := ⟨_, rfl⟩
    have HO := hide ho
    clear ho
    go_wp2_with fail
    generalize hW6 : (w5.alloc _).alloc _ = W6
    obtain ⟨hb6, bn, bt, -⟩ := boxesA2 hW6
    clear hW6
    have h5 := h5.below hb6
    have h6 := h6.below hb6
    have hbA := hbA.trans (hb6.mono hbA.size)
    have n5R : w5.heap.size ≠ w.heap.size + 1 := by omega
    have b3 := b3.below' hb6
    have bR := bR.below' hb6
    have HS5 := hide (show w.heap.size + 1 < w5.heap.size from lt1)
    clear hb6 k0 lt0 lt1
    refine (gzero_any (M + 1) (by omega) A6 n6 c6 t _ (h6.nt HTL.out) o HO.out).mono ?_
    rintro e w7 ⟨rfl, hb7⟩
    have hbA := hbA.trans (hb7.mono hbA.size)
    have h5 := h5.below hb7
    have b3 := b3.below' hb7
    have bR := bR.below' hb7
    have bn := bn.below' hb7
    clear hb7 h6 bt
    cases o
    · have k3 := bn.cell
      have lt0 := b3.lt
      have ltR := bR.lt
      have lt2 := bn.lt
      have HT0 : Hid (t ≠ 0) := hide (of_decide_eq_false HO.out)
      have HRT := hide (show qv true (q + 1) 1 = r from by rw [← HRQ.out]; simp [HT0.out])
      have hqn : Nt w7 (M + 1) A5 n5 c5 q := h5.nt HQL.out
      have HQ1 := hide (show q + 1 < B9 ^ (M + 2) from by
        have h1 := HQL.out
        have h2 : B9 ^ (M + 1) * 2 ≤ B9 ^ (M + 2) := by rw [Nat.pow_succ B9 (M + 1)]; exact Nat.mul_le_mul_left _ (by decide)
        have h3 : 1 ≤ B9 ^ (M + 1) := Nat.pow_pos (by decide)
        omega)
      obtain ⟨q1, hq1⟩ : ∃ q1, q + 1 = q1 := ⟨_, rfl⟩
      rw [hq1] at HQ1 HRT
      have HA1 := hide hq1
      clear hq1
      have KN : Hid (∀ w', Below w7.heap.size w7 w' → w'.cell? ⟨w5.heap.size, 0, none⟩ = some (.slice A5 n5 c5) ∧ w'.frozen? ⟨w5.heap.size, 0, none⟩ = false) := fun w' h => ⟨(bn.below h lt2).cell, (bn.below h lt2).frozen 0⟩
      go_wp2_with fail
      go_cut [] from 24 to 27 (fun wx => ∃ wy A9 n9 c9, Below w7.heap.size w7 wy ∧ Cn wy A9 n9 c9 q1 ∧ wx = wy.setCell ⟨w5.heap.size, 0, none⟩ (.slice A9 n9 c9))
      case first =>
        have P0 : Below w7.heap.size w7 w7.drew := (Below.refl _ _).drew
        obtain ⟨k4, -⟩ := KN.out _ P0
        go_region_law (first
          | (go_simp; go_at_call 54; (with_reducible refine (gof_one _).mono ?_); rintro e wo ⟨Ao, no, co, rfl, ro, lo, mo, hxo⟩; have Eo := P0.trans (hxo.mono P0.size); have ho : Cn wo Ao no co 1 := ⟨ro, lo, mo⟩; obtain ⟨k6, -⟩ := KN.out _ Eo)
          | (go_simp; go_at_call 47; (with_reducible refine (radd_n (hqn.below Eo) ((ho.nt (L := 1) (by decide)).up (by omega)) (by omega) q1 HA1.out).mono ?_); rintro e wa ⟨Aa, na, ca, rfl, ra, la, ma, hxa⟩; have Ea := Eo.trans (hxa.mono Eo.size); have ha : Cn wa Aa na ca q1 := ⟨ra, la, ma⟩; obtain ⟨k7, f7⟩ := KN.out _ Ea))
        all_goals
          go_wp2_with fail
          go_meet
          exact ⟨wa, Aa, na, ca, Ea, ha, rfl⟩
      case rest =>
      obtain ⟨wy, A9, n9, c9, Ey, h9, rfl⟩ := hcut
      have hs5 := HS5.out
      have hbA : Below w.heap.size w (wy.setCell ⟨w5.heap.size, 0, none⟩ (.slice A9 n9 c9)) := (hbA.trans (Ey.mono hbA.size)).setCell (by show w.heap.size ≤ w5.heap.size; omega) _
      have b3 := (b3.below' Ey).far (p := ⟨w5.heap.size, 0, none⟩) (by show w.heap.size ≠ w5.heap.size; omega) (.slice A9 n9 c9)
      have bR := (bR.below' Ey).far (p := ⟨w5.heap.size, 0, none⟩) (by show w.heap.size + 1 ≠ w5.heap.size; omega) (.slice A9 n9 c9)
      have h9 := h9.far (i := 0) (bn.below' Ey) noInt1 (.slice A9 n9 c9)
      have bn := (bn.below' Ey).put (.slice A9 n9 c9)
      clear Ey KN lt0 lt2 ltR k3 hqn h5
      generalize wy.setCell (⟨w5.heap.size, 0, none⟩ : Addr) (.slice A9 n9 c9) = w9 at *
      have hqn : Nt w9 (M + 2) A9 n9 c9 q1 := h9.nt HQ1.out
      go_wp2_with fail
      have lt0 := b3.lt
      have ltR := bR.lt
      have lt2 := bn.lt
      have P0 : Below w9.heap.size w9 w9.drew := (Below.refl _ _).drew
      have KS : Hid (∀ w', Below w9.heap.size w9 w' → w'.cell? ⟨w.heap.size, 0, none⟩ = some (.bool true) ∧ w'.cell? ⟨w5.heap.size, 0, none⟩ = some (.slice A9 n9 c9)) := fun w' h =>
        ⟨(b3.below h lt0).at_ 0, (bn.below h lt2).cell⟩
      have KB : Hid (∀ w', Below w9.heap.size w9 w' → Box w' (w.heap.size + 1) #[.bool false, .slice none 0 0, .slice none 0 0] 26) := fun w' h => bR.below h ltR
      have HF : Hid (∀ w', Box w' (w.heap.size + 1) #[.bool false, .slice none 0 0, .slice none 0 0] 26 → w'.cell? ⟨w.heap.size + 1, 0, none⟩ = some (.bool false) ∧ w'.cell? ⟨w.heap.size + 1, 1, none⟩ = some (.slice none 0 0) ∧ w'.cell? ⟨w.heap.size + 1, 2, none⟩ = some (.slice none 0 0) ∧ w'.frozen? ⟨w.heap.size + 1, 0, none⟩ = false ∧ w'.frozen? ⟨w.heap.size + 1, 1, none⟩ = false ∧ w'.frozen? ⟨w.heap.size + 1, 2, none⟩ = false) :=
        fun w' h => ⟨h.at_ 0, h.at_ 1, h.at_ 2, h.frozen 0, h.frozen 1, h.frozen 2⟩
      have ST : Hid (∀ w' (x y z : Value), Below w9.heap.size w9 w' → (fun w' => w'.cell? ⟨w.heap.size, 0, none⟩ = some (.bool true) ∧ w'.cell? ⟨w5.heap.size, 0, none⟩ = some (.slice A9 n9 c9)) (((w'.setCell ⟨w.heap.size + 1, 0, none⟩ x).setCell ⟨w.heap.size + 1, 1, none⟩ y).setCell ⟨w.heap.size + 1, 2, none⟩ z)) := fun w' x y z h => by
        obtain ⟨q0, q1⟩ := KS.out w' h
        refine ⟨?_, ?_⟩
        · rw [cell_far _ _ _ _ (by simp), cell_far _ _ _ _ (by simp), cell_far _ _ _ _ (by simp)]; exact q0
        · rw [cell_far _ _ _ _ n5R, cell_far _ _ _ _ n5R, cell_far _ _ _ _ n5R]; exact q1
      go_region_held3 (fun w' => w'.cell? ⟨w.heap.size, 0, none⟩ = some (.bool true) ∧ w'.cell? ⟨w5.heap.size, 0, none⟩ = some (.slice A9 n9 c9))
        (first | exact KS.out _ En | exact KS.out _ Eo | exact ST.out _ _ _ _ En | exact ST.out _ _ _ _ Eo | exact KS.out _ (Below.refl _ _) | exact KS.out _ P0)
        (first | (go_at_call_of 54 (Value.int .i64 1); (with_reducible refine (gof_one _).mono ?_); rintro e wo ⟨Ao, no, co, rfl, ro, lo, mo, hxwo⟩; have Eo := (P0).trans (hxwo.mono (P0).size); have ho : Cn wo Ao no co 1 := ⟨ro, lo, mo⟩) | (go_at_call_of 37 (Value.slice A9 n9 c9); (with_reducible refine (gnew_any (M + 2) (by omega) (by omega) true A9 n9 c9 q1 Ao no co 1 _ (hqn.below Eo) ((ho.nt (L := 1) (by decide)).up (by omega)) r HRT.out).mono ?_); rintro e wn ⟨A2, n2, c2, B2, m2, d2, rfl, h2, i2, hxwn⟩; have En := (Eo).trans (hxwn.mono (Eo).size); obtain ⟨g0, g1, g2, f0, f1, f2⟩ := HF.out _ (KB.out _ En)))
      clear g0 g1 g2 f0 f1 f2
      have X10 := KB.out _ En
      have hbZ := hbA.trans (En.mono hbA.size)
      generalize hW10 : ((wn.setCell _ _).setCell _ _).setCell _ _ = W10
      obtain ⟨b10, N10, C10, B10, -⟩ := put3 X10 hW10
      clear hW10
      have k0 : W10.cell? ⟨w.heap.size + 1, 0, none⟩ = some (.bool (decide (r.num < 0))) := b10.at_ 0
      have k1 : W10.cell? ⟨w.heap.size + 1, 1, none⟩ = some (.slice A2 n2 c2) := b10.at_ 1
      have k2 : W10.cell? ⟨w.heap.size + 1, 2, none⟩ = some (.slice B2 m2 d2) := b10.at_ 2
      go_wp2
      refine bodyPost_ret (v := .agg #[.bool (decide (r.num < 0)), .slice A2 n2 c2, .slice B2 m2 d2]) (by simp [results, Tryd.results31, go_sem, k0, k1, k2]) rfl ?_
      exact ⟨A2, n2, c2, B2, m2, d2, rfl, C10 _ _ _ _ h2, C10 _ _ _ _ i2, B10 _ _ hbZ (by omega)⟩
    · have HT0 : Hid (t = 0) := hide (of_decide_eq_true HO.out)
      have HRT := hide (show qv true q 1 = r from by rw [← HRQ.out]; simp [HT0.out])
      go_wp2_with fail
      have hqn : Nt w7 (M + 2) A5 n5 c5 q := (h5.nt HQL.out).up (by omega)
      have lt0 := b3.lt
      have ltR := bR.lt
      have lt2 := bn.lt
      have P0 : Below w7.heap.size w7 w7.drew := (Below.refl _ _).drew
      have KS : Hid (∀ w', Below w7.heap.size w7 w' → w'.cell? ⟨w.heap.size, 0, none⟩ = some (.bool true) ∧ w'.cell? ⟨w5.heap.size, 0, none⟩ = some (.slice A5 n5 c5)) := fun w' h =>
        ⟨(b3.below h lt0).at_ 0, (bn.below h lt2).cell⟩
      have KB : Hid (∀ w', Below w7.heap.size w7 w' → Box w' (w.heap.size + 1) #[.bool false, .slice none 0 0, .slice none 0 0] 26) := fun w' h => bR.below h ltR
      have HF : Hid (∀ w', Box w' (w.heap.size + 1) #[.bool false, .slice none 0 0, .slice none 0 0] 26 → w'.cell? ⟨w.heap.size + 1, 0, none⟩ = some (.bool false) ∧ w'.cell? ⟨w.heap.size + 1, 1, none⟩ = some (.slice none 0 0) ∧ w'.cell? ⟨w.heap.size + 1, 2, none⟩ = some (.slice none 0 0) ∧ w'.frozen? ⟨w.heap.size + 1, 0, none⟩ = false ∧ w'.frozen? ⟨w.heap.size + 1, 1, none⟩ = false ∧ w'.frozen? ⟨w.heap.size + 1, 2, none⟩ = false) :=
        fun w' h => ⟨h.at_ 0, h.at_ 1, h.at_ 2, h.frozen 0, h.frozen 1, h.frozen 2⟩
      have ST : Hid (∀ w' (x y z : Value), Below w7.heap.size w7 w' → (fun w' => w'.cell? ⟨w.heap.size, 0, none⟩ = some (.bool true) ∧ w'.cell? ⟨w5.heap.size, 0, none⟩ = some (.slice A5 n5 c5)) (((w'.setCell ⟨w.heap.size + 1, 0, none⟩ x).setCell ⟨w.heap.size + 1, 1, none⟩ y).setCell ⟨w.heap.size + 1, 2, none⟩ z)) := fun w' x y z h => by
        obtain ⟨q0, q1⟩ := KS.out w' h
        refine ⟨?_, ?_⟩
        · rw [cell_far _ _ _ _ (by simp), cell_far _ _ _ _ (by simp), cell_far _ _ _ _ (by simp)]; exact q0
        · rw [cell_far _ _ _ _ n5R, cell_far _ _ _ _ n5R, cell_far _ _ _ _ n5R]; exact q1
      go_region_held3 (fun w' => w'.cell? ⟨w.heap.size, 0, none⟩ = some (.bool true) ∧ w'.cell? ⟨w5.heap.size, 0, none⟩ = some (.slice A5 n5 c5))
        (first | exact KS.out _ En | exact KS.out _ Eo | exact ST.out _ _ _ _ En | exact ST.out _ _ _ _ Eo | exact KS.out _ (Below.refl _ _) | exact KS.out _ P0)
        (first | (go_at_call_of 54 (Value.int .i64 1); (with_reducible refine (gof_one _).mono ?_); rintro e wo ⟨Ao, no, co, rfl, ro, lo, mo, hxwo⟩; have Eo := (P0).trans (hxwo.mono (P0).size); have ho : Cn wo Ao no co 1 := ⟨ro, lo, mo⟩) | (go_at_call_of 37 (Value.slice A5 n5 c5); (with_reducible refine (gnew_any (M + 2) (by omega) (by omega) true A5 n5 c5 q Ao no co 1 _ (hqn.below Eo) ((ho.nt (L := 1) (by decide)).up (by omega)) r HRT.out).mono ?_); rintro e wn ⟨A2, n2, c2, B2, m2, d2, rfl, h2, i2, hxwn⟩; have En := (Eo).trans (hxwn.mono (Eo).size); obtain ⟨g0, g1, g2, f0, f1, f2⟩ := HF.out _ (KB.out _ En)))
      clear g0 g1 g2 f0 f1 f2
      have X10 := KB.out _ En
      have hbZ := hbA.trans (En.mono hbA.size)
      generalize hW10 : ((wn.setCell _ _).setCell _ _).setCell _ _ = W10
      obtain ⟨b10, N10, C10, B10, -⟩ := put3 X10 hW10
      clear hW10
      have k0 : W10.cell? ⟨w.heap.size + 1, 0, none⟩ = some (.bool (decide (r.num < 0))) := b10.at_ 0
      have k1 : W10.cell? ⟨w.heap.size + 1, 1, none⟩ = some (.slice A2 n2 c2) := b10.at_ 1
      have k2 : W10.cell? ⟨w.heap.size + 1, 2, none⟩ = some (.slice B2 m2 d2) := b10.at_ 2
      go_wp2
      refine bodyPost_ret (v := .agg #[.bool (decide (r.num < 0)), .slice A2 n2 c2, .slice B2 m2 d2]) (by simp [results, Tryd.results31, go_sem, k0, k1, k2]) rfl ?_
      exact ⟨A2, n2, c2, B2, m2, d2, rfl, C10 _ _ _ _ h2, C10 _ _ _ _ i2, B10 _ _ hbZ (by omega)⟩
theorem gfloor_f {w : World} {L : Nat} {p : Bool} {A : Option Addr} {n c : Nat} {B : Option Addr} {m d : Nat} {x : Rat} (hx : Fr w L p A n c B m d x) (h1L : 1 ≤ L) (hL : L ≤ 9000) (r : Rat) (hr : (x.floor : Rat) = r) :
    Calls Tryd.prog 31 #[.agg #[.bool p, .slice A n c, .slice B m d]] w (GivesF r w) := (gfloor_a hx h1L hL r hr).mono fun _ _ h => h.f
end Go.Proofs.YtanhofmgapbjfaaDoor
