/- The contracts of the reference's fractions: Sub, Cmp, Div. -/
import Derived.Test.YtanhofmgapbjfaaDoorGAdd
namespace Go.Proofs.YtanhofmgapbjfaaDoor
open Go Go.RowKit

set_option maxHeartbeats 1000000 in
theorem gsub_f {w : World} {L : Nat} {p : Bool} {A : Option Addr} {n c : Nat} {B : Option Addr} {m d : Nat} {x : Rat} {p' : Bool} {A' : Option Addr} {n' c' : Nat} {B' : Option Addr} {m' d' : Nat} {y : Rat} (hx : Fr w L p A n c B m d x) (hy : Fr w L p' A' n' c' B' m' d' y) (h1L : 1 ≤ L) (hL : L ≤ 8000) (r : Rat) (hr : x - y = r) : Calls Tryd.prog 23 #[.agg #[.bool p, .slice A n c, .slice B m d], .agg #[.bool p', .slice A' n' c', .slice B' m' d']] w (GivesF r w) := by
  have HR := hide (show x + -y = r from by rw [← Rat.sub_eq_add_neg]; exact hr)
  have HY := hide hy.ht.neg
  clear hr
  go_enter Tryd.func23, Tryd.ntmps23
  go_wp2_with fail
  generalize hW : ((w.alloc _).alloc _).alloc _ = W
  obtain ⟨hbW, b0, b1, bR, -⟩ := boxesA3 hW
  clear hW
  have hx := hx.below hbW
  have hy := hy.below hbW
  have lt0 := b0.lt
  have lt1 := b1.lt
  have ltR := bR.lt
  have P0 : Below W.heap.size W W.drew := (Below.refl _ _).drew
  have KS : Hid (∀ w', Below W.heap.size W w' → w'.cell? ⟨w.heap.size, 0, none⟩ = some (.bool p) ∧ w'.cell? ⟨w.heap.size, 1, none⟩ = some (.slice A n c) ∧ w'.cell? ⟨w.heap.size, 2, none⟩ = some (.slice B m d) ∧ w'.cell? ⟨w.heap.size + 1, 0, none⟩ = some (.bool p') ∧ w'.cell? ⟨w.heap.size + 1, 1, none⟩ = some (.slice A' n' c') ∧ w'.cell? ⟨w.heap.size + 1, 2, none⟩ = some (.slice B' m' d')) := fun w' h =>
    ⟨(b0.below h lt0).at_ 0, (b0.below h lt0).at_ 1, (b0.below h lt0).at_ 2, (b1.below h lt1).at_ 0, (b1.below h lt1).at_ 1, (b1.below h lt1).at_ 2⟩
  have KB : Hid (∀ w', Below W.heap.size W w' → Box w' (w.heap.size + 1 + 1) #[.bool false, .slice none 0 0, .slice none 0 0] 26) := fun w' h => bR.below h ltR
  have HF : Hid (∀ w', Box w' (w.heap.size + 1 + 1) #[.bool false, .slice none 0 0, .slice none 0 0] 26 → w'.cell? ⟨w.heap.size + 1 + 1, 0, none⟩ = some (.bool false) ∧ w'.cell? ⟨w.heap.size + 1 + 1, 1, none⟩ = some (.slice none 0 0) ∧ w'.cell? ⟨w.heap.size + 1 + 1, 2, none⟩ = some (.slice none 0 0) ∧ w'.frozen? ⟨w.heap.size + 1 + 1, 0, none⟩ = false ∧ w'.frozen? ⟨w.heap.size + 1 + 1, 1, none⟩ = false ∧ w'.frozen? ⟨w.heap.size + 1 + 1, 2, none⟩ = false) :=
    fun w' h => ⟨h.at_ 0, h.at_ 1, h.at_ 2, h.frozen 0, h.frozen 1, h.frozen 2⟩
  have ST : Hid (∀ w' (x y z : Value), Below W.heap.size W w' → (fun w' => w'.cell? ⟨w.heap.size, 0, none⟩ = some (.bool p) ∧ w'.cell? ⟨w.heap.size, 1, none⟩ = some (.slice A n c) ∧ w'.cell? ⟨w.heap.size, 2, none⟩ = some (.slice B m d) ∧ w'.cell? ⟨w.heap.size + 1, 0, none⟩ = some (.bool p') ∧ w'.cell? ⟨w.heap.size + 1, 1, none⟩ = some (.slice A' n' c') ∧ w'.cell? ⟨w.heap.size + 1, 2, none⟩ = some (.slice B' m' d')) (((w'.setCell ⟨w.heap.size + 1 + 1, 0, none⟩ x).setCell ⟨w.heap.size + 1 + 1, 1, none⟩ y).setCell ⟨w.heap.size + 1 + 1, 2, none⟩ z)) := fun w' x y z h => by
    obtain ⟨q0, q1, q2, q3, q4, q5⟩ := KS.out w' h
    refine ⟨?_, ?_, ?_, ?_, ?_, ?_⟩
    · rw [cell_far _ _ _ _ (by simp; omega), cell_far _ _ _ _ (by simp; omega), cell_far _ _ _ _ (by simp; omega)]; exact q0
    · rw [cell_far _ _ _ _ (by simp; omega), cell_far _ _ _ _ (by simp; omega), cell_far _ _ _ _ (by simp; omega)]; exact q1
    · rw [cell_far _ _ _ _ (by simp; omega), cell_far _ _ _ _ (by simp; omega), cell_far _ _ _ _ (by simp; omega)]; exact q2
    · rw [cell_far _ _ _ _ (by simp), cell_far _ _ _ _ (by simp), cell_far _ _ _ _ (by simp)]; exact q3
    · rw [cell_far _ _ _ _ (by simp), cell_far _ _ _ _ (by simp), cell_far _ _ _ _ (by simp)]; exact q4
    · rw [cell_far _ _ _ _ (by simp), cell_far _ _ _ _ (by simp), cell_far _ _ _ _ (by simp)]; exact q5
  clear b0 b1 lt0 lt1
  go_region_held3 (fun w' => w'.cell? ⟨w.heap.size, 0, none⟩ = some (.bool p) ∧ w'.cell? ⟨w.heap.size, 1, none⟩ = some (.slice A n c) ∧ w'.cell? ⟨w.heap.size, 2, none⟩ = some (.slice B m d) ∧ w'.cell? ⟨w.heap.size + 1, 0, none⟩ = some (.bool p') ∧ w'.cell? ⟨w.heap.size + 1, 1, none⟩ = some (.slice A' n' c') ∧ w'.cell? ⟨w.heap.size + 1, 2, none⟩ = some (.slice B' m' d'))
    (first | exact KS.out _ En | exact KS.out _ Em | exact ST.out _ _ _ _ En | exact ST.out _ _ _ _ Em | exact KS.out _ (Below.refl _ _) | exact KS.out _ P0)
    (first | (go_at_call_of 17 (Value.slice A' n' c'); (with_reducible refine (gneg_f (hy.below P0) h1L (by omega) (-y) rfl).mono ?_); rintro e wm ⟨pm, Am, nm, cm, Bm, mm, dm, rfl, hm, hxwm⟩; have Em := (P0).trans (hxwm.mono (P0).size)) | (go_at_call_of 21 (Value.slice A n c); (with_reducible refine (gadd_f (L := L + 1) ((hx.below Em).up (by omega)) (hm.fr HY.out) (by omega) (by omega) r HR.out).mono ?_); rintro e wn ⟨p4, A4, n4, c4, B4, m4, d4, rfl, h4, hxwn⟩; have En := (Em).trans (hxwn.mono (Em).size); obtain ⟨g0, g1, g2, f0, f1, f2⟩ := HF.out _ (KB.out _ En)))
  clear g0 g1 g2 f0 f1 f2
  have X10 := KB.out _ En
  have hbA := hbW.trans (En.mono hbW.size)
  generalize hW10 : ((wn.setCell _ _).setCell _ _).setCell _ _ = W10
  obtain ⟨b10, -, C10, B10, -⟩ := put3 X10 hW10
  clear hW10
  go_wp2
  have k0 : W10.cell? ⟨w.heap.size + 1 + 1, 0, none⟩ = some (.bool p4) := b10.at_ 0
  have k1 : W10.cell? ⟨w.heap.size + 1 + 1, 1, none⟩ = some (.slice A4 n4 c4) := b10.at_ 1
  have k2 : W10.cell? ⟨w.heap.size + 1 + 1, 2, none⟩ = some (.slice B4 m4 d4) := b10.at_ 2
  refine bodyPost_ret (v := .agg #[.bool p4, .slice A4 n4 c4, .slice B4 m4 d4]) (by simp [results, Tryd.results23, go_sem, k0, k1, k2]) rfl ?_
  exact ⟨_, _, _, _, _, _, _, rfl, ⟨h4.1, C10 _ _ _ _ h4.2.1, C10 _ _ _ _ h4.2.2⟩, B10 _ _ hbA (by omega)⟩
set_option maxHeartbeats 1000000 in
theorem gcmp_f {w : World} {L : Nat} {p : Bool} {A : Option Addr} {n c : Nat} {B : Option Addr} {m d : Nat} {x : Rat} {p' : Bool} {A' : Option Addr} {n' c' : Nat} {B' : Option Addr} {m' d' : Nat} {y : Rat} (hx : Fr w L p A n c B m d x) (hy : Fr w L p' A' n' c' B' m' d' y) (h1L : 1 ≤ L) (hL : L ≤ 8000) (r : Int) (hr : cs x y = r) : Calls Tryd.prog 27 #[.agg #[.bool p, .slice A n c, .slice B m d], .agg #[.bool p', .slice A' n' c', .slice B' m' d']] w fun e w' => e = .returned (.int .i64 r) ∧ Below w.heap.size w w' := by
  have HR := hide hr
  have HH := hide (hx.ht.sub hy.ht)
  clear hr
  go_enter Tryd.func27, Tryd.ntmps27
  go_wp2_with fail
  generalize hW : (w.alloc _).alloc _ = W
  obtain ⟨hbW, -, -, -⟩ := boxesA2 hW
  clear hW
  refine (gsub_f (hx.below hbW) (hy.below hbW) h1L hL (x - y) rfl).mono ?_
  rintro e w1 ⟨p1, A1, n1, c1, B1, m1, d1, rfl, h1, hb1⟩
  have hbA := hbW.trans (hb1.mono hbW.size)
  clear hb1 hbW hx hy
  go_wp2_with fail
  refine (gsign_f (h1.fr HH.out) (by omega) (by omega) r HR.out).mono ?_
  rintro e w2 ⟨rfl, hb2⟩
  have hbA := hbA.trans (hb2.mono hbA.size)
  clear hb2 h1
  go_wp2
  go_ret
  exact ⟨rfl, hbA⟩
set_option maxHeartbeats 1000000 in
theorem gdiv_f {w : World} {L : Nat} {p : Bool} {A : Option Addr} {n c : Nat} {B : Option Addr} {m d : Nat} {x : Rat} {p' : Bool} {A' : Option Addr} {n' c' : Nat} {B' : Option Addr} {m' d' : Nat} {y : Rat} (hx : Fr w L p A n c B m d x) (hy : Fr w L p' A' n' c' B' m' d' y) (h1L : 1 ≤ L) (hL : L ≤ 8000) (h0 : y ≠ 0) (r : Rat) (hr : x / y = r) : Calls Tryd.prog 29 #[.agg #[.bool p, .slice A n c, .slice B m d], .agg #[.bool p', .slice A' n' c', .slice B' m' d']] w (GivesFE r 0 w) := by
  have HR := hide hr
  clear hr
  have HY := hide hy.ht
  have H0 := hide h0
  clear h0
  go_enter Tryd.func29, Tryd.ntmps29
  go_wp2_with fail
  generalize hW : ((w.alloc _).alloc _).alloc _ = W
  obtain ⟨hbW, b0, b1, bR, -⟩ := boxesA3 hW
  clear hW
  refine (gnorm_f (hy.below hbW) h1L (by omega) y rfl).mono ?_
  rintro e w1 ⟨p1, A1, n1, c1, B1, m1, d1, rfl, h1, hb1⟩
  have hbA := hbW.trans (hb1.mono hbW.size)
  have b0 := b0.below' hb1
  have b1 := b1.below' hb1
  have bR := bR.below' hb1
  have hx := hx.below hbA
  have k3 : w1.cell? ⟨w.heap.size + 1, 0, none⟩ = some (.bool p') := b1.at_ 0
  have k4 : w1.cell? ⟨w.heap.size + 1, 1, none⟩ = some (.slice A' n' c') := b1.at_ 1
  have k5 : w1.cell? ⟨w.heap.size + 1, 2, none⟩ = some (.slice B' m' d') := b1.at_ 2
  have f3 := b1.frozen 0
  have f4 := b1.frozen 1
  have f5 := b1.frozen 2
  obtain ⟨hp, hN, hD⟩ := h1
  have HP := hide hp
  clear hb1 hbW hy hp
  go_wp2_with fail
  clear k3 k4 k5 f3 f4 f5
  generalize hW3 : ((w1.setCell _ _).setCell _ _).setCell _ _ = W3
  obtain ⟨b1, N3, C3, B3, X3⟩ := put3 b1 hW3
  have hN := C3 _ _ _ _ hN
  have hD := C3 _ _ _ _ hD
  have b0 := X3 _ _ _ (by simp) b0
  have bR := X3 _ _ _ (by simp) bR
  have hbA := B3 _ _ hbA (by omega)
  have hx : Fr W3 L p A n c B m d x := by
    obtain ⟨u, v, h1, h2, h3⟩ := hx
    exact ⟨u, v, N3 _ _ _ _ _ h1, N3 _ _ _ _ _ h2, h3⟩
  clear N3
  clear hW3 C3 B3 X3
  have hn0 : y.num.natAbs ≠ 0 := fun h => H0.out (Rat.num_eq_zero.1 (by omega))
  have HI := hide (show Fr W3 (L + 1) p1 B1 m1 d1 A1 n1 c1 y⁻¹ from by
    refine ⟨y.den, y.num.natAbs, hD.nt HY.out.2, hN.nt HY.out.1, ?_⟩
    rw [← qv_inv, fcq HP.out])
  obtain ⟨o, ho⟩ : ∃ o, y.num.natAbs = o := ⟨_, rfl⟩
  have HO := hide (show o < B9 ^ (L + 1) from by rw [← ho]; exact HY.out.1)
  rw [ho] at hN hn0
  have hd : decide (o = 0) = false := by simp [hn0]
  have HDD := hide hd
  clear ho hn0 hd
  refine (gzero_any (L + 1) (by omega) A1 n1 c1 o _ (hN.nt HO.out) false HDD.out).mono ?_
  rintro e w5 ⟨rfl, hb5⟩
  have hbA := hbA.trans (hb5.mono hbA.size)
  have b0 := b0.below' hb5
  have b1 := b1.below' hb5
  have bR := bR.below' hb5
  have hx := hx.below hb5
  have HI := hide (HI.out.below hb5)
  clear hb5 hN hD
  have k0 : w5.cell? ⟨w.heap.size, 0, none⟩ = some (.bool p) := b0.at_ 0
  have k1 : w5.cell? ⟨w.heap.size, 1, none⟩ = some (.slice A n c) := b0.at_ 1
  have k2 : w5.cell? ⟨w.heap.size, 2, none⟩ = some (.slice B m d) := b0.at_ 2
  have k3 : w5.cell? ⟨w.heap.size + 1, 0, none⟩ = some (.bool p1) := b1.at_ 0
  have k4 : w5.cell? ⟨w.heap.size + 1, 1, none⟩ = some (.slice A1 n1 c1) := b1.at_ 1
  have k5 : w5.cell? ⟨w.heap.size + 1, 2, none⟩ = some (.slice B1 m1 d1) := b1.at_ 2
  go_wp2_with fail
  clear k0 k1 k2 k3 k4 k5
  refine (gmul_f (L := L + 1) (hx.up (by omega)) HI.out (by omega) (by omega) r (by rw [← Rat.div_def]; exact HR.out)).mono ?_
  rintro e w6 ⟨p4, A4, n4, c4, B4, m4, d4, rfl, h4, hb6⟩
  have hbA := hbA.trans (hb6.mono hbA.size)
  have bR := bR.below' hb6
  clear hb6 hx b0 b1
  have g0 : w6.cell? ⟨w.heap.size + 1 + 1, 0, none⟩ = some (.bool false) := bR.at_ 0
  have g1 : w6.cell? ⟨w.heap.size + 1 + 1, 1, none⟩ = some (.slice none 0 0) := bR.at_ 1
  have g2 : w6.cell? ⟨w.heap.size + 1 + 1, 2, none⟩ = some (.slice none 0 0) := bR.at_ 2
  have f0 := bR.frozen 0
  have f1 := bR.frozen 1
  have f2 := bR.frozen 2
  go_wp2_with fail
  clear g0 g1 g2 f0 f1 f2
  generalize hW3 : ((w6.setCell _ _).setCell _ _).setCell _ _ = W5
  obtain ⟨b3, -, C3, BB, -⟩ := put3 bR hW3
  clear hW3
  have k0 : W5.cell? ⟨w.heap.size + 1 + 1, 0, none⟩ = some (.bool p4) := b3.at_ 0
  have k1 : W5.cell? ⟨w.heap.size + 1 + 1, 1, none⟩ = some (.slice A4 n4 c4) := b3.at_ 1
  have k2 : W5.cell? ⟨w.heap.size + 1 + 1, 2, none⟩ = some (.slice B4 m4 d4) := b3.at_ 2
  refine bodyPost_ret (v := .tuple #[.agg #[.bool p4, .slice A4 n4 c4, .slice B4 m4 d4], .int .i64 0]) (by simp [results, Tryd.results29, go_sem, k0, k1, k2]) rfl ?_
  exact ⟨_, _, _, _, _, _, _, rfl, ⟨h4.1, C3 _ _ _ _ h4.2.1, C3 _ _ _ _ h4.2.2⟩, BB _ _ hbA (by omega)⟩
set_option maxHeartbeats 1000000 in
theorem gdiv_0 {w : World} {L : Nat} {p : Bool} {A : Option Addr} {n c : Nat} {B : Option Addr} {m d : Nat} {p' : Bool} {A' : Option Addr} {n' c' : Nat} {B' : Option Addr} {m' d' : Nat} {y : Rat} (hy : Fr w L p' A' n' c' B' m' d' y) (h1L : 1 ≤ L) (hL : L ≤ 8000) (h0 : y = 0) : Calls Tryd.prog 29 #[.agg #[.bool p, .slice A n c, .slice B m d], .agg #[.bool p', .slice A' n' c', .slice B' m' d']] w fun e w' => e = .returned (.tuple #[.agg #[.bool false, .slice none 0 0, .slice none 0 0], .int .i64 12]) ∧ Below w.heap.size w w' := by
  have HY := hide hy.ht
  have H0 := hide h0
  clear h0
  go_enter Tryd.func29, Tryd.ntmps29
  go_wp2_with fail
  generalize hW : ((w.alloc _).alloc _).alloc _ = W
  obtain ⟨hbW, b0, b1, bR, -⟩ := boxesA3 hW
  clear hW
  refine (gnorm_f (hy.below hbW) h1L (by omega) y rfl).mono ?_
  rintro e w1 ⟨p1, A1, n1, c1, B1, m1, d1, rfl, h1, hb1⟩
  have hbA := hbW.trans (hb1.mono hbW.size)
  have b0 := b0.below' hb1
  have b1 := b1.below' hb1
  have bR := bR.below' hb1
  have k3 : w1.cell? ⟨w.heap.size + 1, 0, none⟩ = some (.bool p') := b1.at_ 0
  have k4 : w1.cell? ⟨w.heap.size + 1, 1, none⟩ = some (.slice A' n' c') := b1.at_ 1
  have k5 : w1.cell? ⟨w.heap.size + 1, 2, none⟩ = some (.slice B' m' d') := b1.at_ 2
  have f3 := b1.frozen 0
  have f4 := b1.frozen 1
  have f5 := b1.frozen 2
  obtain ⟨hp, hN, hD⟩ := h1
  have HP := hide hp
  clear hb1 hbW hy hp
  go_wp2_with fail
  clear k3 k4 k5 f3 f4 f5
  generalize hW3 : ((w1.setCell _ _).setCell _ _).setCell _ _ = W3
  obtain ⟨b1, -, C3, B3, X3⟩ := put3 b1 hW3
  have hN := C3 _ _ _ _ hN
  have hD := C3 _ _ _ _ hD
  have b0 := X3 _ _ _ (by simp) b0
  have bR := X3 _ _ _ (by simp) bR
  have hbA := B3 _ _ hbA (by omega)
  clear hW3 C3 B3 X3
  refine (gzero_any (L + 1) (by omega) A1 n1 c1 0 _ (Cn.nt (by rw [H0.out] at hN; exact hN) (Nat.pow_pos (by decide))) true rfl).mono ?_
  rintro e w5 ⟨rfl, hb5⟩
  have hbA := hbA.trans (hb5.mono hbA.size)
  have bR := bR.below' hb5
  clear hb5 hN hD b0 b1
  have g0 : w5.cell? ⟨w.heap.size + 1 + 1, 0, none⟩ = some (.bool false) := bR.at_ 0
  have g1 : w5.cell? ⟨w.heap.size + 1 + 1, 1, none⟩ = some (.slice none 0 0) := bR.at_ 1
  have g2 : w5.cell? ⟨w.heap.size + 1 + 1, 2, none⟩ = some (.slice none 0 0) := bR.at_ 2
  have f0 := bR.frozen 0
  have f1 := bR.frozen 1
  have f2 := bR.frozen 2
  go_wp2_with fail
  clear g0 g1 g2 f0 f1 f2
  generalize hW3 : ((w5.setCell _ _).setCell _ _).setCell _ _ = W5
  obtain ⟨b3, -, C3, BB, -⟩ := put3 bR hW3
  clear hW3
  have k0 : W5.cell? ⟨w.heap.size + 1 + 1, 0, none⟩ = some (.bool false) := b3.at_ 0
  have k1 : W5.cell? ⟨w.heap.size + 1 + 1, 1, none⟩ = some (.slice none 0 0) := b3.at_ 1
  have k2 : W5.cell? ⟨w.heap.size + 1 + 1, 2, none⟩ = some (.slice none 0 0) := b3.at_ 2
  refine bodyPost_ret (v := .tuple #[.agg #[.bool false, .slice none 0 0, .slice none 0 0], .int .i64 12]) (by simp [results, Tryd.results29, go_sem, k0, k1, k2]) rfl ?_
  exact ⟨rfl, BB _ _ hbA (by omega)⟩
end Go.Proofs.YtanhofmgapbjfaaDoor
