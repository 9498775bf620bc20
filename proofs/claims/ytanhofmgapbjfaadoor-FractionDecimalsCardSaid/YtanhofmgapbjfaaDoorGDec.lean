/- The contract of the reference's Decimal. -/
import Derived.Test.YtanhofmgapbjfaaDoorGPow
import Derived.Test.YtanhofmgapbjfaaDoorGFloor
import Derived.Test.YtanhofmgapbjfaaDoorRText
import Derived.Test.YtanhofmgapbjfaaDoorFDec
import Derived.Test.YtanhofmgapbjfaaDoorFAwake
namespace Go.Proofs.YtanhofmgapbjfaaDoor
open Go Go.RowKit

theorem rnd_parts (p : Bool) (u v k : Nat) : rnd (qv p u v).num.natAbs (qv p u v).den k = rnd u v k := by
  unfold rnd
  rw [if_neg (qv p u v).den_nz]
  by_cases hv : v = 0
  · rw [if_pos hv, hv, qv_zero]
    show (0 * 10 ^ k * 2 + 1) / (1 * 2) = 0
    simp
  · rw [if_neg hv, qv_abs hv, qv_den hv]
    have hg : 0 < Nat.gcd u v := Nat.gcd_pos_of_pos_right _ (Nat.pos_of_ne_zero hv)
    obtain ⟨a, ha⟩ := Nat.gcd_dvd_left u v
    obtain ⟨b, hb⟩ := Nat.gcd_dvd_right u v
    generalize Nat.gcd u v = g at ha hb hg
    subst ha
    subst hb
    rw [Nat.mul_div_cancel_left _ hg, Nat.mul_div_cancel_left _ hg, Nat.mul_assoc g a, Nat.mul_assoc g (a * 10 ^ k), ← Nat.mul_add, Nat.mul_assoc g b 2, Nat.mul_div_mul_left _ _ hg]
theorem whole_rat (N D k : Nat) (hD : D ≠ 0) : (((qv false N D * ((10 ^ k : Nat) : Rat) + 1 / 2).floor : Int) : Rat) = ((rnd N D k : Nat) : Rat) := by
  have h1 : ((10 ^ k : Nat) : Rat) = qv false (10 ^ k) 1 := by rw [qv_one]; rfl
  have h2 : (1 : Rat) / 2 = qv false 1 2 := by decide +kernel
  rw [h1, h2, qv_mul, show (false != false) = false from rfl, qv_add_same false (by omega) (by omega), ← fl_floor]
  unfold fl rnd
  rw [if_neg (by omega), if_neg hD, qv_one, Nat.mul_one, Nat.one_mul]
  rfl
theorem rnd_sign {p : Bool} {u v k : Nat} (h : rnd u v k ≠ 0) : decide ((qv p u v).num < 0) = p := by
  have hv : v ≠ 0 := fun hv => h (by unfold rnd; rw [if_pos hv])
  have hu : u ≠ 0 := fun hu => h (by
    unfold rnd
    rw [if_neg hv, hu, Nat.zero_mul, Nat.zero_mul, Nat.zero_add]
    exact Nat.div_eq_of_lt (by omega))
  rw [qv_neg hv]
  have hk : u / Nat.gcd u v ≠ 0 := Nat.ne_of_gt (Nat.div_pos (Nat.gcd_le_left _ (Nat.pos_of_ne_zero hu)) (Nat.gcd_pos_of_pos_left _ (Nat.pos_of_ne_zero hu)))
  simp [hk]
theorem dtext_sign {p q : Bool} {T k : Nat} (h : T ≠ 0 → p = q) : dtext p T k = dtext q T k := by
  by_cases hT : T = 0
  · unfold dtext; rw [if_neg (by simp [hT]), if_neg (by simp [hT])]
  · rw [h hT]
theorem dpad_more {k : Nat} {l : List Nat} (h : l.length ≤ k) : dpad k (48 :: l) = dpad k l := by
  unfold dpad
  rw [List.length_cons, show k + 1 - l.length = (k + 1 - (l.length + 1)) + 1 by omega, List.replicate_succ', List.append_assoc]
  rfl
theorem dpad_done {k : Nat} {l : List Nat} (h : k < l.length) : dpad k l = l := by
  unfold dpad
  rw [show k + 1 - l.length = 0 by omega]
  rfl
theorem fdecimal_err (p : Bool) (A : Option Addr) (n c : Nat) (B : Option Addr) (m d : Nat) (k : Int) (hk : k < 0 ∨ 20 < k) (w : World) :
    Calls Tryd.prog 32 #[.agg #[.bool p, .slice A n c, .slice B m d], .int .i64 k] w fun e w' => e = .returned (.tuple #[.string ⟨#[]⟩, .int .i64 2]) ∧ Below w.heap.size w w' := by
  by_cases h0 : k < 0
  · have d1 : decide (k < 0) = true := by simp [h0]
    go_enter Tryd.func32, Tryd.ntmps32
    go_wp2_with fail
    refine bodyPost_ret (v := .tuple #[.string ⟨#[]⟩, .int .i64 2]) (by simp [results, Tryd.results32, go_sem]) rfl ?_
    exact ⟨rfl, (Below.refl _ _).alloc (Nat.le_refl _) _⟩
  · have d1 : decide (k < 0) = false := by simp; omega
    have d2 : decide (20 < k) = true := by simp; omega
    go_enter Tryd.func32, Tryd.ntmps32
    go_wp2_with fail
    refine bodyPost_ret (v := .tuple #[.string ⟨#[]⟩, .int .i64 2]) (by simp [results, Tryd.results32, go_sem]) rfl ?_
    exact ⟨rfl, (Below.refl _ _).alloc (Nat.le_refl _) _⟩
theorem gdecimal_err (p : Bool) (A : Option Addr) (n c : Nat) (B : Option Addr) (m d : Nat) (k : Int) (hk : k < 0 ∨ 20 < k) (w : World) :
    Calls Tryd.prog 33 #[.agg #[.bool p, .slice A n c, .slice B m d], .int .i64 k] w fun e w' => e = .returned (.tuple #[.string ⟨#[]⟩, .int .i64 2]) ∧ Below w.heap.size w w' := by
  by_cases h0 : k < 0
  · have d1 : decide (k < 0) = true := by simp [h0]
    go_enter Tryd.func33, Tryd.ntmps33
    go_wp2_with fail
    refine bodyPost_ret (v := .tuple #[.string ⟨#[]⟩, .int .i64 2]) (by simp [results, Tryd.results33, go_sem]) rfl ?_
    exact ⟨rfl, (Below.refl _ _).alloc (Nat.le_refl _) _⟩
  · have d1 : decide (k < 0) = false := by simp; omega
    have d2 : decide (20 < k) = true := by simp; omega
    go_enter Tryd.func33, Tryd.ntmps33
    go_wp2_with fail
    refine bodyPost_ret (v := .tuple #[.string ⟨#[]⟩, .int .i64 2]) (by simp [results, Tryd.results33, go_sem]) rfl ?_
    exact ⟨rfl, (Below.refl _ _).alloc (Nat.le_refl _) _⟩
set_option maxHeartbeats 16000000 in
set_option maxRecDepth 100000 in
theorem gdecimal_any (p : Bool) (A : Option Addr) (n c u : Nat) (B : Option Addr) (m d v : Nat) (k : Nat) (hk : k ≤ 20) (w : World) (hA : Nt w 6 A n c u) (hB : Nt w 6 B m d v) (T : Nat) (hT : rnd u v k = T) (hTL : T < B9 ^ 11) (S : ByteArray) (hS : bytesOf S = dtext p T k) :
    Calls Tryd.prog 33 #[.agg #[.bool p, .slice A n c, .slice B m d], .int .i64 (k : Int)] w fun e w' => e = .returned (.tuple #[.string S, .int .i64 0]) ∧ Below w.heap.size w w' := by
  have hx : Fr w 6 p A n c B m d (qv p u v) := frMk hA hB rfl
  have HX := hide hx.ht
  have HTX := hide (show rnd (qv p u v).num.natAbs (qv p u v).den k = T from (rnd_parts p u v k).trans hT)
  have HS := hide (show ∀ q : Bool, q = decide ((qv p u v).num < 0) → bytesOf S = dtext q T k from fun q hq => by
    rw [hS]
    exact dtext_sign fun hT0 => by rw [hq, rnd_sign (by rw [hT]; exact hT0)])
  have HTL := hide hTL
  have d1 : decide ((k : Int) < 0) = false := by simp
  have d2 : decide ((20 : Int) < (k : Int)) = false := by simp; omega
  clear hA hB hT hTL hS
  generalize qv p u v = x at *
  go_enter Tryd.func33, Tryd.ntmps33
  go_wp2_with fail
  generalize hW : w.alloc _ = W
  obtain ⟨hbW, b0, -⟩ := boxesA1 hW
  clear hW
  refine (gnorm_f (hx.below hbW) (by omega) (by omega) x rfl).mono ?_
  rintro e w1 ⟨p1, A1, n1, c1, B1, m1, d1', rfl, ⟨hp, hN, hD⟩, hb1⟩
  have hbA := hbW.trans (hb1.mono hbW.size)
  have b0 := b0.below' hb1
  have k0 : w1.cell? ⟨w.heap.size, 0, none⟩ = some (.bool p) := b0.at_ 0
  have k1 : w1.cell? ⟨w.heap.size, 1, none⟩ = some (.slice A n c) := b0.at_ 1
  have k2 : w1.cell? ⟨w.heap.size, 2, none⟩ = some (.slice B m d) := b0.at_ 2
  have f0 := b0.frozen 0
  have f1 := b0.frozen 1
  have f2 := b0.frozen 2
  have lt0 := b0.lt
  have HS := hide (HS.out p1 hp)
  have HD0 := hide x.den_nz
  clear hb1 hbW hx hp
  go_wp2_with fail
  clear k0 k1 k2 f0 f1 f2 lt0
  generalize hW3 : ((w1.setCell _ _).setCell _ _).setCell _ _ = W3
  obtain ⟨b0, -, C3, B3, -⟩ := put3 b0 hW3
  have hs3 : W3.heap.size = w1.heap.size := by rw [← hW3]; simp
  clear hW3
  have hN := C3 _ _ _ _ hN
  have hD := C3 _ _ _ _ hD
  have hbA := B3 _ _ hbA (Nat.le_refl _)
  clear C3 B3
  try rw [← hs3]
  clear hs3
  generalize hW4 : W3.alloc _ = W4
  obtain ⟨hb, b6, -⟩ := boxesA1 hW4
  clear hW4
  have hbA := hbA.trans (hb.mono hbA.size)
  have b0 := b0.below' hb
  have hN := hN.below hb
  have hD := hD.below hb
  clear hb
  have hz : Fr W4 7 false A1 n1 c1 B1 m1 d1' (qv false x.num.natAbs x.den) := frMk (hN.nt HX.out.1) (hD.nt HX.out.2) rfl
  have HWH := hide (whole_rat x.num.natAbs x.den k HD0.out)
  rw [HTX.out] at HWH
  have HZ := hide hz.ht
  generalize qv false x.num.natAbs x.den = z at *
  have KZ : Hid (∀ w', Below W4.heap.size W4 w' → Fr w' 40 false A1 n1 c1 B1 m1 d1' z) := fun w' h => (hz.below h).up (by omega)
  have T1 := hide (show Ht ((10 ^ k : Nat) : Rat) 3 from ht_nat (tenB hk) (by omega))
  have T2 := hide (show Ht (z * ((10 ^ k : Nat) : Rat)) 40 from (HZ.out.mul T1.out).up (by omega))
  have T3 := hide (show Ht (1 / 2) 1 from ht_small (by decide +kernel))
  have T4 := hide (show Ht (z * ((10 ^ k : Nat) : Rat) + 1 / 2) 40 from ((HZ.out.mul T1.out).add T3.out).up (by omega))
  have Q1 := hide (show (((1 : Int) : Rat) / ((2 : Int) : Rat)) = 1 / 2 from by decide +kernel)
  have lt6 := b6.lt
  have KS : Hid (∀ w', Below W4.heap.size W4 w' → w'.cell? ⟨W3.heap.size, 0, none⟩ = some (.bool false) ∧ w'.cell? ⟨W3.heap.size, 1, none⟩ = some (.slice A1 n1 c1) ∧ w'.cell? ⟨W3.heap.size, 2, none⟩ = some (.slice B1 m1 d1')) := fun w' h =>
    ⟨(b6.below h lt6).at_ 0, (b6.below h lt6).at_ 1, (b6.below h lt6).at_ 2⟩
  clear hz hN hD
  go_wp2_with fail
  go_cut [7] from 22 to 29 (fun s7 wx => MadeF W4 ((T : Nat) : Rat) s7 wx ∧ Below W4.heap.size W4 wx)
  case first =>
    go_region_held3 (fun w' => w'.cell? ⟨W3.heap.size, 0, none⟩ = some (.bool false) ∧ w'.cell? ⟨W3.heap.size, 1, none⟩ = some (.slice A1 n1 c1) ∧ w'.cell? ⟨W3.heap.size, 2, none⟩ = some (.slice B1 m1 d1'))
      (exact KS.out _ (by ((repeat (first | (with_reducible assumption) | (with_reducible exact Below.refl _ _) | (with_reducible refine Below.drewS ?_) | (with_reducible refine Below.allocS ?_ _) | (with_reducible refine Below.setS ?_ (by first | omega | (simp; omega)) _))); (first | done | fail))))
      (first
        | (go_at_call 58; (with_reducible refine (gpow_f k hk _ _ rfl).mono ?_); rintro e wp ⟨pp, Ap, np, cp, Bp, mp, dp, rfl, hp, hbp⟩; have Ep : Below W4.heap.size W4 wp := Below.next (by ((repeat (first | (with_reducible assumption) | (with_reducible exact Below.refl _ _) | (with_reducible refine Below.drewS ?_) | (with_reducible refine Below.allocS ?_ _) | (with_reducible refine Below.setS ?_ (by first | omega | (simp; omega)) _))); (first | done | fail))) hbp; have zp := Ep.size; have yp := hbp.size; (try simp at yp); have tp : Hid (∀ w', Below wp.heap.size wp w' → Fr w' 40 pp Ap np cp Bp mp dp (((10 ^ k : Nat) : Rat))) := fun w' hh => Fc.fr (hp.below hh) (T1.out.up (by omega)); clear hp)
        | (go_at_call 25; (with_reducible refine (gmul_f (L := 40) (KZ.out _ (by ((repeat (first | (with_reducible assumption) | (with_reducible exact Below.refl _ _) | (with_reducible refine Below.drewS ?_) | (with_reducible refine Below.allocS ?_ _) | (with_reducible refine Below.setS ?_ (by first | omega | (simp; omega)) _))); (first | done | fail)))) (tp.out _ (by ((repeat (first | (with_reducible assumption) | (with_reducible exact Below.refl _ _) | (with_reducible refine Below.drewS ?_) | (with_reducible refine Below.allocS ?_ _) | (with_reducible refine Below.setS ?_ (by first | omega | (simp; omega)) _))); (first | done | fail)))) (by omega) (by omega) (z * ((10 ^ k : Nat) : Rat)) rfl).mono ?_); rintro e wm ⟨pm, Am, nm, cm, Bm, mm, dm, rfl, hm, hbm⟩; have Em : Below W4.heap.size W4 wm := Below.next (by ((repeat (first | (with_reducible assumption) | (with_reducible exact Below.refl _ _) | (with_reducible refine Below.drewS ?_) | (with_reducible refine Below.allocS ?_ _) | (with_reducible refine Below.setS ?_ (by first | omega | (simp; omega)) _))); (first | done | fail))) hbm; have zm := Em.size; have ym := hbm.size; (try simp at ym); have tm : Hid (∀ w', Below wm.heap.size wm w' → Fr w' 40 pm Am nm cm Bm mm dm (z * ((10 ^ k : Nat) : Rat))) := fun w' hh => Fc.fr (hm.below hh) (T2.out.up (by omega)); clear hm; clear tp)
        | (go_at_call 13; (with_reducible refine (gof_f 1 2 _ (by omega) (by omega) (by omega) (by omega) (1 / 2) Q1.out).mono ?_); rintro e wg ⟨pg, Ag, ng, cg, Bg, mg, dg, rfl, hg, hbg⟩; have Eg : Below W4.heap.size W4 wg := Below.next (by ((repeat (first | (with_reducible assumption) | (with_reducible exact Below.refl _ _) | (with_reducible refine Below.drewS ?_) | (with_reducible refine Below.allocS ?_ _) | (with_reducible refine Below.setS ?_ (by first | omega | (simp; omega)) _))); (first | done | fail))) hbg; have zg := Eg.size; have yg := hbg.size; (try simp at yg); have th : Hid (∀ w', Below wg.heap.size wg w' → Fr w' 40 pg Ag ng cg Bg mg dg (1 / 2)) := fun w' hh => Fc.fr (hg.below hh) (T3.out.up (by omega)); clear hg; have tn : Hid (∀ w', Below wg.heap.size wg w' → Fr w' 40 pm Am nm cm Bm mm dm (z * ((10 ^ k : Nat) : Rat))) := fun w' hh => (tm.out _ (Below.next (by ((repeat (first | (with_reducible assumption) | (with_reducible exact Below.refl _ _) | (with_reducible refine Below.drewS ?_) | (with_reducible refine Below.allocS ?_ _) | (with_reducible refine Below.setS ?_ (by first | omega | (simp; omega)) _))); (first | done | fail))) hbg)).below hh; clear tm)
        | (go_at_call 21; (with_reducible refine (gadd_f (L := 40) (tn.out _ (by ((repeat (first | (with_reducible assumption) | (with_reducible exact Below.refl _ _) | (with_reducible refine Below.drewS ?_) | (with_reducible refine Below.allocS ?_ _) | (with_reducible refine Below.setS ?_ (by first | omega | (simp; omega)) _))); (first | done | fail)))) (th.out _ (by ((repeat (first | (with_reducible assumption) | (with_reducible exact Below.refl _ _) | (with_reducible refine Below.drewS ?_) | (with_reducible refine Below.allocS ?_ _) | (with_reducible refine Below.setS ?_ (by first | omega | (simp; omega)) _))); (first | done | fail)))) (by omega) (by omega) (z * ((10 ^ k : Nat) : Rat) + 1 / 2) rfl).mono ?_); rintro e wa ⟨pa, Aa, na, ca, Ba, ma, da, rfl, ha, hba⟩; have Ea : Below W4.heap.size W4 wa := Below.next (by ((repeat (first | (with_reducible assumption) | (with_reducible exact Below.refl _ _) | (with_reducible refine Below.drewS ?_) | (with_reducible refine Below.allocS ?_ _) | (with_reducible refine Below.setS ?_ (by first | omega | (simp; omega)) _))); (first | done | fail))) hba; have za := Ea.size; have ya := hba.size; (try simp at ya); have ta : Hid (∀ w', Below wa.heap.size wa w' → Fr w' 40 pa Aa na ca Ba ma da (z * ((10 ^ k : Nat) : Rat) + 1 / 2)) := fun w' hh => Fc.fr (ha.below hh) (T4.out.up (by omega)); clear ha; clear tn th)
        | (go_at_call 31; (with_reducible refine (gfloor_f (L := 40) (ta.out _ (by ((repeat (first | (with_reducible assumption) | (with_reducible exact Below.refl _ _) | (with_reducible refine Below.drewS ?_) | (with_reducible refine Below.allocS ?_ _) | (with_reducible refine Below.setS ?_ (by first | omega | (simp; omega)) _))); (first | done | fail)))) (by omega) (by omega) ((T : Nat) : Rat) HWH.out).mono ?_); rintro e wf ⟨pf, Af, nf, cf, Bf, mf, df, rfl, hf, hbf⟩; have Ef : Below W4.heap.size W4 wf := Below.next (by ((repeat (first | (with_reducible assumption) | (with_reducible exact Below.refl _ _) | (with_reducible refine Below.drewS ?_) | (with_reducible refine Below.allocS ?_ _) | (with_reducible refine Below.setS ?_ (by first | omega | (simp; omega)) _))); (first | done | fail))) hbf; have zf := Ef.size; have yf := hbf.size; (try simp at yf); (try (have q0_0 : W4.heap.size < wf.heap.size := by omega)); (try (have q1_0 : wp.heap.size < wf.heap.size := by omega)); (try (have q2_0 : wm.heap.size < wf.heap.size := by omega)); (try (have q3_0 : wg.heap.size < wf.heap.size := by omega)); (try (have q4_0 : wa.heap.size < wf.heap.size := by omega)); (try (have e0_0 : Box wf (W4.heap.size) #[.bool false, .slice none 0 0, .slice none 0 0] 26 := (by ((repeat (first | (with_reducible exact Box.newE _ _ _ (by first | rfl | (simp; (first | done | fail)))) | (with_reducible refine Box.drewS ?_) | (with_reducible refine Box.alloc ?_ _) | (with_reducible refine Box.below' ?_ hbf) | (with_reducible refine Box.below' ?_ hba) | (with_reducible refine Box.below' ?_ hbg) | (with_reducible refine Box.below' ?_ hbm) | (with_reducible refine Box.below' ?_ hbp))); (first | done | fail))); have le0_0 := Box.lt e0_0; have k0e0_0 : wf.cell? ⟨W4.heap.size, 0, none⟩ = some (.bool false) := Box.at_ e0_0 0; have k1e0_0 : wf.cell? ⟨W4.heap.size, 1, none⟩ = some (.slice none 0 0) := Box.at_ e0_0 1; have k2e0_0 : wf.cell? ⟨W4.heap.size, 2, none⟩ = some (.slice none 0 0) := Box.at_ e0_0 2; have f0e0_0 := Box.frozen e0_0 0; have f1e0_0 := Box.frozen e0_0 1; have f2e0_0 := Box.frozen e0_0 2)); (try (have e1_0 : Box wf (wp.heap.size) #[.bool false, .slice none 0 0, .slice none 0 0] 26 := (by ((repeat (first | (with_reducible exact Box.newE _ _ _ (by first | rfl | (simp; (first | done | fail)))) | (with_reducible refine Box.drewS ?_) | (with_reducible refine Box.alloc ?_ _) | (with_reducible refine Box.below' ?_ hbf) | (with_reducible refine Box.below' ?_ hba) | (with_reducible refine Box.below' ?_ hbg) | (with_reducible refine Box.below' ?_ hbm) | (with_reducible refine Box.below' ?_ hbp))); (first | done | fail))); have le1_0 := Box.lt e1_0; have k0e1_0 : wf.cell? ⟨wp.heap.size, 0, none⟩ = some (.bool false) := Box.at_ e1_0 0; have k1e1_0 : wf.cell? ⟨wp.heap.size, 1, none⟩ = some (.slice none 0 0) := Box.at_ e1_0 1; have k2e1_0 : wf.cell? ⟨wp.heap.size, 2, none⟩ = some (.slice none 0 0) := Box.at_ e1_0 2; have f0e1_0 := Box.frozen e1_0 0; have f1e1_0 := Box.frozen e1_0 1; have f2e1_0 := Box.frozen e1_0 2)); (try (have e2_0 : Box wf (wm.heap.size) #[.bool false, .slice none 0 0, .slice none 0 0] 26 := (by ((repeat (first | (with_reducible exact Box.newE _ _ _ (by first | rfl | (simp; (first | done | fail)))) | (with_reducible refine Box.drewS ?_) | (with_reducible refine Box.alloc ?_ _) | (with_reducible refine Box.below' ?_ hbf) | (with_reducible refine Box.below' ?_ hba) | (with_reducible refine Box.below' ?_ hbg) | (with_reducible refine Box.below' ?_ hbm) | (with_reducible refine Box.below' ?_ hbp))); (first | done | fail))); have le2_0 := Box.lt e2_0; have k0e2_0 : wf.cell? ⟨wm.heap.size, 0, none⟩ = some (.bool false) := Box.at_ e2_0 0; have k1e2_0 : wf.cell? ⟨wm.heap.size, 1, none⟩ = some (.slice none 0 0) := Box.at_ e2_0 1; have k2e2_0 : wf.cell? ⟨wm.heap.size, 2, none⟩ = some (.slice none 0 0) := Box.at_ e2_0 2; have f0e2_0 := Box.frozen e2_0 0; have f1e2_0 := Box.frozen e2_0 1; have f2e2_0 := Box.frozen e2_0 2)); (try (have e3_0 : Box wf (wg.heap.size) #[.bool false, .slice none 0 0, .slice none 0 0] 26 := (by ((repeat (first | (with_reducible exact Box.newE _ _ _ (by first | rfl | (simp; (first | done | fail)))) | (with_reducible refine Box.drewS ?_) | (with_reducible refine Box.alloc ?_ _) | (with_reducible refine Box.below' ?_ hbf) | (with_reducible refine Box.below' ?_ hba) | (with_reducible refine Box.below' ?_ hbg) | (with_reducible refine Box.below' ?_ hbm) | (with_reducible refine Box.below' ?_ hbp))); (first | done | fail))); have le3_0 := Box.lt e3_0; have k0e3_0 : wf.cell? ⟨wg.heap.size, 0, none⟩ = some (.bool false) := Box.at_ e3_0 0; have k1e3_0 : wf.cell? ⟨wg.heap.size, 1, none⟩ = some (.slice none 0 0) := Box.at_ e3_0 1; have k2e3_0 : wf.cell? ⟨wg.heap.size, 2, none⟩ = some (.slice none 0 0) := Box.at_ e3_0 2; have f0e3_0 := Box.frozen e3_0 0; have f1e3_0 := Box.frozen e3_0 1; have f2e3_0 := Box.frozen e3_0 2)); (try (have e4_0 : Box wf (wa.heap.size) #[.bool false, .slice none 0 0, .slice none 0 0] 26 := (by ((repeat (first | (with_reducible exact Box.newE _ _ _ (by first | rfl | (simp; (first | done | fail)))) | (with_reducible refine Box.drewS ?_) | (with_reducible refine Box.alloc ?_ _) | (with_reducible refine Box.below' ?_ hbf) | (with_reducible refine Box.below' ?_ hba) | (with_reducible refine Box.below' ?_ hbg) | (with_reducible refine Box.below' ?_ hbm) | (with_reducible refine Box.below' ?_ hbp))); (first | done | fail))); have le4_0 := Box.lt e4_0; have k0e4_0 : wf.cell? ⟨wa.heap.size, 0, none⟩ = some (.bool false) := Box.at_ e4_0 0; have k1e4_0 : wf.cell? ⟨wa.heap.size, 1, none⟩ = some (.slice none 0 0) := Box.at_ e4_0 1; have k2e4_0 : wf.cell? ⟨wa.heap.size, 2, none⟩ = some (.slice none 0 0) := Box.at_ e4_0 2; have f0e4_0 := Box.frozen e4_0 0; have f1e4_0 := Box.frozen e4_0 1; have f2e4_0 := Box.frozen e4_0 2)); clear ta))
    all_goals
      go_wp2_with fail
      go_meet
      exact ⟨⟨_, pf, Af, nf, cf, Bf, mf, df, rfl, (by first | omega | (simp; omega)), (by ((repeat (first | (with_reducible assumption) | (with_reducible exact Box.newE _ _ _ (by first | rfl | (simp; (first | done | fail)))) | (with_reducible refine Box.drewS ?_) | (with_reducible refine Box.alloc ?_ _) | (with_reducible refine Box.put1z ?_) | (with_reducible refine Box.put3z ?_) | (with_reducible refine Box.far3 ?_ (by first | omega | (simp; omega)) _ _ _) | (with_reducible refine Box.far1 ?_ (by first | omega | (simp; omega)) _))); (first | done | fail))), (by ((repeat (first | (with_reducible exact hf) | (with_reducible refine Fc.allocS ?_ _) | (with_reducible refine Fc.far3z ?_ (by ((repeat (first | (with_reducible assumption) | (with_reducible exact Box.newE _ _ _ (by first | rfl | (simp; (first | done | fail)))) | (with_reducible refine Box.drewS ?_) | (with_reducible refine Box.alloc ?_ _) | (with_reducible refine Box.put1z ?_) | (with_reducible refine Box.put3z ?_) | (with_reducible refine Box.far3 ?_ (by first | omega | (simp; omega)) _ _ _) | (with_reducible refine Box.far1 ?_ (by first | omega | (simp; omega)) _))); (first | done | fail))) _ _ _ _ _ _ _))); (first | done | fail)))⟩, (by ((repeat (first | (with_reducible assumption) | (with_reducible exact Below.refl _ _) | (with_reducible refine Below.drewS ?_) | (with_reducible refine Below.allocS ?_ _) | (with_reducible refine Below.setS ?_ (by first | omega | (simp; omega)) _))); (first | done | fail)))⟩
  case rest =>
  obtain ⟨⟨g7, p7, A7, n7, c7, B7, m7, d7, rfl, hg7, b7, h7⟩, E2⟩ := hcut
  have hbA := hbA.trans (E2.mono hbA.size)
  have b0 := b0.below' E2
  have hn : ((T : Nat) : Rat).num.natAbs = T := by rw [Rat.num_natCast]; rfl
  have hT7 : Cn wc A7 n7 c7 T := by
    have := h7.2.1
    rwa [hn] at this
  have k71 : wc.cell? ⟨g7, 1, none⟩ = some (.slice A7 n7 c7) := b7.at_ 1
  have ln := len_le hT7.1.len HTL.out
  have HT7 := hide (show Ht ((T : Nat) : Rat) 11 from ht_nat HTL.out (by omega))
  clear E2 KS KZ b6 hn hg7
  generalize wc = w5 at *
  obtain ⟨s, hs⟩ : ∃ s, strN (asc T) = s := ⟨_, rfl⟩
  have hsb : bytesOf s = asc T := by rw [← hs]; exact bytesOf_strN (asc_digits T).lt256
  have hsl : s.size ≤ 1000000 := by rw [← bytesOf_length, hsb]; exact nd_size (L := 9) HTL.out (by omega)
  have HSB := hide hsb
  have HSS := hide hs
  clear hs hsb
  go_wp2_with fail
  refine (rtext_g A7 n7 c7 _ _ hT7.1 hT7.2.1 hT7.2.2 (by omega) (dig_u32 T) T (vd T) s HSS.out).mono ?_
  rintro e w8 ⟨rfl, hb8⟩
  have hbA := hbA.trans (hb8.mono hbA.size)
  have b0 := b0.below' hb8
  have b7 := b7.below' hb8
  have h7 := h7.below hb8
  clear hb8 hT7 k71
  have H7 := hide h7
  clear h7
  go_wp2_with fail
  go_loopg [8] (k + 1 - s.size) (fun gk t wq => ∃ sv : ByteArray, gk = k + 1 - sv.size ∧ t = .string sv ∧ wq = w8 ∧ Hid (dpad k (bytesOf sv) = dpad k (asc T)) ∧ sv.size ≤ 1000000)
  case atStart => exact ⟨s, rfl, rfl, rfl, hide (by rw [HSB.out]), hsl⟩
  case round =>
    obtain ⟨sv, hg, rfl, rfl, hpad, hsl⟩ := hrel
    by_cases hle : sv.size ≤ k
    · have d3 : decide ((sv.size : Int) ≤ (k : Int)) = true := by simp; omega
      have e0 : 1 + sv.size ≤ 1000000 := by omega
      have HN := hide (show dpad k (bytesOf ((⟨#[48]⟩ : ByteArray) ++ sv)) = dpad k (asc T) from by
        rw [bytesOf_append]
        show dpad k (48 :: bytesOf sv) = _
        rw [dpad_more (by rw [bytesOf_length]; exact hle)]
        exact hpad.out)
      have HG := hide (show gk - 1 = k + 1 - ((⟨#[48]⟩ : ByteArray) ++ sv).size from by
        rw [ByteArray.size_append]
        show _ = k + 1 - (1 + sv.size)
        omega)
      go_wp2
      go_roundg (gk - 1)
      case measure => omega
      case rel => exact ⟨_, HG.out, rfl, rfl, HN, by rw [ByteArray.size_append]; exact e0⟩
    · have d3 : decide ((sv.size : Int) ≤ (k : Int)) = false := by simp; omega
      have hD : bytesOf sv = dpad k (asc T) := by
        rw [← hpad.out]
        exact (dpad_done (by rw [bytesOf_length]; omega)).symm
      by_cases hk0 : k = 0
      · have d4 : decide (0 < (k : Int)) = false := by simp; omega
        have HX := hide (show bytesOf sv = dpoint k (dpad k (asc T)) from by rw [hD]; unfold dpoint; rw [if_pos hk0])
        have d5 : ¬ 0 < k := by omega
        clear hD hk0
        have k0 : wr.cell? ⟨w.heap.size, 0, none⟩ = some (.bool p1) := b0.at_ 0
        have k70 : wr.cell? ⟨g7, 0, none⟩ = some (.bool p7) := b7.at_ 0
        have k71 : wr.cell? ⟨g7, 1, none⟩ = some (.slice A7 n7 c7) := b7.at_ 1
        have k72 : wr.cell? ⟨g7, 2, none⟩ = some (.slice B7 m7 d7) := b7.at_ 2
        have f1 : 1 + sv.size ≤ 9000001 := by omega
        cases p1
        · obtain rfl : sv = S := bytesOf_inj (by rw [HX.out, HS.out]; unfold dtext; rw [if_neg (by simp)])
          go_wp2_with fail
          refine bodyPost_ret (v := .tuple #[.string sv, .int .i64 0]) (by simp [results, Tryd.results33, go_sem]) rfl ?_
          exact ⟨rfl, (by ((repeat (first | (with_reducible assumption) | (with_reducible exact Below.refl _ _) | (with_reducible refine Below.drewS ?_) | (with_reducible refine Below.allocS ?_ _) | (with_reducible refine Below.setS ?_ (by first | omega | (simp; omega)) _))); (first | done | fail)))⟩
        · go_wp2_with fail
          by_cases hT0 : T = 0
          · refine (gsign_f (L := 11) (Fc.fr (Fc.below H7.out (by ((repeat (first | (with_reducible assumption) | (with_reducible exact Below.refl _ _) | (with_reducible refine Below.drewS ?_) | (with_reducible refine Below.allocS ?_ _) | (with_reducible refine Below.setS ?_ (by first | omega | (simp; omega)) _))); (first | done | fail)))) HT7.out) (by omega) (by omega) 0 (by rw [hT0]; rfl)).mono ?_
            rintro e w9 ⟨rfl, hb9⟩
            have hbZ := hbA.trans ((Below.next (by ((repeat (first | (with_reducible assumption) | (with_reducible exact Below.refl _ _) | (with_reducible refine Below.drewS ?_) | (with_reducible refine Below.allocS ?_ _) | (with_reducible refine Below.setS ?_ (by first | omega | (simp; omega)) _))); (first | done | fail))) hb9).mono hbA.size)
            obtain rfl : sv = S := bytesOf_inj (by rw [HX.out, HS.out]; unfold dtext; rw [if_neg (by simp [hT0])])
            clear hb9 hT0 k0 k70 k71 k72
            go_wp2
            refine bodyPost_ret (v := .tuple #[.string sv, .int .i64 0]) (by simp [results, Tryd.results33, go_sem]) rfl ?_
            exact ⟨rfl, hbZ⟩
          · refine (gsign_f (L := 11) (Fc.fr (Fc.below H7.out (by ((repeat (first | (with_reducible assumption) | (with_reducible exact Below.refl _ _) | (with_reducible refine Below.drewS ?_) | (with_reducible refine Below.allocS ?_ _) | (with_reducible refine Below.setS ?_ (by first | omega | (simp; omega)) _))); (first | done | fail)))) HT7.out) (by omega) (by omega) 1 (by rw [Rat.num_natCast]; exact Int.sign_eq_one_of_pos (by omega))).mono ?_
            rintro e w9 ⟨rfl, hb9⟩
            have hbZ := hbA.trans ((Below.next (by ((repeat (first | (with_reducible assumption) | (with_reducible exact Below.refl _ _) | (with_reducible refine Below.drewS ?_) | (with_reducible refine Below.allocS ?_ _) | (with_reducible refine Below.setS ?_ (by first | omega | (simp; omega)) _))); (first | done | fail))) hb9).mono hbA.size)
            have hXS : (⟨#[45]⟩ : ByteArray) ++ sv = S := bytesOf_inj (by
              rw [bytesOf_append, HX.out, HS.out]; unfold dtext; rw [if_pos ⟨rfl, hT0⟩]; rfl)
            have HXS := hide hXS
            clear hb9 hT0 k0 k70 k71 k72 hXS
            go_wp2
            refine bodyPost_ret (v := .tuple #[.string ((⟨#[45]⟩ : ByteArray) ++ sv), .int .i64 0]) (by simp [results, Tryd.results33, go_sem]) rfl ?_
            exact ⟨congrArg (fun t => Ending.returned (.tuple #[.string t, .int .i64 0])) HXS.out, hbZ⟩
      · have d4 : decide (0 < (k : Int)) = true := by simp; omega
        obtain ⟨pt, hp⟩ : ∃ pt, sv.size - k = pt := ⟨_, rfl⟩
        have hpt : (sv.size : Int) - (k : Int) = (pt : Int) := by omega
        have HDL := hide (show sv.size = pt + k from by omega)
        have hpl : pt ≤ sv.size := by omega
        have HD := hide hD
        have e1 : pt + 1 ≤ 3000000 := by omega
        have e2 : pt + 1 + (sv.size - pt) ≤ 3000000 := by omega
        clear hp hD
        go_wp2_with fail
        go_region
        generalize hX : sv.extract 0 pt ++ _ ++ sv.extract pt sv.size = X
        have hXb : bytesOf X = dpoint k (dpad k (asc T)) := by
          rw [← hX]
          exact dec_point hk0 HD.out HDL.out
        have hXl : X.size ≤ 9000000 := by
          rw [← hX, ByteArray.size_append, ByteArray.size_append]
          have h1 : (sv.extract 0 pt).size ≤ sv.size := by rw [ByteArray.size_extract]; omega
          have h2 : (sv.extract pt sv.size).size ≤ sv.size := by rw [ByteArray.size_extract]; omega
          have h3 : ∀ b : UInt8, (⟨#[b]⟩ : ByteArray).size = 1 := fun _ => rfl
          rw [h3]
          omega
        have HX := hide hXb
        clear hX hXb e1 e2 hpl hpt
        have k0 : wr.cell? ⟨w.heap.size, 0, none⟩ = some (.bool p1) := b0.at_ 0
        have k70 : wr.cell? ⟨g7, 0, none⟩ = some (.bool p7) := b7.at_ 0
        have k71 : wr.cell? ⟨g7, 1, none⟩ = some (.slice A7 n7 c7) := b7.at_ 1
        have k72 : wr.cell? ⟨g7, 2, none⟩ = some (.slice B7 m7 d7) := b7.at_ 2
        have f1 : 1 + X.size ≤ 9000001 := by omega
        cases p1
        · obtain rfl : X = S := bytesOf_inj (by rw [HX.out, HS.out]; unfold dtext; rw [if_neg (by simp)])
          go_wp2_with fail
          refine bodyPost_ret (v := .tuple #[.string X, .int .i64 0]) (by simp [results, Tryd.results33, go_sem]) rfl ?_
          exact ⟨rfl, (by ((repeat (first | (with_reducible assumption) | (with_reducible exact Below.refl _ _) | (with_reducible refine Below.drewS ?_) | (with_reducible refine Below.allocS ?_ _) | (with_reducible refine Below.setS ?_ (by first | omega | (simp; omega)) _))); (first | done | fail)))⟩
        · go_wp2_with fail
          by_cases hT0 : T = 0
          · refine (gsign_f (L := 11) (Fc.fr (Fc.below H7.out (by ((repeat (first | (with_reducible assumption) | (with_reducible exact Below.refl _ _) | (with_reducible refine Below.drewS ?_) | (with_reducible refine Below.allocS ?_ _) | (with_reducible refine Below.setS ?_ (by first | omega | (simp; omega)) _))); (first | done | fail)))) HT7.out) (by omega) (by omega) 0 (by rw [hT0]; rfl)).mono ?_
            rintro e w9 ⟨rfl, hb9⟩
            have hbZ := hbA.trans ((Below.next (by ((repeat (first | (with_reducible assumption) | (with_reducible exact Below.refl _ _) | (with_reducible refine Below.drewS ?_) | (with_reducible refine Below.allocS ?_ _) | (with_reducible refine Below.setS ?_ (by first | omega | (simp; omega)) _))); (first | done | fail))) hb9).mono hbA.size)
            obtain rfl : X = S := bytesOf_inj (by rw [HX.out, HS.out]; unfold dtext; rw [if_neg (by simp [hT0])])
            clear hb9 hT0 k0 k70 k71 k72
            go_wp2
            refine bodyPost_ret (v := .tuple #[.string X, .int .i64 0]) (by simp [results, Tryd.results33, go_sem]) rfl ?_
            exact ⟨rfl, hbZ⟩
          · refine (gsign_f (L := 11) (Fc.fr (Fc.below H7.out (by ((repeat (first | (with_reducible assumption) | (with_reducible exact Below.refl _ _) | (with_reducible refine Below.drewS ?_) | (with_reducible refine Below.allocS ?_ _) | (with_reducible refine Below.setS ?_ (by first | omega | (simp; omega)) _))); (first | done | fail)))) HT7.out) (by omega) (by omega) 1 (by rw [Rat.num_natCast]; exact Int.sign_eq_one_of_pos (by omega))).mono ?_
            rintro e w9 ⟨rfl, hb9⟩
            have hbZ := hbA.trans ((Below.next (by ((repeat (first | (with_reducible assumption) | (with_reducible exact Below.refl _ _) | (with_reducible refine Below.drewS ?_) | (with_reducible refine Below.allocS ?_ _) | (with_reducible refine Below.setS ?_ (by first | omega | (simp; omega)) _))); (first | done | fail))) hb9).mono hbA.size)
            have hXS : (⟨#[45]⟩ : ByteArray) ++ X = S := bytesOf_inj (by
              rw [bytesOf_append, HX.out, HS.out]; unfold dtext; rw [if_pos ⟨rfl, hT0⟩]; rfl)
            have HXS := hide hXS
            clear hb9 hT0 k0 k70 k71 k72 hXS
            go_wp2
            refine bodyPost_ret (v := .tuple #[.string ((⟨#[45]⟩ : ByteArray) ++ X), .int .i64 0]) (by simp [results, Tryd.results33, go_sem]) rfl ?_
            exact ⟨congrArg (fun t => Ending.returned (.tuple #[.string t, .int .i64 0])) HXS.out, hbZ⟩
end Go.Proofs.YtanhofmgapbjfaaDoor
