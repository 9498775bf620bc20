/- The contract of the reference's power (of ten). -/
import Derived.Test.YtoeknkakdoemfaaGreatDoorBaseI
import Derived.Deep.RegionLaw
import Derived.Deep.CutRange
import Derived.Test.YtoeknkakdoemfaaGreatDoorZA
import Derived.Test.YtoeknkakdoemfaaGreatDoorShelf2
import Derived.WalkSpells
namespace Go.Proofs.YtoeknkakdoemfaaGreatDoor
open Go Go.RowKit

theorem tenB {k : Nat} (hk : k ≤ 20) : 10 ^ k < B9 ^ 3 := Nat.lt_of_le_of_lt (Nat.pow_le_pow_right (by decide) hk) (by decide)
theorem ht_nat {a i : Nat} (h : a < B9 ^ i) (hi : 1 ≤ i) : Ht ((a : Nat) : Rat) i := by
  have := Ht.int (k := (a : Int)) (i := i) (by simpa using h) hi
  rwa [Rat.intCast_natCast] at this
set_option maxHeartbeats 2000000 in
theorem gpow_f (k : Nat) (hk : k ≤ 20) (w : World) (r : Rat) (hr : ((10 ^ k : Nat) : Rat) = r) : Calls Tryz.prog 55 #[.int .i64 (k : Int)] w (GivesF r w) := by
  have HR := hide hr
  have Q1 := hide (show (((1 : Int) : Rat) / ((1 : Int) : Rat)) = ((10 ^ 0 : Nat) : Rat) from by decide +kernel)
  have Q2 := hide (show (((10 : Int) : Rat) / ((1 : Int) : Rat)) = 10 from by decide +kernel)
  have H10 := hide (show Ht 10 3 from by
    have : Ht ((10 : Nat) : Rat) 3 := ht_nat (by decide) (by omega)
    simpa using this)
  clear hr
  go_enter Tryz.func55, Tryz.ntmps55
  go_wp2_with fail
  generalize hW : w.alloc _ = W
  obtain ⟨hbW, bR, -⟩ := boxesA1 hW
  clear hW
  refine (gof_f 1 1 _ (by omega) (by omega) (by omega) (by omega) _ Q1.out).mono ?_
  rintro e w1 ⟨p1, A1, n1, c1, B1, m1, d1, rfl, h1, hb1⟩
  have hbA := hbW.trans (hb1.mono hbW.size)
  have bR := bR.below' hb1
  have HS := hide bR.lt
  clear hb1 hbW
  go_wp2_with fail
  generalize hW : w1.alloc _ = W1
  obtain ⟨hb, b3, -⟩ := boxesA1 hW
  clear hW
  have hbA := hbA.trans (hb.mono hbA.size)
  have bR := bR.below' hb
  have h1 := h1.below hb
  clear hb
  go_loopw [4] (fun t wr => ∃ i p A n c B m d, i ≤ k ∧ t = .int .i64 ((i : Nat) : Int) ∧ Below w.heap.size w wr ∧ Box wr w.heap.size #[.bool false, .slice none 0 0, .slice none 0 0] 26 ∧ Box wr w1.heap.size #[.bool p, .slice A n c, .slice B m d] 26 ∧ Fc wr p A n c B m d ((10 ^ i : Nat) : Rat)) (fun t _ => k - (intOf t).toNat)
  case atStart => exact ⟨0, _, _, _, _, _, _, _, by omega, rfl, hbA, bR, b3, h1⟩
  case round =>
    obtain ⟨i, p, A, n, c, B, m, d, hi, rfl, hbA, bR, b3, h1⟩ := hrel
    by_cases hlt : i < k
    · have HTi := hide (show Ht ((10 ^ i : Nat) : Rat) 3 from ht_nat (tenB (by omega)) (by omega))
      have HM := hide (show ((10 ^ i : Nat) : Rat) * 10 = ((10 ^ (i + 1) : Nat) : Rat) from by
        rw [Nat.pow_succ, Rat.natCast_mul]
        rfl)
      have KF : Hid (∀ w', Below wr.heap.size wr w' → w'.cell? ⟨w1.heap.size, 0, none⟩ = some (.bool p) ∧ w'.cell? ⟨w1.heap.size, 1, none⟩ = some (.slice A n c) ∧ w'.cell? ⟨w1.heap.size, 2, none⟩ = some (.slice B m d) ∧ w'.frozen? ⟨w1.heap.size, 0, none⟩ = false ∧ w'.frozen? ⟨w1.heap.size, 1, none⟩ = false ∧ w'.frozen? ⟨w1.heap.size, 2, none⟩ = false) := fun w' h =>
        ⟨(b3.below' h).at_ 0, (b3.below' h).at_ 1, (b3.below' h).at_ 2, (b3.below' h).frozen 0, (b3.below' h).frozen 1, (b3.below' h).frozen 2⟩
      go_wp2_with fail
      have P0 : Below wr.heap.size wr wr.drew := (Below.refl _ _).drew
      have hS := HS.out
      obtain ⟨k0, k1, k2, -⟩ := KF.out _ P0
      go_region_law (first
        | (go_simp; go_at_call 56; (with_reducible refine (gof_f 10 1 _ (by omega) (by omega) (by omega) (by omega) 10 Q2.out).mono ?_); rintro e w5 ⟨p5, A5, n5, c5, B5, m5, d5, rfl, h5, hb5⟩; have E5 := P0.trans (hb5.mono P0.size); obtain ⟨x0, x1, x2, -⟩ := KF.out _ E5)
        | (go_simp; go_at_call 84; (with_reducible refine (gmul_f (L := 3) (Fc.fr (h1.below E5) HTi.out) (h5.fr H10.out) (by omega) (by omega) _ HM.out).mono ?_); rintro e w6 ⟨p6, A6, n6, c6, B6, m6, d6, rfl, h6, hb6⟩; have E6 := E5.trans (hb6.mono E5.size); obtain ⟨y0, y1, y2, e0, e1, e2⟩ := KF.out _ E6))
      all_goals
        clear x0 x1 x2 y0 y1 y2 e0 e1 e2 k0 k1 k2
        have bR := bR.below' E6
        have b3 := b3.below' E6
        have hbA := hbA.trans (E6.mono hbA.size)
        clear E6 E5 P0 KF h1 h5 hb5 hb6
        generalize hW3 : ((w6.setCell _ _).setCell _ _).setCell _ _ = W3
        obtain ⟨b3, -, C3, B3, X3⟩ := put3 b3 hW3
        have bR := X3 _ _ _ (by omega) bR
        have h6 : Fc W3 p6 A6 n6 c6 B6 m6 d6 ((10 ^ (i + 1) : Nat) : Rat) := ⟨h6.1, C3 _ _ _ _ h6.2.1, C3 _ _ _ _ h6.2.2⟩
        have hbA := B3 _ _ hbA (by omega)
        clear hW3 C3 B3 X3
        go_wp2
        go_roundw
        case measure => simp [intOf]; omega
        case rel => exact ⟨i + 1, p6, A6, n6, c6, B6, m6, d6, by omega, by go_num, hbA, bR, b3, h6⟩
    · obtain rfl : i = k := by omega
      rw [HR.out] at h1
      have hS := HS.out
      have k0 : wr.cell? ⟨w1.heap.size, 0, none⟩ = some (.bool p) := b3.at_ 0
      have k1 : wr.cell? ⟨w1.heap.size, 1, none⟩ = some (.slice A n c) := b3.at_ 1
      have k2 : wr.cell? ⟨w1.heap.size, 2, none⟩ = some (.slice B m d) := b3.at_ 2
      have g0 : wr.cell? ⟨w.heap.size, 0, none⟩ = some (.bool false) := bR.at_ 0
      have g1 : wr.cell? ⟨w.heap.size, 1, none⟩ = some (.slice none 0 0) := bR.at_ 1
      have g2 : wr.cell? ⟨w.heap.size, 2, none⟩ = some (.slice none 0 0) := bR.at_ 2
      have f0 := bR.frozen 0
      have f1 := bR.frozen 1
      have f2 := bR.frozen 2
      go_wp2_with fail
      clear g0 g1 g2 f0 f1 f2 k0 k1 k2
      generalize hW3 : ((wr.setCell _ _).setCell _ _).setCell _ _ = W3
      obtain ⟨b3, -, C3, B3, -⟩ := put3 bR hW3
      clear hW3
      have k0 : W3.cell? ⟨w.heap.size, 0, none⟩ = some (.bool p) := b3.at_ 0
      have k1 : W3.cell? ⟨w.heap.size, 1, none⟩ = some (.slice A n c) := b3.at_ 1
      have k2 : W3.cell? ⟨w.heap.size, 2, none⟩ = some (.slice B m d) := b3.at_ 2
      refine bodyPost_ret (v := .agg #[.bool p, .slice A n c, .slice B m d]) (by simp [results, Tryz.results55, go_sem, k0, k1, k2]) rfl ?_
      exact ⟨_, _, _, _, _, _, _, rfl, ⟨h1.1, C3 _ _ _ _ h1.2.1, C3 _ _ _ _ h1.2.2⟩, B3 _ _ hbA (Nat.le_refl _)⟩
end Go.Proofs.YtoeknkakdoemfaaGreatDoor

/- The contract of the reference's power (of ten), up to 200. -/
namespace Go.Proofs.YtoeknkakdoemfaaGreatDoor
open Go Go.RowKit

theorem tenC {k : Nat} (hk : k ≤ 200) : 10 ^ k < B9 ^ 24 := by
  rw [pow_B9]
  exact Nat.pow_lt_pow_right (by decide) (by omega)
set_option maxHeartbeats 2000000 in
theorem gpow2_f (k : Nat) (hk : k ≤ 200) (w : World) (r : Rat) (hr : ((10 ^ k : Nat) : Rat) = r) : Calls Tryz.prog 55 #[.int .i64 (k : Int)] w (GivesF r w) := by
  have HR := hide hr
  have Q1 := hide (show (((1 : Int) : Rat) / ((1 : Int) : Rat)) = ((10 ^ 0 : Nat) : Rat) from by decide +kernel)
  have Q2 := hide (show (((10 : Int) : Rat) / ((1 : Int) : Rat)) = 10 from by decide +kernel)
  have H10 := hide (show Ht 10 24 from by
    have : Ht ((10 : Nat) : Rat) 24 := ht_nat (by decide) (by omega)
    simpa using this)
  clear hr
  go_enter Tryz.func55, Tryz.ntmps55
  go_wp2_with fail
  generalize hW : w.alloc _ = W
  obtain ⟨hbW, bR, -⟩ := boxesA1 hW
  clear hW
  refine (gof_f 1 1 _ (by omega) (by omega) (by omega) (by omega) _ Q1.out).mono ?_
  rintro e w1 ⟨p1, A1, n1, c1, B1, m1, d1, rfl, h1, hb1⟩
  have hbA := hbW.trans (hb1.mono hbW.size)
  have bR := bR.below' hb1
  have HS := hide bR.lt
  clear hb1 hbW
  go_wp2_with fail
  generalize hW : w1.alloc _ = W1
  obtain ⟨hb, b3, -⟩ := boxesA1 hW
  clear hW
  have hbA := hbA.trans (hb.mono hbA.size)
  have bR := bR.below' hb
  have h1 := h1.below hb
  clear hb
  go_loopw [4] (fun t wr => ∃ i p A n c B m d, i ≤ k ∧ t = .int .i64 ((i : Nat) : Int) ∧ Below w.heap.size w wr ∧ Box wr w.heap.size #[.bool false, .slice none 0 0, .slice none 0 0] 26 ∧ Box wr w1.heap.size #[.bool p, .slice A n c, .slice B m d] 26 ∧ Fc wr p A n c B m d ((10 ^ i : Nat) : Rat)) (fun t _ => k - (intOf t).toNat)
  case atStart => exact ⟨0, _, _, _, _, _, _, _, by omega, rfl, hbA, bR, b3, h1⟩
  case round =>
    obtain ⟨i, p, A, n, c, B, m, d, hi, rfl, hbA, bR, b3, h1⟩ := hrel
    by_cases hlt : i < k
    · have HTi := hide (show Ht ((10 ^ i : Nat) : Rat) 24 from ht_nat (tenC (by omega)) (by omega))
      have HM := hide (show ((10 ^ i : Nat) : Rat) * 10 = ((10 ^ (i + 1) : Nat) : Rat) from by
        rw [Nat.pow_succ, Rat.natCast_mul]
        rfl)
      have KF : Hid (∀ w', Below wr.heap.size wr w' → w'.cell? ⟨w1.heap.size, 0, none⟩ = some (.bool p) ∧ w'.cell? ⟨w1.heap.size, 1, none⟩ = some (.slice A n c) ∧ w'.cell? ⟨w1.heap.size, 2, none⟩ = some (.slice B m d) ∧ w'.frozen? ⟨w1.heap.size, 0, none⟩ = false ∧ w'.frozen? ⟨w1.heap.size, 1, none⟩ = false ∧ w'.frozen? ⟨w1.heap.size, 2, none⟩ = false) := fun w' h =>
        ⟨(b3.below' h).at_ 0, (b3.below' h).at_ 1, (b3.below' h).at_ 2, (b3.below' h).frozen 0, (b3.below' h).frozen 1, (b3.below' h).frozen 2⟩
      go_wp2_with fail
      have P0 : Below wr.heap.size wr wr.drew := (Below.refl _ _).drew
      have hS := HS.out
      obtain ⟨k0, k1, k2, -⟩ := KF.out _ P0
      go_region_law (first
        | (go_simp; go_at_call 56; (with_reducible refine (gof_f 10 1 _ (by omega) (by omega) (by omega) (by omega) 10 Q2.out).mono ?_); rintro e w5 ⟨p5, A5, n5, c5, B5, m5, d5, rfl, h5, hb5⟩; have E5 := P0.trans (hb5.mono P0.size); obtain ⟨x0, x1, x2, -⟩ := KF.out _ E5)
        | (go_simp; go_at_call 84; (with_reducible refine (gmul_f (L := 24) (Fc.fr (h1.below E5) HTi.out) (h5.fr H10.out) (by omega) (by omega) _ HM.out).mono ?_); rintro e w6 ⟨p6, A6, n6, c6, B6, m6, d6, rfl, h6, hb6⟩; have E6 := E5.trans (hb6.mono E5.size); obtain ⟨y0, y1, y2, e0, e1, e2⟩ := KF.out _ E6))
      all_goals
        clear x0 x1 x2 y0 y1 y2 e0 e1 e2 k0 k1 k2
        have bR := bR.below' E6
        have b3 := b3.below' E6
        have hbA := hbA.trans (E6.mono hbA.size)
        clear E6 E5 P0 KF h1 h5 hb5 hb6
        generalize hW3 : ((w6.setCell _ _).setCell _ _).setCell _ _ = W3
        obtain ⟨b3, -, C3, B3, X3⟩ := put3 b3 hW3
        have bR := X3 _ _ _ (by omega) bR
        have h6 : Fc W3 p6 A6 n6 c6 B6 m6 d6 ((10 ^ (i + 1) : Nat) : Rat) := ⟨h6.1, C3 _ _ _ _ h6.2.1, C3 _ _ _ _ h6.2.2⟩
        have hbA := B3 _ _ hbA (by omega)
        clear hW3 C3 B3 X3
        go_wp2
        go_roundw
        case measure => simp [intOf]; omega
        case rel => exact ⟨i + 1, p6, A6, n6, c6, B6, m6, d6, by omega, by go_num, hbA, bR, b3, h6⟩
    · obtain rfl : i = k := by omega
      rw [HR.out] at h1
      have hS := HS.out
      have k0 : wr.cell? ⟨w1.heap.size, 0, none⟩ = some (.bool p) := b3.at_ 0
      have k1 : wr.cell? ⟨w1.heap.size, 1, none⟩ = some (.slice A n c) := b3.at_ 1
      have k2 : wr.cell? ⟨w1.heap.size, 2, none⟩ = some (.slice B m d) := b3.at_ 2
      have g0 : wr.cell? ⟨w.heap.size, 0, none⟩ = some (.bool false) := bR.at_ 0
      have g1 : wr.cell? ⟨w.heap.size, 1, none⟩ = some (.slice none 0 0) := bR.at_ 1
      have g2 : wr.cell? ⟨w.heap.size, 2, none⟩ = some (.slice none 0 0) := bR.at_ 2
      have f0 := bR.frozen 0
      have f1 := bR.frozen 1
      have f2 := bR.frozen 2
      go_wp2_with fail
      clear g0 g1 g2 f0 f1 f2 k0 k1 k2
      generalize hW3 : ((wr.setCell _ _).setCell _ _).setCell _ _ = W3
      obtain ⟨b3, -, C3, B3, -⟩ := put3 bR hW3
      clear hW3
      have k0 : W3.cell? ⟨w.heap.size, 0, none⟩ = some (.bool p) := b3.at_ 0
      have k1 : W3.cell? ⟨w.heap.size, 1, none⟩ = some (.slice A n c) := b3.at_ 1
      have k2 : W3.cell? ⟨w.heap.size, 2, none⟩ = some (.slice B m d) := b3.at_ 2
      refine bodyPost_ret (v := .agg #[.bool p, .slice A n c, .slice B m d]) (by simp [results, Tryz.results55, go_sem, k0, k1, k2]) rfl ?_
      exact ⟨_, _, _, _, _, _, _, rfl, ⟨h1.1, C3 _ _ _ _ h1.2.1, C3 _ _ _ _ h1.2.2⟩, B3 _ _ hbA (Nat.le_refl _)⟩
end Go.Proofs.YtoeknkakdoemfaaGreatDoor

/- readDigits: the contract. -/
namespace Go.Proofs.YtoeknkakdoemfaaGreatDoor
open Go Go.RowKit

/-- a natural of a value, and a Bool -/
def GivesNB (u : Nat) (b : Bool) (w : World) (e : Ending) (w' : World) : Prop :=
  ∃ A n c, e = .returned (.tuple #[.agg #[.slice A n c], .bool b]) ∧ Cn w' A n c u ∧ Below w.heap.size w w'
def sigL (l : List UInt8) : List UInt8 := l.dropWhile (· == 48)
theorem sig_decV : ∀ l : List UInt8, decV (NB (sigL l)) = decV (NB l)
  | [] => rfl
  | c :: l => by
    unfold sigL
    rw [List.dropWhile_cons]
    split
    · rename_i h
      rw [beq_iff_eq] at h
      subst h
      have ih := sig_decV l
      unfold sigL at ih
      rw [ih]
      simp [NB, decV]
    · rfl
theorem sig_dig : ∀ l : List UInt8, AllDig (NB (sigL l)) ↔ AllDig (NB l)
  | [] => Iff.rfl
  | c :: l => by
    unfold sigL
    rw [List.dropWhile_cons]
    split
    · rename_i h
      rw [beq_iff_eq] at h
      subst h
      have ih := sig_dig l
      unfold sigL at ih
      rw [ih]
      constructor
      · intro h x hx
        simp only [NB, List.map_cons, List.mem_cons] at hx
        rcases hx with rfl | hx
        · decide
        · exact h x hx
      · intro h x hx
        exact h x (by simp only [NB, List.map_cons, List.mem_cons]; exact Or.inr hx)
    · exact Iff.rfl
theorem sig_head : ∀ l : List UInt8, (sigL l).head? ≠ some 48
  | [] => by simp [sigL]
  | c :: l => by
    unfold sigL
    rw [List.dropWhile_cons]
    split
    · exact sig_head l
    · rename_i h
      simp only [List.head?_cons, ne_eq, Option.some.injEq]
      intro e
      exact h (by rw [beq_iff_eq]; exact e)
theorem sig_isT {l : List UInt8} (h0 : sigL l ≠ []) : IsT (NB (sigL l)) ↔ AllDig (NB l) := by
  rw [← sig_dig l]
  constructor
  · exact fun h => h.1
  · intro h
    refine ⟨h, .inr ?_⟩
    rcases hs : sigL l with _ | ⟨c, r⟩
    · exact absurd hs h0
    · refine ⟨c.toNat, NB r, rfl, fun e => ?_⟩
      have := sig_head l
      rw [hs] at this
      exact this (by rw [List.head?_cons]; congr 1; exact UInt8.toNat_inj.1 e)
theorem sig_nil {l : List UInt8} (h : sigL l = []) : AllDig (NB l) ∧ decV (NB l) = 0 := by
  constructor
  · rw [← sig_dig, h]
    intro x hx
    simp [NB] at hx
  · rw [← sig_decV, h]
    rfl
theorem sig_len (l : List UInt8) : (sigL l).length ≤ l.length := (List.dropWhile_sublist _).length_le

set_option maxHeartbeats 2000000 in
set_option maxRecDepth 100000 in
theorem rd_e (s : ByteArray) (w : World) (h : sigL s.data.toList = []) (b : Bool) (hb : (!s.toList.isEmpty) = b) : Calls Tryz.prog 49 #[.string s] w (GivesNB 0 b w) := by
  have C1 : Hid (∀ W : World, Calls Tryz.prog 81 #[.string s, .string ⟨#[48]⟩] W fun e w' => e = .returned (.string ⟨#[]⟩) ∧ W = w') := fun W => by
    refine Calls.mono (Tryz.strings_TrimLeft_one s 48 (by decide) W) ?_
    rintro e w' ⟨rfl, rfl⟩
    exact ⟨by rw [show Lib.trimLeftB s.data.toList 48 = [] from h], rfl⟩
  have HB := hide hb
  clear h hb
  go_enter Tryz.func49, Tryz.ntmps49
  go_wp2_with fail
  generalize hW : w.alloc _ = W
  obtain ⟨B, bR, -⟩ := boxesA1 hW
  clear hW
  refine (C1.out _).mono ?_
  rintro e w1 ⟨rfl, rfl⟩
  have g0 := bR.cell
  have f0 := bR.frozen 0
  have gz := bR.lt
  go_wp2_with fail
  have r3 : Cn (W.setCell ⟨w.heap.size, 0, none⟩ (.slice none 0 0)) none 0 0 0 := ⟨RL.nil_, by omega, by simp [maxLen]⟩
  have b3 := bR.put (.slice none 0 0)
  have B := B.setCell (Nat.le_refl _) (p := ⟨w.heap.size, 0, none⟩) (.slice none 0 0)
  clear g0 f0 gz
  generalize W.setCell (⟨w.heap.size, 0, none⟩ : Addr) (.slice none 0 0) = W3 at *
  have k0 := b3.cell
  refine bodyPost_ret (v := .tuple #[.agg #[.slice none 0 0], .bool b]) (by simp [results, Tryz.results49, go_sem, k0, HB.out]) rfl ?_
  exact ⟨none, 0, 0, rfl, r3, B⟩
set_option maxHeartbeats 2000000 in
set_option maxRecDepth 100000 in
theorem rd_v (s D : ByteArray) (w : World) (hD : mkS (sigL s.data.toList) = D) (h0 : sigL s.data.toList ≠ []) (V : Nat) (er : Int) (b : Bool) (hb : (er == 0) = b)
    (p1 : ∀ W : World, Calls Tryz.prog 34 #[.string D] W (GivesNE V er W)) : Calls Tryz.prog 49 #[.string s] w (GivesNB V b w) := by
  have C1 : Hid (∀ W : World, Calls Tryz.prog 81 #[.string s, .string ⟨#[48]⟩] W fun e w' => e = .returned (.string D) ∧ W = w') := fun W => by
    refine Calls.mono (Tryz.strings_TrimLeft_one s 48 (by decide) W) ?_
    rintro e w' ⟨rfl, rfl⟩
    exact ⟨by rw [← hD]; rfl, rfl⟩
  have e1 : ¬ D.toList = [] := by rw [← hD, Lib.toList_data, mkS_list]; exact h0
  have e2 : D.toList.isEmpty = false := by simpa using e1
  have P1 := hide p1
  clear hD h0 p1
  go_enter Tryz.func49, Tryz.ntmps49
  go_wp2_with fail
  generalize hW : w.alloc _ = W
  obtain ⟨B, bR, -⟩ := boxesA1 hW
  clear hW
  refine (C1.out _).mono ?_
  rintro e w1 ⟨rfl, rfl⟩
  go_wp2_with fail
  refine (P1.out _).mono ?_
  rintro e w3 hg
  obtain ⟨A3, n3, c3, rfl, a3, hb3⟩ := hg.cn
  have bR := bR.below' hb3
  have B := B.trans (hb3.mono B.size)
  clear hb3 hg
  have g0 := bR.cell
  have f0 := bR.frozen 0
  have gz := bR.lt
  go_wp2_with fail
  have r3 := a3.far (i := 0) bR noInt1 (.slice A3 n3 c3)
  have b3 := bR.put (.slice A3 n3 c3)
  have B := B.setCell (Nat.le_refl _) (p := ⟨w.heap.size, 0, none⟩) (.slice A3 n3 c3)
  clear g0 f0 gz
  generalize w3.setCell (⟨w.heap.size, 0, none⟩ : Addr) (.slice A3 n3 c3) = W3 at *
  generalize hW : W3.alloc _ = W4
  obtain ⟨hb4, -, -⟩ := boxesA1 hW
  clear hW
  have k0 := (b3.below' hb4).cell
  refine bodyPost_ret (v := .tuple #[.agg #[.slice A3 n3 c3], .bool b]) (by simp [results, Tryz.results49, go_sem, k0]) rfl ?_
  exact ⟨A3, n3, c3, rfl, r3.below hb4, B.trans (hb4.mono B.size)⟩
theorem posB (L : Nat) : 0 < B9 ^ L := Nat.pow_pos (by decide)
/-- the digits behind the point: their value, and whether they are digits, one at least -/
theorem rd_any (s : ByteArray) (hs : s.size ≤ 4000) : ∃ (V : Nat) (b : Bool), (AllDig (NB s.data.toList) → V = decV (NB s.data.toList)) ∧ (b = true ↔ AllDig (NB s.data.toList) ∧ s.data.toList ≠ []) ∧ V < B9 ^ 445 ∧
    ∀ w : World, Calls Tryz.prog 49 #[.string s] w (GivesNB V b w) := by
  by_cases h : sigL s.data.toList = []
  · have h1 := sig_nil h
    refine ⟨0, !s.toList.isEmpty, fun _ => h1.2.symm, ?_, posB 445, fun w => rd_e s w h _ rfl⟩
    rw [Lib.toList_data]
    simp [h1.1]
  · have hn : s.data.toList ≠ [] := fun e => h (by rw [e]; rfl)
    have hl : (sigL s.data.toList).length ≤ 4000 := Nat.le_trans (sig_len _) (by rw [← size_list]; exact hs)
    have hz := mkS_size (sigL s.data.toList)
    have hm := mkS_list (sigL s.data.toList)
    by_cases hd : AllDig (NB s.data.toList)
    · have ht := (sig_isT h).2 hd
      refine ⟨decV (NB s.data.toList), true, fun _ => rfl, ⟨fun _ => ⟨hd, hn⟩, fun _ => rfl⟩, ?_, fun w => rd_v s _ w rfl h _ 0 true rfl fun W => np_yes _ W (by omega) (by rw [hm]; exact ht) _ (by rw [hm, sig_decV])⟩
      rw [← sig_decV]
      exact decV_size (L := 445) ht (Nat.le_trans hl (by decide))
    · refine ⟨0, false, fun e => absurd e hd, ⟨fun e => by (cases e), fun e => absurd e.1 hd⟩, posB 445, fun w => rd_v s _ w rfl h _ 3 false rfl fun W => np_no _ W (by omega) (by rw [hm]; exact fun e => hd ((sig_isT h).1 e))⟩
end Go.Proofs.YtoeknkakdoemfaaGreatDoor
