/- The reference's Union. -/
import Derived.Test.YtaapcfflnklpjaaGreatDoorSRs
import Derived.Test.YtaapcfflnklpjaaGreatDoorSRg
import Derived.Test.YtaapcfflnklpjaaGreatDoorSW
import Derived.Test.YtaapcfflnklpjaaGreatDoorSP
import Derived.Deep.QuietTactic
import Derived.BigQuiet
import Derived.WalkSmall
namespace Go.Proofs.YtaapcfflnklpjaaGreatDoor
open Go Go.RowKit Go.Lib
attribute [local go_sem] run_equalIn_agg run_equalIn_int
theorem chk_both {a b : List Spc} (ha : chk a = 0) (hb : chk b = 0) (hc : ¬Conf a b) : chk (both a b) = uE a b := by
  by_cases hl : 64 < (both a b).length
  · rw [chk_full hl]
    unfold uE
    rw [if_pos ha, if_pos hb, if_neg hc, if_pos hl]
  · have e : uE a b = 0 := uE_ok.2 ⟨ha, hb, hc, by omega⟩
    rw [e, chk_ok]
    refine ⟨by omega, fun x hx => ?_, ?_⟩
    · rcases mem_both.1 hx with h | h
      · exact (chk_ok.1 ha).2.1 x h
      · exact (chk_ok.1 hb).2.1 x h
    · exact both_nod (chk_ok.1 ha).2.2 (chk_ok.1 hb).2.2 hc
theorem conf_hit {a b : List Spc} {y x : Spc} (hy : y ∈ b) (hf : findS a y.i = some x) (hne : x ≠ y) : Conf a b := ⟨x, (find_some hf).1, y, hy, (find_some hf).2, hne⟩
theorem uE_conf {a b : List Spc} (ha : chk a = 0) (hb : chk b = 0) (h : Conf a b) : uE a b = 10 := by
  unfold uE
  rw [if_pos ha, if_pos hb, if_pos h]
set_option maxHeartbeats 4000000 in
theorem runion_a (A : Option Addr) (n c : Nat) (a : List Spc) (A' : Option Addr) (m d : Nat) (b : List Spc) (w : World) (hx : SL w A n a) (h : chk a ≠ 0) :
    Calls Tryz.prog 31 #[.slice A n c, .slice A' m d] w (GivesU9 a b w) := by
  have HX := hide hx
  have HE := hide (uE_a (b := b) h)
  have HH := hide h
  have hl : chk a = 6 ∨ chk a = 1 ∨ chk a = 8 := by rcases chk_cases a with h' | h'; exact absurd h' h; exact h'
  obtain ⟨r, hrr⟩ : ∃ r, chk a = r := ⟨_, rfl⟩
  rw [hrr] at hl
  have H := hide hrr
  clear hx h hrr
  rcases hl with rfl | rfl | rfl
  all_goals
    go_enter Tryz.func31, Tryz.ntmps31
    go_wp2_with fail
    refine (rcheck_any A n c a _ HX.out _ H.out).mono ?_
    rintro e w1 ⟨rfl, hb⟩
    go_wp2_with fail
    go_ret2
    exact ⟨none, 0, 0, [], by rw [HE.out, H.out]; rfl, SL.nil_ _ _, ⟨rfl, fun h => absurd (HE.out.symm.trans h) HH.out, fun _ => rfl⟩, hb⟩
set_option maxHeartbeats 4000000 in
theorem runion_b (A : Option Addr) (n c : Nat) (a : List Spc) (A' : Option Addr) (m d : Nat) (b : List Spc) (w : World) (hx : SL w A n a) (hy : SL w A' m b) (ha : chk a = 0) (h : chk b ≠ 0) :
    Calls Tryz.prog 31 #[.slice A n c, .slice A' m d] w (GivesU9 a b w) := by
  have HX := hide hx
  have HY := hide hy
  have HA := hide ha
  have HE := hide (uE_b ha h)
  have HH := hide h
  have hl : chk b = 6 ∨ chk b = 1 ∨ chk b = 8 := by rcases chk_cases b with h' | h'; exact absurd h' h; exact h'
  obtain ⟨r, hrr⟩ : ∃ r, chk b = r := ⟨_, rfl⟩
  rw [hrr] at hl
  have H := hide hrr
  clear hx hy ha h hrr
  rcases hl with rfl | rfl | rfl
  all_goals
    go_enter Tryz.func31, Tryz.ntmps31
    go_wp2_with fail
    refine (rcheck_any A n c a _ HX.out _ HA.out).mono ?_
    rintro e w1 ⟨rfl, hb1⟩
    go_wp2_with fail
    refine (rcheck_any A' m d b _ (HY.out.keep hb1) _ H.out).mono ?_
    rintro e w2 ⟨rfl, hb2⟩
    go_wp2_with fail
    go_ret2
    exact ⟨none, 0, 0, [], by rw [HE.out, H.out]; rfl, SL.nil_ _ _, ⟨rfl, fun h => absurd (HE.out.symm.trans h) HH.out, fun _ => rfl⟩, nxt hb1 hb2⟩
set_option maxHeartbeats 8000000 in
set_option maxRecDepth 100000 in
theorem runion_ok (A : Option Addr) (n c : Nat) (xa : List Spc) (A' : Option Addr) (m d : Nat) (xb : List Spc) (w : World) (hx : SL w A n xa) (hy : SL w A' m xb) (ha : chk xa = 0) (hb : chk xb = 0) :
    Calls Tryz.prog 31 #[.slice A n c, .slice A' m d] w (GivesU9 xa xb w) := by
  have HX := hide hx
  have HY := hide hy
  have HA := hide ha
  have HB := hide hb
  have hn : n ≤ 64 := by rw [← hx.1]; exact (chk_ok.1 ha).1
  have hm : m ≤ 64 := by rw [← hy.1]; exact (chk_ok.1 hb).1
  clear hx hy ha hb
  go_enter Tryz.func31, Tryz.ntmps31
  go_wp2_with fail
  refine (rcheck_any A n c xa _ HX.out 0 HA.out).mono ?_
  rintro e w1 ⟨rfl, hb1⟩
  go_wp2_with fail
  refine (rcheck_any A' m d xb _ (HY.out.keep hb1) 0 HB.out).mono ?_
  rintro e w2 ⟨rfl, hb2⟩
  have HB2 := hide (nxt hb1 hb2)
  clear hb1 hb2
  go_wp2_with (at_builtin; refine wpList_app_s _ rfl _ _ rfl w2.heap.size _ [] rfl (OwnS.empty_ w2 (Nat.le_refl _)) A n c xa rfl (HX.out.keep (HB2.out.alloc HB2.out.size _)) (by simp; omega) (by simp) ?_; intro v3 w3 hrow3 hbel3; rw [List.nil_append] at hrow3; obtain ⟨A3, c3, rfl, -, -⟩ := hrow3.form; obtain ⟨q3, hq3⟩ : ∃ q, xa.length = q := ⟨_, rfl⟩; rw [hq3] at hrow3 ⊢; have HQ3 := hide hq3; have HR3 := hide hrow3; clear hq3; have HB3 := hide (((Below.refl w2.heap.size w2).alloc (Nat.le_refl _) (.cells #[] 23)).trans hbel3); clear hrow3 hbel3)
  go_loopw [8, 9] (fun v a wr => ∃ (k : Nat) (Ao : Option Addr) (q co : Nat), v = .slice Ao q co ∧ a = .int .i64 (k : Int) ∧ k ≤ m ∧ Hid ((both xa (xb.take k)).length = q) ∧ Hid (OwnS wr w2.heap.size (.slice Ao q co) (both xa (xb.take k))) ∧ Hid (¬Conf xa (xb.take k)) ∧ Hid (Below w2.heap.size w2 wr)) (fun _ a _ => m - (RowKit.intOf a).toNat)
  case atStart =>
    refine ⟨0, A3, q3, c3, rfl, rfl, Nat.zero_le _, hide ?_, hide ?_, hide ?_, HB3⟩
    · rw [List.take_zero, show both xa [] = xa from List.append_nil _]
      exact HQ3.out
    · rw [List.take_zero, show both xa [] = xa from List.append_nil _]
      exact HR3.out
    · rintro ⟨p, hp, q, hq, _⟩
      simp at hq
  case round =>
    clear HR3 HB3 HQ3
    obtain ⟨k, Ao, q, co, rfl, rfl, hk, HQ, HO, HC, HBR⟩ := hrel
    by_cases hlt : k < m
    · obtain ⟨b, o, y, rfl, hl, hy, k0, k1, k2, k3, k4, k5, k6⟩ := (HY.out.keep (nxt HB2.out HBR.out)).at_ hlt
      have HYY := hide hy
      have HST := hide (show xb.take (k + 1) = xb.take k ++ [y] by rw [List.take_add_one, hy]; rfl)
      have d1 : decide ((k : Int) < (m : Int)) = true := decide_eq_true (by omega)
      have i2 : (0 : Int) ≤ (k : Int) := by omega
      have i3 : (k : Int) < (m : Int) := by omega
      have HKB := hide (fun (w' : World) (h : Below wr.heap.size wr w') => (HY.out.keep (nxt HB2.out (nxt HBR.out h))).cells_ HYY.out)
      have HYM := hide (show y ∈ xb from List.mem_of_getElem? hy)
      have HLE := hide (show q ≤ 128 by
        rw [← HQ.out]
        unfold both
        rw [List.length_append]
        have h1 := List.length_filter_le (fun y => !decide (y ∈ xa)) (xb.take k)
        rw [List.length_take] at h1
        have := HX.out.1
        omega)
      obtain ⟨x, ok, hf⟩ := FR.ex xa y.i
      have HF := hide hf
      clear hy hl hf
      go_wp2_with fail
      clear k0 k1 k2 k3 k4 k5 k6
      refine (rfind_any A n c xa y.i _ (HX.out.keep (nxt HB2.out HBR.out)) (by omega) x ok HF.out).mono ?_
      rintro e w4 ⟨rfl, hb4⟩
      rcases HF.out with ⟨hn0, rfl, rfl⟩ | ⟨hs0, rfl⟩
      · have HN0 := hide hn0
        clear hn0
        go_wp2_with fail
        generalize hW : w4.alloc _ = W
        have HBW := hide (show Below wr.heap.size wr W by rw [← hW]; exact nxt hb4 ((Below.refl _ _).alloc (Nat.le_refl _) _))
        clear hW hb4
        go_quiet (fail)
        have HBV := hide (nxt HBW.out (below_drewN (Below.refl W.heap.size W) nq))
        clear HBW
        generalize W.drewN nq = V at *
        obtain ⟨k0, k1, k2, k3, k4, k5, k6⟩ := HKB.out _ HBV.out
        have HWV := hide (nxt HBR.out HBV.out)
        go_wp2_with (at_builtin; refine wpList_app_s _ rfl _ _ rfl w2.heap.size _ (both xa (xb.take k)) rfl (OwnS.keep HO.out (nxt HBV.out ((Below.refl _ _).alloc (Nat.le_refl _) _))) _ 1 _ [y] rfl (sl_box (X := y) (Box.new _ _ _)) (by rw [HQ.out]; have := HLE.out; omega) (by have := HWV.out.size; simp; omega) ?_; intro v5 w5 hrow5 hbel5; obtain ⟨A5, c5, rfl, -, -⟩ := hrow5.form; rw [show (both xa (xb.take k) ++ [y]).length = q + 1 by rw [List.length_append, HQ.out]; rfl] at hrow5 ⊢; have HR5 := hide hrow5; have HB5 := hide (((HWV.out).alloc (HWV.out).size (.cells #[.int .i64 y.i, .int .i64 y.o, .int .i64 y.r, .int .i64 y.a, .int .i64 y.b, .int .i64 y.h, .int .i64 y.m] 23)).trans hbel5); clear hrow5 hbel5)
        go_roundw
        case rel =>
          refine ⟨k + 1, A5, q + 1, c5, rfl, by go_num, by omega, hide ?_, hide ?_, hide ?_, HB5⟩
          · rw [HST.out, both_step.1 HN0.out, List.length_append, HQ.out]; rfl
          · rw [HST.out, both_step.1 HN0.out]; exact HR5.out
          · rw [HST.out]; exact conf_step HC.out (.inl HN0.out) (chk_ok.1 HA.out).2.2
        case measure => simp [RowKit.intOf]; omega
      · have HS0 := hide hs0
        clear hs0
        by_cases he : x = y
        · have e0 := fun (w : World) => eqS_run x y w true (decide_eq_true he)
          have HE := hide he
          clear he
          go_wp2_with fail
          generalize hW : w4.alloc _ = W
          obtain ⟨B, hz, hkk⟩ := box7 hW
          have HBW := hide (nxt hb4 B)
          obtain ⟨m0, m1, m2, m3, m4, m5, m6⟩ := hkk _ (Below.refl _ _)
          clear hW hb4 B hz hkk
          obtain ⟨k0, k1, k2, k3, k4, k5, k6⟩ := HKB.out _ HBW.out
          go_quiet (fail)
          go_wp2_with fail
          go_roundw
          case rel =>
            refine ⟨k + 1, Ao, q, co, rfl, by go_num, by omega, hide ?_, hide ?_, hide ?_, hide (below_drewN (nxt HBR.out HBW.out) _)⟩
            · rw [HST.out, both_step.2 x HS0.out HE.out]; exact HQ.out
            · rw [HST.out, both_step.2 x HS0.out HE.out]; exact OwnS.keep HO.out (below_drewN HBW.out _)
            · rw [HST.out]; exact conf_step HC.out (.inr (HE.out ▸ HS0.out)) (chk_ok.1 HA.out).2.2
          case measure => simp [RowKit.intOf]; omega
        · have e0 := fun (w : World) => eqS_run x y w false (decide_eq_false he)
          have HE := hide (uE_conf HA.out HB.out (conf_hit HYM.out HS0.out he))
          clear he
          go_wp2_with fail
          generalize hW : w4.alloc _ = W
          obtain ⟨B, hz, hkk⟩ := box7 hW
          have HBW := hide (nxt hb4 B)
          obtain ⟨m0, m1, m2, m3, m4, m5, m6⟩ := hkk _ (Below.refl _ _)
          clear hW hb4 B hz hkk
          obtain ⟨k0, k1, k2, k3, k4, k5, k6⟩ := HKB.out _ HBW.out
          go_quiet (fail)
          go_wp2_with fail
          go_ret2
          exact ⟨none, 0, 0, [], by rw [HE.out]; rfl, SL.nil_ _ _, ⟨rfl, fun h => absurd (HE.out.symm.trans h) (by decide), fun _ => rfl⟩, nxt HB2.out (below_drewN (nxt HBR.out HBW.out) _)⟩
    · obtain rfl : k = m := by omega
      have d1 : decide ((k : Int) < (k : Int)) = false := decide_eq_false (by omega)
      have hxb : xb.take k = xb := List.take_of_length_le (by rw [HY.out.1]; exact Nat.le_refl _)
      have hO := HO.out
      have hC := HC.out
      rw [hxb] at hO hC
      have HSL := hide (OwnS.sl_any hO)
      have HCB := hide (chk_both HA.out HB.out hC)
      clear hxb hO hC
      go_wp2_with fail
      refine (rsort_any Ao q co (both xa xb) _ HSL.out).mono ?_
      rintro e w5 ⟨A5, n5, d5, zs, rfl, hs5, h1, h2, hb5⟩
      rw [HCB.out] at h1 h2 ⊢
      go_wp2_with fail
      go_ret2
      exact ⟨A5, n5, d5, zs, rfl, hs5, ⟨rfl, h1, h2⟩, nxt HB2.out (nxt HBR.out hb5)⟩
theorem runion_any (A : Option Addr) (n c : Nat) (a : List Spc) (A' : Option Addr) (m d : Nat) (b : List Spc) (w : World) (hx : SL w A n a) (hy : SL w A' m b) :
    Calls Tryz.prog 31 #[.slice A n c, .slice A' m d] w (GivesU9 a b w) := by
  by_cases ha : chk a = 0
  · by_cases hb : chk b = 0
    · exact runion_ok A n c a A' m d b w hx hy ha hb
    · exact runion_b A n c a A' m d b w hx hy ha hb
  · exact runion_a A n c a A' m d b w hx ha
end Go.Proofs.YtaapcfflnklpjaaGreatDoor
