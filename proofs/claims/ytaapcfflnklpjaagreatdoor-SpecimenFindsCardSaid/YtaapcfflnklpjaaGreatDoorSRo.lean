/- The reference's Of. -/
import Derived.Test.YtaapcfflnklpjaaGreatDoorSRs
import Derived.Test.YtaapcfflnklpjaaGreatDoorSK
import Derived.Test.YtaapcfflnklpjaaGreatDoorSB
import Derived.Deep.QuietTactic
import Derived.BigQuiet
import Derived.WalkSmall
namespace Go.Proofs.YtaapcfflnklpjaaGreatDoor
open Go Go.RowKit Go.Lib
set_option maxHeartbeats 2000000 in
theorem rof_err (A : Option Addr) (n c : Nat) (ys : List Spc) (s d : Int) (w : World) (hr : SL w A n ys) (h : chk ys ≠ 0) :
    Calls Tryz.prog 26 #[.slice A n c, .agg #[.int .i64 s, .int .i64 d]] w (GivesOf ys s d w) := by
  have HR := hide hr
  have HH := hide h
  have hl : chk ys = 6 ∨ chk ys = 1 ∨ chk ys = 8 := by rcases chk_cases ys with h' | h'; exact absurd h' h; exact h'
  obtain ⟨r, hrr⟩ : ∃ r, chk ys = r := ⟨_, rfl⟩
  rw [hrr] at hl
  have H := hide hrr
  clear hr h hrr
  rcases hl with rfl | rfl | rfl
  all_goals
    go_enter Tryz.func26, Tryz.ntmps26
    go_wp2_with fail
    generalize hW : w.alloc _ = W
    obtain ⟨B, b0⟩ := boxDie hW
    clear hW
    refine (rsort_any A n c ys _ (HR.out.keep B)).mono ?_
    rintro e w1 ⟨A1, n1, d1, zs, rfl, hs, h1, h2, hb⟩
    rw [H.out]
    go_wp2_with fail
    go_ret2
    exact ⟨none, 0, 0, [], by rw [if_neg HH.out, H.out]; rfl, IS.nil_ _ _, fun h => absurd h.1 HH.out, fun _ => rfl, nxt B hb⟩
set_option maxHeartbeats 2000000 in
theorem rof_bad (A : Option Addr) (n c : Nat) (ys : List Spc) (s d : Int) (w : World) (hr : SL w A n ys) (h : chk ys = 0) (hd : dB s d = false) :
    Calls Tryz.prog 26 #[.slice A n c, .agg #[.int .i64 s, .int .i64 d]] w (GivesOf ys s d w) := by
  have HR := hide hr
  have H := hide h
  have HD := hide hd
  clear hr h hd
  go_enter Tryz.func26, Tryz.ntmps26
  go_wp2_with fail
  generalize hW : w.alloc _ = W
  obtain ⟨B, b0⟩ := boxDie hW
  clear hW
  refine (rsort_any A n c ys _ (HR.out.keep B)).mono ?_
  rintro e w1 ⟨A1, n1, d1, zs, rfl, hs, h1, h2, hb⟩
  rw [H.out]
  replace b0 := b0.below' hb
  have k0 := b0.at_ 0
  have k1 := b0.at_ 1
  simp at k0 k1
  have l0 := b0.lt
  go_wp2_with fail
  refine (rdie_any s d _ false HD.out).mono ?_
  rintro e w2 ⟨rfl, hb2⟩
  go_wp2_with fail
  go_ret2
  exact ⟨none, 0, 0, [], by rw [if_pos H.out, HD.out]; rfl, IS.nil_ _ _, fun h => absurd (HD.out.symm.trans h.2) (by decide), fun _ => rfl, nxt B (nxt hb hb2)⟩
set_option maxHeartbeats 8000000 in
set_option maxRecDepth 100000 in
theorem rof_ok (A : Option Addr) (n c : Nat) (ys : List Spc) (s d : Int) (w : World) (hr : SL w A n ys) (h : chk ys = 0) (hd : dB s d = true) (hs01 : s = 0 ∨ s = 1) :
    Calls Tryz.prog 26 #[.slice A n c, .agg #[.int .i64 s, .int .i64 d]] w (GivesOf ys s d w) := by
  have HR := hide hr
  have H := hide h
  have HD := hide hd
  clear hr h hd
  go_enter Tryz.func26, Tryz.ntmps26
  go_wp2_with fail
  generalize hW : w.alloc _ = W
  obtain ⟨B, b0⟩ := boxDie hW
  clear hW
  refine (rsort_any A n c ys _ (HR.out.keep B)).mono ?_
  rintro e w1 ⟨A1, n1, d1, zs, rfl, hs, h1, h2, hb⟩
  rw [H.out]
  replace b0 := b0.below' hb
  replace B := nxt B hb
  have k0 := b0.at_ 0
  have k1 := b0.at_ 1
  simp at k0 k1
  have l0 := b0.lt
  have HS := hide (h1 H.out)
  have hn1 : n1 ≤ 64 := by
    have := (chk_ok.1 (HS.out.chk H.out)).1
    rw [hs.1] at this
    exact this
  clear h1 h2 hb
  go_wp2_with fail
  refine (rdie_any s d _ true HD.out).mono ?_
  rintro e w2 ⟨rfl, hb2⟩
  replace b0 := b0.below' hb2
  replace B := nxt B hb2
  replace hs := hs.keep hb2
  clear hb2 k0 k1 l0
  have HSL := hide hs
  have HB := hide B
  have HBX := hide b0
  have HL := hide b0.lt
  clear B b0 hs
  obtain ⟨i0, hi, hz0, hz1, hz2⟩ := info_parts infoI
  have Hz0 := hide hz0
  have Hz1 := hide hz1
  have Hz2 := hide hz2
  have Hi := hide hi
  clear hz0 hz1 hz2 hi
  go_wp2_with fail
  go_loopw [8, 9] (fun v i wr => OfIn w2 n1 zs s d v i wr) (fun _ i _ => n1 - (RowKit.intOf i).toNat)
  case atStart => exact ⟨0, [], Nat.zero_le _, rfl, rfl, Nat.le_refl _, OwnI.nil_ _ _, Below.refl _ _⟩
  case round =>
    obtain ⟨k, ids, hk, rfl, hids, hlen, ho, hB⟩ := hrel
    have HO := hide ho
    have HBR := hide hB
    have HIDS := hide hids
    have hsz := hB.size
    have l0 : w.heap.size < wr.heap.size := by have := HL.out; omega
    by_cases hlt : k < n1
    · have d0 : decide ((k : Int) < (n1 : Int)) = true := decide_eq_true (by omega)
      obtain ⟨b, o, y, rfl, hbl, hy, k0, k1, k2, k3, k4, k5, k6⟩ := (HSL.out.keep HBR.out).at_ hlt
      have HY := hide hy
      have i2 : (0 : Int) ≤ (k : Int) := by omega
      have i3 : (k : Int) < (n1 : Int) := by omega
      have KC := hide (fun (w' : World) (h : Below wr.heap.size wr w') => (HSL.out.keep (nxt HBR.out h)).cells_ HY.out)
      clear ho hB hids hy k3 k4 k5 k6
      have x0 := (HBX.out.below' HBR.out).at_ 0
      have x1 := (HBX.out.below' HBR.out).at_ 1
      simp at x0 x1
      rcases hs01 with rfl | rfl
      · have HRR := hide (show (if (0 : Int) = 0 then y.o else y.r) = y.o from if_pos rfl)
        by_cases hrd : y.o = d
        · have e0 : (y.o == d) = true := beq_iff_eq.2 hrd
          have HST := hide (show ofS (zs.take (k + 1)) 0 d = ids ++ [y.i] by rw [ofS_step HY.out, ← HIDS.out, HRR.out, if_pos hrd])
          clear hrd
          go_wp2_with fail
          go_quiet (fail)
          have E8 := hide (below_drewN (Below.refl wr.heap.size wr) nq)
          clear k0 k1 k2 x0 x1
          generalize wr.drewN nq = V at *
          obtain ⟨k0, k1, k2, k3, k4, k5, k6⟩ := KC.out _ E8.out
          have lV := E8.out.size
          go_wp2_with (at_builtin; refine wpList_append_own _ rfl _ _ 41 rfl w2.heap.size 3 i0 _ 1 8 Tryz.underlying41 Hi.out Hz0.out Hz1.out Hz2.out rfl (by decide) _ ids.length (cellsI ids) rfl (own_keep9 HO.out (E8.out.alloc E8.out.size _)) _ 1 1 [.int .i64 y.i] rfl rfl ?c1 ?c2 ?c3 ?c4 ?c5 ?_)
          case c1 => exact lit_cells [.int .i64 y.i]
          case c2 => exact fun u hu => by rw [List.mem_singleton] at hu; subst hu; rfl
          case c3 => unfold maxLen; omega
          case c4 => omega
          case c5 => have := E8.out.size; simp; omega
          intro v' w9 ho9 hgr9 _
          have HO9 := hide ho9
          have HG9 := hide hgr9
          clear ho9 hgr9
          go_wp2_with fail
          go_roundw
          case rel =>
            refine ⟨k + 1, ids ++ [y.i], by omega, by go_num, HST.out.symm, by simp; omega, ?_, ?_⟩
            · unfold OwnI
              rw [cellsI_snoc, List.length_append]
              exact HO9.out
            · exact own_below ((nxt HBR.out E8.out).alloc (nxt HBR.out E8.out).size _) HG9.out (by have := (nxt HBR.out E8.out).size; simp; omega) (own_keep9 HO.out (E8.out.alloc E8.out.size _)) (Nat.le_refl _)
          case measure => simp [RowKit.intOf]; omega
        · have e0 : (y.o == d) = false := beq_eq_false_iff_ne.2 hrd
          have HST := hide (show ofS (zs.take (k + 1)) 0 d = ids by rw [ofS_step HY.out, ← HIDS.out, HRR.out, if_neg hrd, List.append_nil])
          clear hrd
          go_wp2_with fail
          go_quiet (fail)
          go_wp2_with fail
          go_roundw
          case rel => exact ⟨k + 1, ids, by omega, by go_num, HST.out.symm, by omega, own_keep9 HO.out (below_drewN (Below.refl _ _) _), below_drewN HBR.out _⟩
          case measure => simp [RowKit.intOf]; omega
      · have HRR := hide (show (if (1 : Int) = 0 then y.o else y.r) = y.r from if_neg (by decide))
        by_cases hrd : y.r = d
        · have e0 : (y.r == d) = true := beq_iff_eq.2 hrd
          have HST := hide (show ofS (zs.take (k + 1)) 1 d = ids ++ [y.i] by rw [ofS_step HY.out, ← HIDS.out, HRR.out, if_pos hrd])
          clear hrd
          go_wp2_with fail
          go_quiet (fail)
          have E8 := hide (below_drewN (Below.refl wr.heap.size wr) nq)
          clear k0 k1 k2 x0 x1
          generalize wr.drewN nq = V at *
          obtain ⟨k0, k1, k2, k3, k4, k5, k6⟩ := KC.out _ E8.out
          have lV := E8.out.size
          go_wp2_with (at_builtin; refine wpList_append_own _ rfl _ _ 41 rfl w2.heap.size 3 i0 _ 1 8 Tryz.underlying41 Hi.out Hz0.out Hz1.out Hz2.out rfl (by decide) _ ids.length (cellsI ids) rfl (own_keep9 HO.out (E8.out.alloc E8.out.size _)) _ 1 1 [.int .i64 y.i] rfl rfl ?c1 ?c2 ?c3 ?c4 ?c5 ?_)
          case c1 => exact lit_cells [.int .i64 y.i]
          case c2 => exact fun u hu => by rw [List.mem_singleton] at hu; subst hu; rfl
          case c3 => unfold maxLen; omega
          case c4 => omega
          case c5 => have := E8.out.size; simp; omega
          intro v' w9 ho9 hgr9 _
          have HO9 := hide ho9
          have HG9 := hide hgr9
          clear ho9 hgr9
          go_wp2_with fail
          go_roundw
          case rel =>
            refine ⟨k + 1, ids ++ [y.i], by omega, by go_num, HST.out.symm, by simp; omega, ?_, ?_⟩
            · unfold OwnI
              rw [cellsI_snoc, List.length_append]
              exact HO9.out
            · exact own_below ((nxt HBR.out E8.out).alloc (nxt HBR.out E8.out).size _) HG9.out (by have := (nxt HBR.out E8.out).size; simp; omega) (own_keep9 HO.out (E8.out.alloc E8.out.size _)) (Nat.le_refl _)
          case measure => simp [RowKit.intOf]; omega
        · have e0 : (y.r == d) = false := beq_eq_false_iff_ne.2 hrd
          have HST := hide (show ofS (zs.take (k + 1)) 1 d = ids by rw [ofS_step HY.out, ← HIDS.out, HRR.out, if_neg hrd, List.append_nil])
          clear hrd
          go_wp2_with fail
          go_quiet (fail)
          go_wp2_with fail
          go_roundw
          case rel => exact ⟨k + 1, ids, by omega, by go_num, HST.out.symm, by omega, own_keep9 HO.out (below_drewN (Below.refl _ _) _), below_drewN HBR.out _⟩
          case measure => simp [RowKit.intOf]; omega
    · obtain rfl : k = n1 := by omega
      have d0 : decide ((k : Int) < (k : Int)) = false := decide_eq_false (by omega)
      obtain ⟨A2, c2, rfl, his⟩ := ho.is
      have HIS := hide his
      clear ho hB hids his
      go_wp2_with fail
      go_ret2
      refine ⟨A2, ids.length, c2, ids, by rw [if_pos H.out, HD.out]; rfl, HIS.out, fun _ => ⟨zs, HS.out, ?_⟩, fun h => absurd ⟨H.out, HD.out⟩ h, nxt HB.out HBR.out⟩
      rw [HIDS.out, List.take_of_length_le (by rw [HSL.out.1]; exact Nat.le_refl _)]
theorem rof9_any (A : Option Addr) (n c : Nat) (ys : List Spc) (s d : Int) (w : World) (hr : SL w A n ys) :
    Calls Tryz.prog 26 #[.slice A n c, .agg #[.int .i64 s, .int .i64 d]] w (GivesOf ys s d w) := by
  by_cases h : chk ys = 0
  · cases hd : dB s d
    · exact rof_bad A n c ys s d w hr h hd
    · exact rof_ok A n c ys s d w hr h hd (of_decide_eq_true hd).1
  · exact rof_err A n c ys s d w hr h
end Go.Proofs.YtaapcfflnklpjaaGreatDoor
