/- Ways of the reference's Parse of years. -/
import Derived.Test.YtihadabaehcmiaaDoorYRParM
namespace Go.Proofs.YtihadabaehcmiaaDoor
open Go Go.RowKit Go.Lib

set_option maxHeartbeats 4000000 in
set_option maxRecDepth 100000 in
theorem rp_NH (s : ByteArray) (w : World) (hs : s.size ≤ 900) (x y z : Int) (h : prs s.data.toList = (x, y, z)) (n : Nat) (m : List UInt8) (hd : digF5 5 0 s.data.toList = (n, m)) (q0 : 3 ≤ (strB m).size) (q1 : m.take 3 ≠ bcL) (q2 : m.take 3 ≠ adL) (c : UInt8) (r : List UInt8) (p0 : m = c :: r) (p1 : c = 45) (n2 : Nat) (m2 : List UInt8) (p2 : digF5 5 0 r = (n2, m2))
    (ha : numA s.data.toList = n) (hb : numB s.data.toList = n2) :
    Calls Tryd.prog 24 #[.string s] w fun e w' => e = .returned (.tuple #[.agg #[.int .i64 x, .int .i64 y], .int .i64 z]) ∧ Below w.heap.size w w' := by
  have HP := hide h
  have HA := hide (show (numA s.data.toList : Int) = (n : Int) from by rw [ha])
  have HB := hide (show (numB s.data.toList : Int) = (n2 : Int) from by rw [hb])
  have hl : m.length ≤ 900 := by have := digF5_len 5 0 s.data.toList; rw [hd] at this; simp only [Array.length_toList] at this; exact Nat.le_trans this hs
  have hn : n < 100000 := digF5_lt 5 0 _ n m 1 (by omega) hd
  rw [← strB_size] at hl
  have hn2 : n2 < 100000 := digF5_lt 5 0 _ n2 m2 1 (by omega) p2
  have Q1 := hide q1
  have Q2 := hide q2
  have P0 := hide p0
  have P1 := hide p1
  have P2 := hide p2
  obtain ⟨D, hD⟩ : ∃ D, strB m = D := ⟨_, rfl⟩
  rw [hD] at hl q0
  have HDD := hide hD
  have RD := hide (fun W => rdigits_any s W (by omega) n m hd)
  rw [hD] at RD
  have HR := hide (show D = strB (m) from by rw [← HDD.out])
  have hz : (strB (m)).size = D.size := by rw [strB_size, ← strB_size, HDD.out]
  have z0 : 0 < D.size := by rw [← hz, strB_size, P0.out]; exact Nat.succ_pos _
  have z1 : 0 < (D).size := by rw [HR.out, hz]; exact z0
  have c0 : ((D)[0]'z1) = c := c0_of HR.out P0.out z1
  have e45 : ((((D)[0]'z1).toNat : Int) == 45) = true := by rw [c0]; exact nat_eq45.2 P1.out
  clear c0
  have R2 := hide (fun W => rdigits_any ((D).extract 1 (D.size)) W (by rw [ByteArray.size_extract]; omega) n2 m2 (by rw [tail_of HR.out P0.out hz]; exact P2.out))
  clear hz h ha hb hd hD p0 p1 p2 q1 q2
  have d3 : decide (3 ≤ (D.size : Int)) = true := by simp; omega
  have e1 : ¬ (D.extract 0 3).toList = [32, 66, 67] := by rw [← HDD.out, ex_to]; exact Q1.out
  have e2 : ((D.extract 0 3).toList == [32, 66, 67]) = false := by rw [beq_eq_false_iff_ne]; exact e1
  have e3 : ((D.extract 0 3).toList == [32, 65, 68]) = false := by rw [beq_eq_false_iff_ne, ← HDD.out, ex_to]; exact Q2.out
  go_enter Tryd.func24, Tryd.ntmps24
  go_wp2_with fail
  generalize hW : w.alloc _ = W
  obtain ⟨B, b0⟩ := boxA hW
  clear hW
  refine (RD.out _).mono ?_
  rintro e w1 ⟨rfl, hb⟩
  replace b0 := b0.below' hb
  replace B := B.trans (hb.mono B.size)
  clear hb
  go_wp2_with fail
  refine (R2.out _).mono ?_
  rintro e w2 ⟨rfl, hb⟩
  replace b0 := b0.below' hb
  replace B := B.trans (hb.mono B.size)
  clear hb
  go_wp2_with fail
  clear d3 e45 e1 e2 e3
  have g0 : w.heap.size < w2.heap.size := b0.lt
  generalize hW : (w2.alloc _).alloc _ = W2
  obtain ⟨BA, bA, bB⟩ := boxesA2 hW
  have e2s : W2.heap.size = w2.heap.size + 1 + 1 := by rw [← hW]; simp
  clear hW
  replace b0 := b0.below' BA
  replace B := B.trans (BA.mono B.size)
  generalize w2.heap.size = gA at *
  have LA := bA.lt
  have LB := bB.lt
  have L0 := b0.lt
  clear BA e2s
  go_loopg [9, 10, 11] 2 (fun gk i _ _ wr => ∃ iN : Nat, iN + gk = 2 ∧ i = .int .i64 (iN : Int) ∧ Below W2.heap.size W2 wr ∧ Fl s n n2 iN 0)
  case atStart => exact ⟨0, rfl, rfl, Below.refl _ _, Fl.zero _ _ _⟩
  case round =>
    obtain ⟨iN, hi, rfl, hbi, hfl⟩ := hrel
    have HF := hide hfl
    clear hfl
    obtain rfl : gk = 2 - iN := by omega
    have hi2 : iN ≤ 2 := by omega
    clear hi
    by_cases hlt : iN < 2
    · have dlt : decide ((iN : Int) < 2) = true := decide_eq_true (by omega)
      go_wp2_with fail
      obtain ⟨wo, rfl⟩ : ∃ wo : World, wo = wr := ⟨_, rfl⟩
      go_loopg [10, 11] 2 (fun gk k _ wq => ∃ kN : Nat, kN + gk = 2 ∧ k = .int .i64 (kN : Int) ∧ Below W2.heap.size W2 wq ∧ Fl s n n2 iN kN)
      case atStart => exact ⟨0, rfl, rfl, hbi, HF.out⟩
      case round =>
        obtain ⟨kN, hk, rfl, hbq, hfq⟩ := hrel
        have HQ := hide hfq
        clear hfq
        by_cases hkt : kN < 2
        · have cA : wr.cell? ⟨gA, iN, none⟩ = some (.int .i64 (cd n iN)) := by rw [(bA.below hbq LA).at_ iN]; exact cd_box hlt
          have cB : wr.cell? ⟨gA + 1, kN, none⟩ = some (.int .i64 (cd n2 kN)) := by rw [(bB.below hbq LB).at_ kN]; exact cd_box hkt
          have bx := cd_bd (a := (n : Int)) (i := iN) (by omega) (by omega)
          have bd := cd_bd (a := (n2 : Int)) (i := kN) (by omega) (by omega)
          obtain ⟨X, hX⟩ : ∃ X, cd n iN = X := ⟨_, rfl⟩
          obtain ⟨Y, hY⟩ : ∃ Y, cd n2 kN = Y := ⟨_, rfl⟩
          rw [hX] at cA bx
          rw [hY] at cB bd
          have HX := hide hX
          have HY := hide hY
          have hgk : 1 ≤ gk := by omega
          have HG := hide (show kN + 1 + (gk - 1) = 2 from by omega)
          clear hX hY hk
          have sA : gA < wr.heap.size := Nat.lt_of_lt_of_le LA hbq.size
          have sB : gA + 1 < wr.heap.size := Nat.lt_of_lt_of_le LB hbq.size
          have i0 : (0 : Int) ≤ (iN : Int) := by omega
          have i1 : (iN : Int) < 2 := by omega
          have k0 : (0 : Int) ≤ (kN : Int) := by omega
          have k1 : (kN : Int) < 2 := by omega
          have dkt : decide ((kN : Int) < 2) = true := decide_eq_true (by omega)
          go_wp2_with fail
          go_region
          go_wp2_with fail
          generalize hW : (wr.alloc _).drew = W3
          obtain ⟨B3, bY⟩ := boxD hW
          clear hW
          have BB := hbq.trans (B3.mono hbq.size)
          generalize wr.heap.size = gY at *
          rcases Bool.eq_false_or_eq_true (yB X Y) with hv | hv
          · have HV := hide hv
            clear hv cA cB
            refine (rvalid_any X Y _ true HV.out).mono ?_
            rintro e w3 ⟨rfl, hb3⟩
            replace bY := bY.below' hb3
            replace BB := BB.trans (hb3.mono BB.size)
            have y0 : w3.cell? ⟨gY, 0, none⟩ = some (.int .i64 X) := bY.at_ 0
            have y1 : w3.cell? ⟨gY, 1, none⟩ = some (.int .i64 Y) := bY.at_ 1
            clear hb3
            by_cases ht : txt X Y = s
            · have HO := hide (okC_of HV.out ht)
              have HT := hide ht
              clear ht
              go_wp2_with fail
              refine (rtxt_v X Y _ s HT.out).mono ?_
              rintro e w4 ⟨rfl, hb4⟩
              replace bY := bY.below' hb4
              replace BB := BB.trans (hb4.mono BB.size)
              clear y0 y1
              have y0 : w4.cell? ⟨gY, 0, none⟩ = some (.int .i64 X) := bY.at_ 0
              have y1 : w4.cell? ⟨gY, 1, none⟩ = some (.int .i64 Y) := bY.at_ 1
              have b4 := b0.below BB L0
              have x0 : w4.cell? ⟨w.heap.size, 0, none⟩ = some (.int .i64 0) := b4.at_ 0
              have x1 : w4.cell? ⟨w.heap.size, 1, none⟩ = some (.int .i64 0) := b4.at_ 1
              have f0 := b4.frozen 0
              have f1 := b4.frozen 1
              have l4 := b4.lt
              clear hb4
              have HE := hide (HP.out.symm.trans (ref_hit HO.out))
              go_wp2_with fail
              refine bodyPost_ret (v := .tuple #[.agg #[.int .i64 X, .int .i64 Y], .int .i64 0]) ?_ rfl ⟨?_, ?_⟩
              · simp [results, Tryd.results24, go_sem, x0, x1]
              · exact ret_xyz HE.out
              · exact ((B.trans (BB.mono B.size)).setCell (Nat.le_refl _) _).setCell (Nat.le_refl _) _
            · have HO := hide (okC_txt ht)
              obtain ⟨S, hS⟩ : ∃ S, txt X Y = S := ⟨_, rfl⟩
              rw [hS] at ht
              have hse : (S.toList == s.toList) = false := by rw [beq_eq_false_iff_ne]; exact fun h => ht (toList_inj h)
              have HS := hide hS
              clear hS
              go_wp2_with fail
              refine (rtxt_v X Y _ S HS.out).mono ?_
              rintro e w4 ⟨rfl, hb4⟩
              replace BB := BB.trans (hb4.mono BB.size)
              clear hb4
              go_wp2_with fail
              have HQN := hide (Fl.step HQ.out (show okC s (cd n iN) (cd n2 kN) = false from by rw [HX.out, HY.out]; exact HO.out))
              go_roundg (gk - 1)
              case measure => omega
              case rel => exact ⟨kN + 1, HG.out, by go_num, BB, HQN.out⟩
          · have HO := hide (okC_inv (s := s) hv)
            have HV := hide hv
            clear hv cA cB
            refine (rvalid_any X Y _ false HV.out).mono ?_
            rintro e w3 ⟨rfl, hb3⟩
            replace BB := BB.trans (hb3.mono BB.size)
            clear hb3
            go_wp2_with fail
            have HQN := hide (Fl.step HQ.out (show okC s (cd n iN) (cd n2 kN) = false from by rw [HX.out, HY.out]; exact HO.out))
            go_roundg (gk - 1)
            case measure => omega
            case rel => exact ⟨kN + 1, HG.out, by go_num, BB, HQN.out⟩
        · obtain rfl : kN = 2 := by omega
          have HN := hide (Fl.next HQ.out)
          clear hkt hk
          go_wp2_with fail
          go_roundg (2 - iN - 1)
          case measure => omega
          case rel => exact ⟨iN + 1, by omega, by go_num, hbq, HN.out⟩
    · obtain rfl : iN = 2 := by omega
      have HE := hide (HP.out.symm.trans (Fl.none HA.out HB.out HF.out))
      have b4 := b0.below hbi L0
      have x0 : wr.cell? ⟨w.heap.size, 0, none⟩ = some (.int .i64 0) := b4.at_ 0
      have x1 : wr.cell? ⟨w.heap.size, 1, none⟩ = some (.int .i64 0) := b4.at_ 1
      have f0 := b4.frozen 0
      have f1 := b4.frozen 1
      have l4 := b4.lt
      go_wp2_with fail
      refine bodyPost_ret (v := .tuple #[.agg #[.int .i64 0, .int .i64 0], .int .i64 3]) ?_ rfl ⟨?_, ?_⟩
      · simp [results, Tryd.results24, go_sem, x0, x1]
      · exact ret_xyz HE.out
      · exact ((B.trans (hbi.mono B.size)).setCell (Nat.le_refl _) _).setCell (Nat.le_refl _) _
set_option maxHeartbeats 4000000 in
set_option maxRecDepth 100000 in
theorem rp_NO (s : ByteArray) (w : World) (hs : s.size ≤ 900) (x y z : Int) (h : prs s.data.toList = (x, y, z)) (n : Nat) (m : List UInt8) (hd : digF5 5 0 s.data.toList = (n, m)) (q0 : 3 ≤ (strB m).size) (q1 : m.take 3 ≠ bcL) (q2 : m.take 3 ≠ adL) (c : UInt8) (r : List UInt8) (p0 : m = c :: r) (p1 : c ≠ 45)
    (ha : numA s.data.toList = n) (hb : numB s.data.toList = n) :
    Calls Tryd.prog 24 #[.string s] w fun e w' => e = .returned (.tuple #[.agg #[.int .i64 x, .int .i64 y], .int .i64 z]) ∧ Below w.heap.size w w' := by
  have HP := hide h
  have HA := hide (show (numA s.data.toList : Int) = (n : Int) from by rw [ha])
  have HB := hide (show (numB s.data.toList : Int) = (n : Int) from by rw [hb])
  have hl : m.length ≤ 900 := by have := digF5_len 5 0 s.data.toList; rw [hd] at this; simp only [Array.length_toList] at this; exact Nat.le_trans this hs
  have hn : n < 100000 := digF5_lt 5 0 _ n m 1 (by omega) hd
  rw [← strB_size] at hl
  have Q1 := hide q1
  have Q2 := hide q2
  have P0 := hide p0
  have P1 := hide p1
  obtain ⟨D, hD⟩ : ∃ D, strB m = D := ⟨_, rfl⟩
  rw [hD] at hl q0
  have HDD := hide hD
  have RD := hide (fun W => rdigits_any s W (by omega) n m hd)
  rw [hD] at RD
  have HR := hide (show D = strB (m) from by rw [← HDD.out])
  have hz : (strB (m)).size = D.size := by rw [strB_size, ← strB_size, HDD.out]
  have z0 : 0 < D.size := by rw [← hz, strB_size, P0.out]; exact Nat.succ_pos _
  have z1 : 0 < (D).size := by rw [HR.out, hz]; exact z0
  have c0 : ((D)[0]'z1) = c := c0_of HR.out P0.out z1
  have e45 : ((((D)[0]'z1).toNat : Int) == 45) = false := by rw [c0]; exact nat_ne45.2 P1.out
  clear c0
  clear hz h ha hb hd hD p0 p1 q1 q2
  have d3 : decide (3 ≤ (D.size : Int)) = true := by simp; omega
  have e1 : ¬ (D.extract 0 3).toList = [32, 66, 67] := by rw [← HDD.out, ex_to]; exact Q1.out
  have e2 : ((D.extract 0 3).toList == [32, 66, 67]) = false := by rw [beq_eq_false_iff_ne]; exact e1
  have e3 : ((D.extract 0 3).toList == [32, 65, 68]) = false := by rw [beq_eq_false_iff_ne, ← HDD.out, ex_to]; exact Q2.out
  go_enter Tryd.func24, Tryd.ntmps24
  go_wp2_with fail
  generalize hW : w.alloc _ = W
  obtain ⟨B, b0⟩ := boxA hW
  clear hW
  refine (RD.out _).mono ?_
  rintro e w1 ⟨rfl, hb⟩
  replace b0 := b0.below' hb
  replace B := B.trans (hb.mono B.size)
  clear hb
  go_wp2_with fail
  clear d3 e45 e1 e2 e3
  have g0 : w.heap.size < w1.heap.size := b0.lt
  generalize hW : (w1.alloc _).alloc _ = W2
  obtain ⟨BA, bA, bB⟩ := boxesA2 hW
  have e2s : W2.heap.size = w1.heap.size + 1 + 1 := by rw [← hW]; simp
  clear hW
  replace b0 := b0.below' BA
  replace B := B.trans (BA.mono B.size)
  generalize w1.heap.size = gA at *
  have LA := bA.lt
  have LB := bB.lt
  have L0 := b0.lt
  clear BA e2s
  go_loopg [9, 10, 11] 2 (fun gk i _ _ wr => ∃ iN : Nat, iN + gk = 2 ∧ i = .int .i64 (iN : Int) ∧ Below W2.heap.size W2 wr ∧ Fl s n n iN 0)
  case atStart => exact ⟨0, rfl, rfl, Below.refl _ _, Fl.zero _ _ _⟩
  case round =>
    obtain ⟨iN, hi, rfl, hbi, hfl⟩ := hrel
    have HF := hide hfl
    clear hfl
    obtain rfl : gk = 2 - iN := by omega
    have hi2 : iN ≤ 2 := by omega
    clear hi
    by_cases hlt : iN < 2
    · have dlt : decide ((iN : Int) < 2) = true := decide_eq_true (by omega)
      go_wp2_with fail
      obtain ⟨wo, rfl⟩ : ∃ wo : World, wo = wr := ⟨_, rfl⟩
      go_loopg [10, 11] 2 (fun gk k _ wq => ∃ kN : Nat, kN + gk = 2 ∧ k = .int .i64 (kN : Int) ∧ Below W2.heap.size W2 wq ∧ Fl s n n iN kN)
      case atStart => exact ⟨0, rfl, rfl, hbi, HF.out⟩
      case round =>
        obtain ⟨kN, hk, rfl, hbq, hfq⟩ := hrel
        have HQ := hide hfq
        clear hfq
        by_cases hkt : kN < 2
        · have cA : wr.cell? ⟨gA, iN, none⟩ = some (.int .i64 (cd n iN)) := by rw [(bA.below hbq LA).at_ iN]; exact cd_box hlt
          have cB : wr.cell? ⟨gA + 1, kN, none⟩ = some (.int .i64 (cd n kN)) := by rw [(bB.below hbq LB).at_ kN]; exact cd_box hkt
          have bx := cd_bd (a := (n : Int)) (i := iN) (by omega) (by omega)
          have bd := cd_bd (a := (n : Int)) (i := kN) (by omega) (by omega)
          obtain ⟨X, hX⟩ : ∃ X, cd n iN = X := ⟨_, rfl⟩
          obtain ⟨Y, hY⟩ : ∃ Y, cd n kN = Y := ⟨_, rfl⟩
          rw [hX] at cA bx
          rw [hY] at cB bd
          have HX := hide hX
          have HY := hide hY
          have hgk : 1 ≤ gk := by omega
          have HG := hide (show kN + 1 + (gk - 1) = 2 from by omega)
          clear hX hY hk
          have sA : gA < wr.heap.size := Nat.lt_of_lt_of_le LA hbq.size
          have sB : gA + 1 < wr.heap.size := Nat.lt_of_lt_of_le LB hbq.size
          have i0 : (0 : Int) ≤ (iN : Int) := by omega
          have i1 : (iN : Int) < 2 := by omega
          have k0 : (0 : Int) ≤ (kN : Int) := by omega
          have k1 : (kN : Int) < 2 := by omega
          have dkt : decide ((kN : Int) < 2) = true := decide_eq_true (by omega)
          go_wp2_with fail
          go_region
          go_wp2_with fail
          generalize hW : (wr.alloc _).drew = W3
          obtain ⟨B3, bY⟩ := boxD hW
          clear hW
          have BB := hbq.trans (B3.mono hbq.size)
          generalize wr.heap.size = gY at *
          rcases Bool.eq_false_or_eq_true (yB X Y) with hv | hv
          · have HV := hide hv
            clear hv cA cB
            refine (rvalid_any X Y _ true HV.out).mono ?_
            rintro e w3 ⟨rfl, hb3⟩
            replace bY := bY.below' hb3
            replace BB := BB.trans (hb3.mono BB.size)
            have y0 : w3.cell? ⟨gY, 0, none⟩ = some (.int .i64 X) := bY.at_ 0
            have y1 : w3.cell? ⟨gY, 1, none⟩ = some (.int .i64 Y) := bY.at_ 1
            clear hb3
            by_cases ht : txt X Y = s
            · have HO := hide (okC_of HV.out ht)
              have HT := hide ht
              clear ht
              go_wp2_with fail
              refine (rtxt_v X Y _ s HT.out).mono ?_
              rintro e w4 ⟨rfl, hb4⟩
              replace bY := bY.below' hb4
              replace BB := BB.trans (hb4.mono BB.size)
              clear y0 y1
              have y0 : w4.cell? ⟨gY, 0, none⟩ = some (.int .i64 X) := bY.at_ 0
              have y1 : w4.cell? ⟨gY, 1, none⟩ = some (.int .i64 Y) := bY.at_ 1
              have b4 := b0.below BB L0
              have x0 : w4.cell? ⟨w.heap.size, 0, none⟩ = some (.int .i64 0) := b4.at_ 0
              have x1 : w4.cell? ⟨w.heap.size, 1, none⟩ = some (.int .i64 0) := b4.at_ 1
              have f0 := b4.frozen 0
              have f1 := b4.frozen 1
              have l4 := b4.lt
              clear hb4
              have HE := hide (HP.out.symm.trans (ref_hit HO.out))
              go_wp2_with fail
              refine bodyPost_ret (v := .tuple #[.agg #[.int .i64 X, .int .i64 Y], .int .i64 0]) ?_ rfl ⟨?_, ?_⟩
              · simp [results, Tryd.results24, go_sem, x0, x1]
              · exact ret_xyz HE.out
              · exact ((B.trans (BB.mono B.size)).setCell (Nat.le_refl _) _).setCell (Nat.le_refl _) _
            · have HO := hide (okC_txt ht)
              obtain ⟨S, hS⟩ : ∃ S, txt X Y = S := ⟨_, rfl⟩
              rw [hS] at ht
              have hse : (S.toList == s.toList) = false := by rw [beq_eq_false_iff_ne]; exact fun h => ht (toList_inj h)
              have HS := hide hS
              clear hS
              go_wp2_with fail
              refine (rtxt_v X Y _ S HS.out).mono ?_
              rintro e w4 ⟨rfl, hb4⟩
              replace BB := BB.trans (hb4.mono BB.size)
              clear hb4
              go_wp2_with fail
              have HQN := hide (Fl.step HQ.out (show okC s (cd n iN) (cd n kN) = false from by rw [HX.out, HY.out]; exact HO.out))
              go_roundg (gk - 1)
              case measure => omega
              case rel => exact ⟨kN + 1, HG.out, by go_num, BB, HQN.out⟩
          · have HO := hide (okC_inv (s := s) hv)
            have HV := hide hv
            clear hv cA cB
            refine (rvalid_any X Y _ false HV.out).mono ?_
            rintro e w3 ⟨rfl, hb3⟩
            replace BB := BB.trans (hb3.mono BB.size)
            clear hb3
            go_wp2_with fail
            have HQN := hide (Fl.step HQ.out (show okC s (cd n iN) (cd n kN) = false from by rw [HX.out, HY.out]; exact HO.out))
            go_roundg (gk - 1)
            case measure => omega
            case rel => exact ⟨kN + 1, HG.out, by go_num, BB, HQN.out⟩
        · obtain rfl : kN = 2 := by omega
          have HN := hide (Fl.next HQ.out)
          clear hkt hk
          go_wp2_with fail
          go_roundg (2 - iN - 1)
          case measure => omega
          case rel => exact ⟨iN + 1, by omega, by go_num, hbq, HN.out⟩
    · obtain rfl : iN = 2 := by omega
      have HE := hide (HP.out.symm.trans (Fl.none HA.out HB.out HF.out))
      have b4 := b0.below hbi L0
      have x0 : wr.cell? ⟨w.heap.size, 0, none⟩ = some (.int .i64 0) := b4.at_ 0
      have x1 : wr.cell? ⟨w.heap.size, 1, none⟩ = some (.int .i64 0) := b4.at_ 1
      have f0 := b4.frozen 0
      have f1 := b4.frozen 1
      have l4 := b4.lt
      go_wp2_with fail
      refine bodyPost_ret (v := .tuple #[.agg #[.int .i64 0, .int .i64 0], .int .i64 3]) ?_ rfl ⟨?_, ?_⟩
      · simp [results, Tryd.results24, go_sem, x0, x1]
      · exact ret_xyz HE.out
      · exact ((B.trans (hbi.mono B.size)).setCell (Nat.le_refl _) _).setCell (Nat.le_refl _) _
end Go.Proofs.YtihadabaehcmiaaDoor
