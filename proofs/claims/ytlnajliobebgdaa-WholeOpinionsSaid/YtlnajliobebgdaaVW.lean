/- WholeOpinions. -/
import Derived.Test.YtlnajliobebgdaaWA
namespace Go.Proofs.Ytlnajliobebgdaa
open Go Go.RowKit Go.Lib

set_option maxHeartbeats 4000000 in
set_option maxRecDepth 100000 in
theorem who_few0 (A0 : Option Addr) (n0 c0 : Nat) (A1 : Option Addr) (n1 c1 : Nat) (A2 : Option Addr) (n2 c2 : Nat) (w : World)  (h0 : ¬ n0 ≤ 20) : Calls Try.prog 3 #[.slice A0 n0 c0, .slice A1 n1 c1, .slice A2 n2 c2] w fun e w' => e = .returned (.bool true) ∧ Below w.heap.size w w' := by
  have d0 : decide ((20 : Int) < (n0 : Int)) = true := decide_eq_true (by omega)
  go_enter Try.func3, Try.ntmps3
  go_wp2_with fail
  refine (wawake_yes w).mono ?_
  rintro e w1 ⟨rfl, b1⟩
  have B1 := hide b1
  clear b1
  go_wp2_with fail
  refine (wawake_yes w1).mono ?_
  rintro e w2 ⟨rfl, b2⟩
  have B2 := hide (Below.next B1.out b2)
  clear b2
  go_wp2_with fail
  go_ret
  exact ⟨rfl, B2.out⟩

set_option maxHeartbeats 4000000 in
set_option maxRecDepth 100000 in
theorem who_few1 (A0 : Option Addr) (n0 c0 : Nat) (A1 : Option Addr) (n1 c1 : Nat) (A2 : Option Addr) (n2 c2 : Nat) (w : World) (h0 : n0 ≤ 20) (h1 : ¬ n1 ≤ 20) : Calls Try.prog 3 #[.slice A0 n0 c0, .slice A1 n1 c1, .slice A2 n2 c2] w fun e w' => e = .returned (.bool true) ∧ Below w.heap.size w w' := by
  have d0 : decide ((20 : Int) < (n0 : Int)) = false := decide_eq_false (by omega)
  have d1 : decide ((20 : Int) < (n1 : Int)) = true := decide_eq_true (by omega)
  go_enter Try.func3, Try.ntmps3
  go_wp2_with fail
  refine (wawake_yes w).mono ?_
  rintro e w1 ⟨rfl, b1⟩
  have B1 := hide b1
  clear b1
  go_wp2_with fail
  refine (wawake_yes w1).mono ?_
  rintro e w2 ⟨rfl, b2⟩
  have B2 := hide (Below.next B1.out b2)
  clear b2
  go_wp2_with fail
  go_ret
  exact ⟨rfl, B2.out⟩

set_option maxHeartbeats 4000000 in
set_option maxRecDepth 100000 in
theorem who_few2 (A0 : Option Addr) (n0 c0 : Nat) (A1 : Option Addr) (n1 c1 : Nat) (A2 : Option Addr) (n2 c2 : Nat) (w : World) (h0 : n0 ≤ 20) (h1 : n1 ≤ 20) (h2 : ¬ n2 ≤ 20) : Calls Try.prog 3 #[.slice A0 n0 c0, .slice A1 n1 c1, .slice A2 n2 c2] w fun e w' => e = .returned (.bool true) ∧ Below w.heap.size w w' := by
  have d0 : decide ((20 : Int) < (n0 : Int)) = false := decide_eq_false (by omega)
  have d1 : decide ((20 : Int) < (n1 : Int)) = false := decide_eq_false (by omega)
  have d2 : decide ((20 : Int) < (n2 : Int)) = true := decide_eq_true (by omega)
  go_enter Try.func3, Try.ntmps3
  go_wp2_with fail
  refine (wawake_yes w).mono ?_
  rintro e w1 ⟨rfl, b1⟩
  have B1 := hide b1
  clear b1
  go_wp2_with fail
  refine (wawake_yes w1).mono ?_
  rintro e w2 ⟨rfl, b2⟩
  have B2 := hide (Below.next B1.out b2)
  clear b2
  go_wp2_with fail
  go_ret
  exact ⟨rfl, B2.out⟩

set_option maxHeartbeats 32000000 in
set_option maxRecDepth 100000 in
theorem who_main (A0 : Option Addr) (n0 c0 : Nat) (l0 : List Ent) (A1 : Option Addr) (n1 c1 : Nat) (l1 : List Ent) (A2 : Option Addr) (n2 c2 : Nat) (l2 : List Ent) (w : World) (ha0 : SL eE w A0 n0 l0) (ha1 : SL eE w A1 n1 l1) (ha2 : SL eE w A2 n2 l2) (h0 : n0 ≤ 20) (h1 : n1 ≤ 20) (h2 : n2 ≤ 20) : Calls Try.prog 3 #[.slice A0 n0 c0, .slice A1 n1 c1, .slice A2 n2 c2] w fun e w' => e = .returned (.bool true) ∧ Below w.heap.size w w' := by
  have HA0 := hide ha0
  have HA1 := hide ha1
  have HA2 := hide ha2
  have d0 : decide ((20 : Int) < (n0 : Int)) = false := decide_eq_false (by omega)
  have d1 : decide ((20 : Int) < (n1 : Int)) = false := decide_eq_false (by omega)
  have d2 : decide ((20 : Int) < (n2 : Int)) = false := decide_eq_false (by omega)
  have b0 : l0.length ≤ 20 := by rw [ha0.1]; exact h0
  have b1 : l1.length ≤ 20 := by rw [ha1.1]; exact h1
  have b2 : l2.length ≤ 20 := by rw [ha2.1]; exact h2
  have hk1 := len_meL l0 l1 l2
  have hk2 := len_meB l0 l1 l2
  have hc1 := len_difK l0 l1
  have hc2 := len_difK l0 l2
  clear ha0 ha1 ha2
  by_cases hv : vE l0 = true ∧ vE l1 = true ∧ vE l2 = true
  · obtain ⟨v0, v1, v2⟩ := hv
    have HC := hide (show difR l0 l1 = (difL l0 l1, 0) by rw [difR_ok v0 v1]; exact full_ok (by omega))
    have HD := hide (show difR l0 l2 = (difL l0 l2, 0) by rw [difR_ok v0 v2]; exact full_ok (by omega))
    have HLC := hide (show (difL l0 l1).length ≤ 64 by omega)
    have HLD := hide (show (difL l0 l2).length ≤ 64 by omega)
    have hRM : merR l0 l1 l2 = (meL l0 l1 l2, meB l0 l1 l2, 0) := by rw [merR_ok v0 v1 v2, if_pos ⟨by omega, by omega⟩]
    by_cases hb : meB l0 l1 l2 = []
    · rw [hb] at hRM
      have HRM := hide hRM
      have HRM2 := hide (show merR l0 l2 l1 = (meL l0 l1 l2, [], 0) by rw [mer_comm]; exact hRM)
      have hm64 : (meL l0 l1 l2).length ≤ 64 := by omega
      have hvm := vE_meL hm64
      have hlr := len_rest hb
      have hla := len_all l0 l1 l2
      have HLM := hide (show (meL l0 l1 l2).length ≤ 64 ∧ ([] : List Int).length ≤ 64 from ⟨hm64, Nat.zero_le _⟩)
      have HRS := hide (show difR l1 (meL l0 l1 l2) = (difL l1 (meL l0 l1 l2), 0) by rw [difR_ok v1 hvm]; exact full_ok (by omega))
      have HLR := hide (show (difL l1 (meL l0 l1 l2)).length ≤ 64 by omega)
      have HAX := hide (appR_dif v1 hvm (show (difL l1 (meL l0 l1 l2)).length ≤ 64 by omega))
      have HCO := hide (show comR (difL l0 l1) (difL l1 (meL l0 l1 l2)) = (difL l0 (meL l0 l1 l2), 0) by rw [comR_dif (by omega) (by omega)]; exact full_ok (by omega))
      have HLA := hide (show (difL l0 (meL l0 l1 l2)).length ≤ 64 by omega)
      have HAY := hide (appR_dif v0 hvm (show (difL l0 (meL l0 l1 l2)).length ≤ 64 by omega))
      have HIN := hide (invR_dif (show (difL l0 (meL l0 l1 l2)).length ≤ 64 by omega))
      have hli : (difL (meL l0 l1 l2) l0).length ≤ 64 := by rw [len_dif]; omega
      have HLI := hide hli
      have HAZ := hide (appR_dif hvm v0 hli)
      have HL0 := hide (show l0.length ≤ 64 by omega)
      have HSUB := hide (rest_sub hb)
      clear hRM hb hm64 hvm hlr hla hli v0 v1 v2 hk1 hk2 hc1 hc2 b0 b1 b2
      go_enter Try.func3, Try.ntmps3
      go_wp2_with fail
      refine (wawake_yes w).mono ?_
      rintro e w1 ⟨rfl, b1⟩
      have B1 := hide b1
      clear b1
      have S_0 := hide (HA0.out.keep B1.out)
      have S_1 := hide (HA1.out.keep B1.out)
      have S_2 := hide (HA2.out.keep B1.out)
      go_wp2_with fail
      refine (merge_any A0 n0 c0 l0 A1 n1 c1 l1 A2 n2 c2 l2 w1 S_0.out S_1.out S_2.out (by omega) (by omega) (by omega)).mono ?_
      rintro e w11 h
      obtain ⟨A_m, c_m, n_m, A_x, c_x, n_x, rfl, hn, hn2, s, s2, b⟩ := givM_is HRM.out h
      have hn_m : n_m ≤ 100 := Nat.le_trans (by rw [← hn]; exact (HLM.out).1) (by decide)
      have hn_x : n_x ≤ 100 := Nat.le_trans (by rw [← hn2]; exact (HLM.out).2) (by decide)
      have S_0 := hide (S_0.out.keep b)
      have S_1 := hide (S_1.out.keep b)
      have S_2 := hide (S_2.out.keep b)
      have B2 := hide (Below.next B1.out b)
      have S_m := hide s
      have S_x := hide s2
      have HL_m := hide hn
      have HL_x := hide hn2
      clear h hn hn2 s s2 b
      obtain rfl : n_x = 0 := by have h5 := HL_x.out; rw [← h5]; rfl
      go_wp2_with fail
      refine (diff_any A0 n0 c0 l0 A1 n1 c1 l1 w11 S_0.out S_1.out (by omega) (by omega)).mono ?_
      rintro e w12 h
      obtain ⟨A_c, c_c, n_c, rfl, hn, s, b⟩ := giv_is HC.out h
      have hn_c : n_c ≤ 100 := Nat.le_trans (by rw [← hn]; exact HLC.out) (by decide)
      have S_0 := hide (S_0.out.keep b)
      have S_1 := hide (S_1.out.keep b)
      have S_2 := hide (S_2.out.keep b)
      have S_m := hide (S_m.out.keep b)
      have S_x := hide (S_x.out.keep b)
      have B3 := hide (Below.next B2.out b)
      have S_c := hide s
      have HL_c := hide hn
      clear h hn s b
      go_wp2_with fail
      refine (diff_any A0 n0 c0 l0 A2 n2 c2 l2 w12 S_0.out S_2.out (by omega) (by omega)).mono ?_
      rintro e w13 h
      obtain ⟨A_d, c_d, n_d, rfl, hn, s, b⟩ := giv_is HD.out h
      have hn_d : n_d ≤ 100 := Nat.le_trans (by rw [← hn]; exact HLD.out) (by decide)
      have S_0 := hide (S_0.out.keep b)
      have S_1 := hide (S_1.out.keep b)
      have S_2 := hide (S_2.out.keep b)
      have S_m := hide (S_m.out.keep b)
      have S_x := hide (S_x.out.keep b)
      have S_c := hide (S_c.out.keep b)
      have B4 := hide (Below.next B3.out b)
      have S_d := hide s
      have HL_d := hide hn
      clear h hn s b
      go_wp2_with fail
      refine (merge_any A0 n0 c0 l0 A2 n2 c2 l2 A1 n1 c1 l1 w13 S_0.out S_2.out S_1.out (by omega) (by omega) (by omega)).mono ?_
      rintro e w14 h
      obtain ⟨A_n, c_n, n_n, A_h, c_h, n_h, rfl, hn, hn2, s, s2, b⟩ := givM_is HRM2.out h
      have hn_n : n_n ≤ 100 := Nat.le_trans (by rw [← hn]; exact (HLM.out).1) (by decide)
      have hn_h : n_h ≤ 100 := Nat.le_trans (by rw [← hn2]; exact (HLM.out).2) (by decide)
      have S_0 := hide (S_0.out.keep b)
      have S_1 := hide (S_1.out.keep b)
      have S_2 := hide (S_2.out.keep b)
      have S_m := hide (S_m.out.keep b)
      have S_x := hide (S_x.out.keep b)
      have S_c := hide (S_c.out.keep b)
      have S_d := hide (S_d.out.keep b)
      have B5 := hide (Below.next B4.out b)
      have S_n := hide s
      have S_h := hide s2
      have HL_n := hide hn
      have HL_h := hide hn2
      clear h hn hn2 s s2 b
      obtain rfl : n_h = 0 := by have h5 := HL_h.out; rw [← h5]; rfl
      go_wp2_with fail
      refine (baseE_any A_n n_n c_n (meL l0 l1 l2) A_m n_m c_m (meL l0 l1 l2) w14 S_n.out S_m.out (by omega) (by omega) true (decide_eq_true rfl)).mono ?_
      rintro e w15 ⟨rfl, g⟩
      have b := g.below
      have S_0 := hide (S_0.out.keep b)
      have S_1 := hide (S_1.out.keep b)
      have S_2 := hide (S_2.out.keep b)
      have S_m := hide (S_m.out.keep b)
      have S_x := hide (S_x.out.keep b)
      have S_c := hide (S_c.out.keep b)
      have S_d := hide (S_d.out.keep b)
      have S_n := hide (S_n.out.keep b)
      have S_h := hide (S_h.out.keep b)
      have B6 := hide (Below.next B5.out b)
      clear g b
      go_wp2_with fail
      refine (diff_any A1 n1 c1 l1 A_m n_m c_m (meL l0 l1 l2) w15 S_1.out S_m.out (by omega) (by omega)).mono ?_
      rintro e w16 h
      obtain ⟨A_r, c_r, n_r, rfl, hn, s, b⟩ := giv_is HRS.out h
      have hn_r : n_r ≤ 100 := Nat.le_trans (by rw [← hn]; exact HLR.out) (by decide)
      have S_0 := hide (S_0.out.keep b)
      have S_1 := hide (S_1.out.keep b)
      have S_2 := hide (S_2.out.keep b)
      have S_m := hide (S_m.out.keep b)
      have S_c := hide (S_c.out.keep b)
      have S_d := hide (S_d.out.keep b)
      have B7 := hide (Below.next B6.out b)
      have S_r := hide s
      have HL_r := hide hn
      clear h hn s b
      go_wp2_with fail
      refine (apply_any A1 n1 c1 l1 A_r n_r c_r (difL l1 (meL l0 l1 l2)) w16 S_1.out S_r.out (by omega) (by omega)).mono ?_
      rintro e w17 h
      obtain ⟨A_u, c_u, n_u, rfl, hn, s, b⟩ := giv_is HAX.out h
      have hn_u : n_u ≤ 100 := Nat.le_trans (by rw [← hn]; exact HLM.out.1) (by decide)
      have S_0 := hide (S_0.out.keep b)
      have S_1 := hide (S_1.out.keep b)
      have S_2 := hide (S_2.out.keep b)
      have S_m := hide (S_m.out.keep b)
      have S_c := hide (S_c.out.keep b)
      have S_d := hide (S_d.out.keep b)
      have S_r := hide (S_r.out.keep b)
      have B8 := hide (Below.next B7.out b)
      have S_u := hide s
      have HL_u := hide hn
      clear h hn s b
      go_wp2_with fail
      refine (compose_any A_c n_c c_c (difL l0 l1) A_r n_r c_r (difL l1 (meL l0 l1 l2)) w17 S_c.out S_r.out (by omega) (by omega)).mono ?_
      rintro e w18 h
      obtain ⟨A_a, c_a, n_a, rfl, hn, s, b⟩ := giv_is HCO.out h
      have hn_a : n_a ≤ 100 := Nat.le_trans (by rw [← hn]; exact HLA.out) (by decide)
      have S_0 := hide (S_0.out.keep b)
      have S_1 := hide (S_1.out.keep b)
      have S_2 := hide (S_2.out.keep b)
      have S_m := hide (S_m.out.keep b)
      have S_c := hide (S_c.out.keep b)
      have S_d := hide (S_d.out.keep b)
      have S_r := hide (S_r.out.keep b)
      have S_u := hide (S_u.out.keep b)
      have B9 := hide (Below.next B8.out b)
      have S_a := hide s
      have HL_a := hide hn
      clear h hn s b
      go_wp2_with fail
      refine (apply_any A0 n0 c0 l0 A_a n_a c_a (difL l0 (meL l0 l1 l2)) w18 S_0.out S_a.out (by omega) (by omega)).mono ?_
      rintro e w19 h
      obtain ⟨A_v, c_v, n_v, rfl, hn, s, b⟩ := giv_is HAY.out h
      have hn_v : n_v ≤ 100 := Nat.le_trans (by rw [← hn]; exact HLM.out.1) (by decide)
      have S_0 := hide (S_0.out.keep b)
      have S_1 := hide (S_1.out.keep b)
      have S_2 := hide (S_2.out.keep b)
      have S_m := hide (S_m.out.keep b)
      have S_c := hide (S_c.out.keep b)
      have S_d := hide (S_d.out.keep b)
      have S_r := hide (S_r.out.keep b)
      have S_u := hide (S_u.out.keep b)
      have S_a := hide (S_a.out.keep b)
      have B10 := hide (Below.next B9.out b)
      have S_v := hide s
      have HL_v := hide hn
      clear h hn s b
      go_wp2_with fail
      refine (invert_any A_a n_a c_a (difL l0 (meL l0 l1 l2)) w19 S_a.out (by omega)).mono ?_
      rintro e w20 h
      obtain ⟨A_b, c_b, n_b, rfl, hn, s, b⟩ := giv_is HIN.out h
      have hn_b : n_b ≤ 100 := Nat.le_trans (by rw [← hn]; exact HLI.out) (by decide)
      have S_0 := hide (S_0.out.keep b)
      have S_1 := hide (S_1.out.keep b)
      have S_2 := hide (S_2.out.keep b)
      have S_m := hide (S_m.out.keep b)
      have S_c := hide (S_c.out.keep b)
      have S_d := hide (S_d.out.keep b)
      have S_r := hide (S_r.out.keep b)
      have S_u := hide (S_u.out.keep b)
      have S_a := hide (S_a.out.keep b)
      have S_v := hide (S_v.out.keep b)
      have B11 := hide (Below.next B10.out b)
      have S_b := hide s
      have HL_b := hide hn
      clear h hn s b
      go_wp2_with fail
      refine (apply_any A_m n_m c_m (meL l0 l1 l2) A_b n_b c_b (difL (meL l0 l1 l2) l0) w20 S_m.out S_b.out (by omega) (by omega)).mono ?_
      rintro e w21 h
      obtain ⟨A_t, c_t, n_t, rfl, hn, s, b⟩ := giv_is HAZ.out h
      have hn_t : n_t ≤ 100 := Nat.le_trans (by rw [← hn]; exact HL0.out) (by decide)
      have S_0 := hide (S_0.out.keep b)
      have S_1 := hide (S_1.out.keep b)
      have S_2 := hide (S_2.out.keep b)
      have S_m := hide (S_m.out.keep b)
      have S_c := hide (S_c.out.keep b)
      have S_d := hide (S_d.out.keep b)
      have S_r := hide (S_r.out.keep b)
      have S_u := hide (S_u.out.keep b)
      have S_a := hide (S_a.out.keep b)
      have S_v := hide (S_v.out.keep b)
      have S_b := hide (S_b.out.keep b)
      have B12 := hide (Below.next B11.out b)
      have S_t := hide s
      have HL_t := hide hn
      clear h hn s b
      go_wp2_with fail
      go_loopw [29] (fun i wr => ∃ p : Nat, i = .int .i64 (p : Int) ∧ p ≤ n_r ∧ Hid (Gr w21 wr)) (fun i _ => n_r - (RowKit.intOf i).toNat)
      case atStart => exact ⟨0, rfl, Nat.zero_le _, hide (Gr.refl _)⟩
      case round =>
        obtain ⟨p, rfl, hp, HG⟩ := hrel
        by_cases hlt : p < n_r
        · obtain ⟨br, orr, x, rfl, hl, hx, hcx⟩ := S_r.out.atC hlt
          have HXM := hide (HSUB.out x (List.mem_of_getElem? hx))
          have HCX := hide (fun (w' : World) (h : Gr w21 w') => show CellsC w' br (orr + p * 5) x by
            have ex : ∀ q : Addr, q.block < w21.heap.size → w'.cell? q = w21.cell? q := fun q hq => h.below.cell hq
            unfold CellsC
            rw [ex ⟨br, orr + p * 5, none⟩ hl, ex ⟨br, orr + p * 5 + 1, none⟩ hl, ex ⟨br, orr + p * 5 + 2, none⟩ hl, ex ⟨br, orr + p * 5 + 3, none⟩ hl, ex ⟨br, orr + p * 5 + 4, none⟩ hl]
            exact hcx)
          have e9 : decide ((p : Int) < (n_r : Int)) = true := decide_eq_true (by omega)
          have a1 : (0 : Int) ≤ (p : Int) := by omega
          have a2 : (p : Int) < (n_r : Int) := by omega
          clear hx hcx
          go_wp2_with fail
          obtain ⟨w8, h8⟩ : ∃ z, z = wr := ⟨_, rfl⟩
          subst h8
          go_loopw [30, 31] (fun f i wr => ∃ q : Nat, i = .int .i64 (q : Int) ∧ q ≤ n_d ∧ f = .bool (decide (x ∈ (difL l0 l2).take q)) ∧ Hid (Gr w21 wr)) (fun _ i _ => n_d - (RowKit.intOf i).toNat)
          case atStart => exact ⟨0, rfl, Nat.zero_le _, by rw [List.take_zero]; rfl, HG⟩
          case round =>
            obtain ⟨q, rfl, hq, rfl, HG2⟩ := hrel
            by_cases hlt2 : q < n_d
            · obtain ⟨bd, od, y, rfl, hld, hy, k0, k1, k2, k3, k4⟩ := (S_d.out.keep HG2.out.below).atC hlt2
              have HN := hide (show decide (x ∈ (difL l0 l2).take (q + 1)) = (decide (x ∈ (difL l0 l2).take q) || decide (y = x)) by
                rw [take_next hy, ← Bool.decide_or]
                refine decide_eq_decide.2 ?_
                rw [List.mem_append, List.mem_singleton]
                exact ⟨fun h => h.imp id Eq.symm, fun h => h.imp id Eq.symm⟩)
              have e8 : decide ((q : Int) < (n_d : Int)) = true := decide_eq_true (by omega)
              have a3 : (0 : Int) ≤ (q : Int) := by omega
              have a4 : (q : Int) < (n_d : Int) := by omega
              obtain ⟨m0, m1, m2, m3, m4⟩ := HCX.out _ HG2.out
              clear hy
              generalize hfv : decide (x ∈ (difL l0 l2).take q) = fv at *
              clear hfv
              cases fv with
              | true =>
                go_wp2_with fail
                go_quiet (fail)
                all_goals
                  go_wp2_with fail
                  go_roundw
                  case rel => exact ⟨q + 1, by go_num, by omega, by rw [HN.out]; rfl, hide (HG2.out.drewN_ _)⟩
                  case measure => simp [RowKit.intOf]; omega
              | false =>
                by_cases hyx : y = x
                · have e0 := fun (w : World) => eqC_run y x w true (decide_eq_true hyx)
                  have HN := hide (show decide (x ∈ (difL l0 l2).take (q + 1)) = true by rw [HN.out, decide_eq_true hyx]; rfl)
                  clear hyx
                  go_wp2_with fail
                  go_quiet (fail)
                  all_goals
                    go_wp2_with fail
                    go_roundw
                    case rel => exact ⟨q + 1, by go_num, by omega, by rw [HN.out], hide (HG2.out.drewN_ _)⟩
                    case measure => simp [RowKit.intOf]; omega
                · have e0 := fun (w : World) => eqC_run y x w false (decide_eq_false hyx)
                  have HN := hide (show decide (x ∈ (difL l0 l2).take (q + 1)) = false by rw [HN.out, decide_eq_false hyx]; rfl)
                  clear hyx
                  go_wp2_with fail
                  go_quiet (fail)
                  all_goals
                    go_wp2_with fail
                    go_roundw
                    case rel => exact ⟨q + 1, by go_num, by omega, by rw [HN.out], hide (HG2.out.drewN_ _)⟩
                    case measure => simp [RowKit.intOf]; omega
            · obtain rfl : n_d = q := by omega
              have e8 : decide ((n_d : Int) < (n_d : Int)) = false := decide_eq_false (by omega)
              rw [show decide (x ∈ (difL l0 l2).take n_d) = true from decide_eq_true (by rw [List.take_of_length_le (by rw [S_d.out.1]; exact Nat.le_refl _)]; exact HXM.out)]
              go_wp2_with fail
              go_roundw
              case rel => exact ⟨p + 1, by go_num, by omega, HG2⟩
              case measure => simp [RowKit.intOf]; omega
        · obtain rfl : n_r = p := by omega
          have e9 : decide ((n_r : Int) < (n_r : Int)) = false := decide_eq_false (by omega)
          have b := HG.out.below
          have S_0 := hide (S_0.out.keep b)
          have S_1 := hide (S_1.out.keep b)
          have S_2 := hide (S_2.out.keep b)
          have S_m := hide (S_m.out.keep b)
          have S_c := hide (S_c.out.keep b)
          have S_d := hide (S_d.out.keep b)
          have S_r := hide (S_r.out.keep b)
          have S_u := hide (S_u.out.keep b)
          have S_a := hide (S_a.out.keep b)
          have S_v := hide (S_v.out.keep b)
          have S_b := hide (S_b.out.keep b)
          have S_t := hide (S_t.out.keep b)
          have B13 := hide (Below.next B12.out b)
          clear b
          go_wp2_with fail
          refine (baseE_any A_u n_u c_u (meL l0 l1 l2) A_m n_m c_m (meL l0 l1 l2) wr S_u.out S_m.out (by omega) (by omega) true (decide_eq_true rfl)).mono ?_
          rintro e w23 ⟨rfl, g⟩
          have b := g.below
          have S_0 := hide (S_0.out.keep b)
          have S_1 := hide (S_1.out.keep b)
          have S_2 := hide (S_2.out.keep b)
          have S_m := hide (S_m.out.keep b)
          have S_c := hide (S_c.out.keep b)
          have S_d := hide (S_d.out.keep b)
          have S_r := hide (S_r.out.keep b)
          have S_u := hide (S_u.out.keep b)
          have S_a := hide (S_a.out.keep b)
          have S_v := hide (S_v.out.keep b)
          have S_b := hide (S_b.out.keep b)
          have S_t := hide (S_t.out.keep b)
          have B14 := hide (Below.next B13.out b)
          clear g b
          go_wp2_with fail
          refine (baseE_any A_v n_v c_v (meL l0 l1 l2) A_m n_m c_m (meL l0 l1 l2) w23 S_v.out S_m.out (by omega) (by omega) true (decide_eq_true rfl)).mono ?_
          rintro e w24 ⟨rfl, g⟩
          have b := g.below
          have S_0 := hide (S_0.out.keep b)
          have S_1 := hide (S_1.out.keep b)
          have S_2 := hide (S_2.out.keep b)
          have S_m := hide (S_m.out.keep b)
          have S_c := hide (S_c.out.keep b)
          have S_d := hide (S_d.out.keep b)
          have S_r := hide (S_r.out.keep b)
          have S_u := hide (S_u.out.keep b)
          have S_a := hide (S_a.out.keep b)
          have S_v := hide (S_v.out.keep b)
          have S_b := hide (S_b.out.keep b)
          have S_t := hide (S_t.out.keep b)
          have B15 := hide (Below.next B14.out b)
          clear g b
          go_wp2_with fail
          refine (baseE_any A_t n_t c_t l0 A0 n0 c0 l0 w24 S_t.out S_0.out (by omega) (by omega) true (decide_eq_true rfl)).mono ?_
          rintro e w25 ⟨rfl, g⟩
          have b := g.below
          have S_0 := hide (S_0.out.keep b)
          have S_1 := hide (S_1.out.keep b)
          have S_2 := hide (S_2.out.keep b)
          have S_m := hide (S_m.out.keep b)
          have S_c := hide (S_c.out.keep b)
          have S_d := hide (S_d.out.keep b)
          have S_r := hide (S_r.out.keep b)
          have S_u := hide (S_u.out.keep b)
          have S_a := hide (S_a.out.keep b)
          have S_v := hide (S_v.out.keep b)
          have S_b := hide (S_b.out.keep b)
          have S_t := hide (S_t.out.keep b)
          have B16 := hide (Below.next B15.out b)
          clear g b
          go_wp2_with fail
          go_ret
          exact ⟨rfl, B16.out⟩
    · have HRM := hide hRM
      have HLM := hide (show (meL l0 l1 l2).length ≤ 64 ∧ (meB l0 l1 l2).length ≤ 64 from ⟨by omega, by omega⟩)
      have HNE := hide (List.length_pos_iff.2 hb)
      clear hRM hb v0 v1 v2 hk1 hk2 hc1 hc2 b0 b1 b2
      go_enter Try.func3, Try.ntmps3
      go_wp2_with fail
      refine (wawake_yes w).mono ?_
      rintro e w1 ⟨rfl, b1⟩
      have B1 := hide b1
      clear b1
      have S_0 := hide (HA0.out.keep B1.out)
      have S_1 := hide (HA1.out.keep B1.out)
      have S_2 := hide (HA2.out.keep B1.out)
      go_wp2_with fail
      refine (merge_any A0 n0 c0 l0 A1 n1 c1 l1 A2 n2 c2 l2 w1 S_0.out S_1.out S_2.out (by omega) (by omega) (by omega)).mono ?_
      rintro e w11 h
      obtain ⟨A_m, c_m, n_m, A_x, c_x, n_x, rfl, hn, hn2, s, s2, b⟩ := givM_is HRM.out h
      have hn_m : n_m ≤ 100 := Nat.le_trans (by rw [← hn]; exact (HLM.out).1) (by decide)
      have hn_x : n_x ≤ 100 := Nat.le_trans (by rw [← hn2]; exact (HLM.out).2) (by decide)
      have S_0 := hide (S_0.out.keep b)
      have S_1 := hide (S_1.out.keep b)
      have S_2 := hide (S_2.out.keep b)
      have B2 := hide (Below.next B1.out b)
      have S_m := hide s
      have S_x := hide s2
      have HL_m := hide hn
      have HL_x := hide hn2
      clear h hn hn2 s s2 b
      have e7a : 0 < n_x := (by have h5 := HL_x.out; have h6 := HNE.out; omega)
      have e7 : decide ((0 : Int) < (n_x : Int)) = true := decide_eq_true (by omega)
      have e7b : decide (0 < n_x) = true := decide_eq_true e7a
      go_wp2_with fail
      refine (diff_any A0 n0 c0 l0 A1 n1 c1 l1 w11 S_0.out S_1.out (by omega) (by omega)).mono ?_
      rintro e w12 h
      obtain ⟨A_c, c_c, n_c, rfl, hn, s, b⟩ := giv_is HC.out h
      have hn_c : n_c ≤ 100 := Nat.le_trans (by rw [← hn]; exact HLC.out) (by decide)
      have S_0 := hide (S_0.out.keep b)
      have S_1 := hide (S_1.out.keep b)
      have S_2 := hide (S_2.out.keep b)
      have S_m := hide (S_m.out.keep b)
      have S_x := hide (S_x.out.keep b)
      have B3 := hide (Below.next B2.out b)
      have S_c := hide s
      have HL_c := hide hn
      clear h hn s b
      go_wp2_with fail
      refine (diff_any A0 n0 c0 l0 A2 n2 c2 l2 w12 S_0.out S_2.out (by omega) (by omega)).mono ?_
      rintro e w13 h
      obtain ⟨A_d, c_d, n_d, rfl, hn, s, b⟩ := giv_is HD.out h
      have hn_d : n_d ≤ 100 := Nat.le_trans (by rw [← hn]; exact HLD.out) (by decide)
      have S_0 := hide (S_0.out.keep b)
      have S_1 := hide (S_1.out.keep b)
      have S_2 := hide (S_2.out.keep b)
      have S_m := hide (S_m.out.keep b)
      have S_x := hide (S_x.out.keep b)
      have S_c := hide (S_c.out.keep b)
      have B4 := hide (Below.next B3.out b)
      have S_d := hide s
      have HL_d := hide hn
      clear h hn s b
      by_cases hz : n_m = 0
      · subst hz
        go_wp2_with fail
        go_ret
        exact ⟨rfl, B4.out⟩
      · have e6 : ((n_m : Int) == 0) = false := beq_eq_false_iff_ne.2 (by omega)
        clear hz
        go_wp2_with fail
        go_ret
        exact ⟨rfl, B4.out⟩
  · have HRM := hide (show merR l0 l1 l2 = ([], [], 1) from merR_no (by
      cases q0 : vE l0 with
      | false => exact .inl rfl
      | true =>
        cases q1 : vE l1 with
        | false => exact .inr (.inl rfl)
        | true =>
          cases q2 : vE l2 with
          | false => exact .inr (.inr rfl)
          | true => exact absurd ⟨q0, q1, q2⟩ hv))
    obtain ⟨L1, e1, hR1⟩ : ∃ L er, difR l0 l1 = (L, er) := ⟨_, _, rfl⟩
    obtain ⟨L2, e2, hR2⟩ : ∃ L er, difR l0 l2 = (L, er) := ⟨_, _, rfl⟩
    have HR1 := hide hR1
    have HR2 := hide hR2
    have HLB1 := hide (show L1.length ≤ 64 by have := difR_len l0 l1; rw [hR1] at this; exact this)
    have HLB2 := hide (show L2.length ≤ 64 by have := difR_len l0 l2; rw [hR2] at this; exact this)
    clear hR1 hR2 hv hk1 hk2 hc1 hc2 b0 b1 b2
    go_enter Try.func3, Try.ntmps3
    go_wp2_with fail
    refine (wawake_yes w).mono ?_
    rintro e w1 ⟨rfl, b1⟩
    have B1 := hide b1
    clear b1
    have S_0 := hide (HA0.out.keep B1.out)
    have S_1 := hide (HA1.out.keep B1.out)
    have S_2 := hide (HA2.out.keep B1.out)
    go_wp2_with fail
    refine (merge_any A0 n0 c0 l0 A1 n1 c1 l1 A2 n2 c2 l2 w1 S_0.out S_1.out S_2.out (by omega) (by omega) (by omega)).mono ?_
    rintro e w11 h
    obtain ⟨A_m, c_m, n_m, A_x, c_x, n_x, rfl, hn, hn2, s, s2, b⟩ := givM_is HRM.out h
    have hn_m : n_m ≤ 100 := Nat.le_trans (by rw [← hn]; exact ((show ([] : List Ent).length ≤ 64 ∧ ([] : List Int).length ≤ 64 from ⟨Nat.zero_le _, Nat.zero_le _⟩)).1) (by decide)
    have hn_x : n_x ≤ 100 := Nat.le_trans (by rw [← hn2]; exact ((show ([] : List Ent).length ≤ 64 ∧ ([] : List Int).length ≤ 64 from ⟨Nat.zero_le _, Nat.zero_le _⟩)).2) (by decide)
    have S_0 := hide (S_0.out.keep b)
    have S_1 := hide (S_1.out.keep b)
    have S_2 := hide (S_2.out.keep b)
    have B2 := hide (Below.next B1.out b)
    have S_m := hide s
    have S_x := hide s2
    have HL_m := hide hn
    have HL_x := hide hn2
    clear h hn hn2 s s2 b
    obtain rfl : n_m = 0 := by have h5 := HL_m.out; rw [← h5]; rfl
    go_wp2_with fail
    refine (diff_any A0 n0 c0 l0 A1 n1 c1 l1 w11 S_0.out S_1.out (by omega) (by omega)).mono ?_
    rintro e w12 h
    obtain ⟨A_c, c_c, n_c, rfl, hn, s, b⟩ := giv_is HR1.out h
    have hn_c : n_c ≤ 100 := Nat.le_trans (by rw [← hn]; exact HLB1.out) (by decide)
    have S_0 := hide (S_0.out.keep b)
    have S_1 := hide (S_1.out.keep b)
    have S_2 := hide (S_2.out.keep b)
    have S_m := hide (S_m.out.keep b)
    have S_x := hide (S_x.out.keep b)
    have B3 := hide (Below.next B2.out b)
    have S_c := hide s
    have HL_c := hide hn
    clear h hn s b
    go_wp2_with fail
    refine (diff_any A0 n0 c0 l0 A2 n2 c2 l2 w12 S_0.out S_2.out (by omega) (by omega)).mono ?_
    rintro e w13 h
    obtain ⟨A_d, c_d, n_d, rfl, hn, s, b⟩ := giv_is HR2.out h
    have hn_d : n_d ≤ 100 := Nat.le_trans (by rw [← hn]; exact HLB2.out) (by decide)
    have S_0 := hide (S_0.out.keep b)
    have S_1 := hide (S_1.out.keep b)
    have S_2 := hide (S_2.out.keep b)
    have S_m := hide (S_m.out.keep b)
    have S_x := hide (S_x.out.keep b)
    have S_c := hide (S_c.out.keep b)
    have B4 := hide (Below.next B3.out b)
    have S_d := hide s
    have HL_d := hide hn
    clear h hn s b
    go_wp2_with fail
    go_ret
    exact ⟨rfl, B4.out⟩

theorem who_all (A0 : Option Addr) (n0 c0 : Nat) (l0 : List Ent) (A1 : Option Addr) (n1 c1 : Nat) (l1 : List Ent) (A2 : Option Addr) (n2 c2 : Nat) (l2 : List Ent) (w : World) (ha0 : SL eE w A0 n0 l0) (ha1 : SL eE w A1 n1 l1) (ha2 : SL eE w A2 n2 l2) : Calls Try.prog 3 #[.slice A0 n0 c0, .slice A1 n1 c1, .slice A2 n2 c2] w fun e w' => e = .returned (.bool true) ∧ Below w.heap.size w w' := by
  by_cases h0 : n0 ≤ 20
  · by_cases h1 : n1 ≤ 20
    · by_cases h2 : n2 ≤ 20
      · exact who_main A0 n0 c0 l0 A1 n1 c1 l1 A2 n2 c2 l2 w ha0 ha1 ha2 h0 h1 h2
      · exact who_few2 A0 n0 c0 A1 n1 c1 A2 n2 c2 w h0 h1 h2
    · exact who_few1 A0 n0 c0 A1 n1 c1 A2 n2 c2 w h0 h1
  · exact who_few0 A0 n0 c0 A1 n1 c1 A2 n2 c2 w h0
end Go.Proofs.Ytlnajliobebgdaa
