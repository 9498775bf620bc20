/- The reference's Expand. -/
import Derived.Test.YtdoknlodnpeeoaaDoorLRNu
namespace Go.Proofs.YtdoknlodnpeeoaaDoor
open Go Go.RowKit Go.Lib

theorem skipD_yes {c : UInt8} (l : List UInt8) (h : dg c = true) : skipD (c :: l) = skipD l := by
  conv => lhs; unfold skipD
  rw [if_pos h]
theorem skipD_no {c : UInt8} (l : List UInt8) (h : dg c = false) : skipD (c :: l) = c :: l := by
  unfold skipD
  rw [if_neg (by rw [h]; decide)]
theorem skipN_yes {c : UInt8} (l : List UInt8) (h : dg c = true) : skipN (c :: l) = c :: l := by
  unfold skipN
  rw [if_pos h]
theorem drop_atN {l : List Nat} {i : Nat} {c : Nat} (h : l[i]? = some c) : l.drop i = c :: l.drop (i + 1) := by
  obtain ⟨hj, e⟩ := List.getElem?_eq_some_iff.1 h
  rw [List.drop_eq_getElem_cons hj, e]
theorem drop_size (s : ByteArray) : s.data.toList.drop s.size = [] := List.drop_of_length_le (by rw [← Lib.size_eq]; exact Nat.le_refl _)
theorem fillR_ne {e : Nat} (es : List Nat) (c : UInt8) (r : List UInt8) (h : c.toNat ≠ 45) : fillR e es (c :: r) = [] := by
  rcases es with _ | ⟨x, es⟩
  · rfl
  · exact if_neg h
theorem fillR_nil (e : Nat) (es : List Nat) : fillR e es [] = [] := by cases es <;> rfl
set_option maxRecDepth 100000 in
set_option maxHeartbeats 32000000 in
theorem rexpand_any (s : ByteArray) (w : World) (hs : s.size ≤ 200) (xs : List Nat) (er : Int) (hr : expR s.data.toList = (xs, er)) :
    Calls Tryd.prog 24 #[.string s] w (GivesL5 xs er w) := by
  have HRR := hide hr
  have HZ := hide (Lib.size_eq s)
  obtain ⟨E, hE⟩ : ∃ E, rnums false s.data.toList = E := ⟨_, rfl⟩
  have HEL := hide (show E.length ≤ 100 from by
    have h := rnums_len s.data.toList false
    rw [hE, if_neg (by decide), ← Lib.size_eq] at h
    omega)
  have HELT := hide (show ∀ x ∈ E, x < 1000 from by rw [← hE]; exact rnums_lt _ _)
  obtain ⟨R, hR⟩ : ∃ R, routL s.data.toList = R := ⟨_, rfl⟩
  have HR := hide (show rout E s.data.toList = R from by rw [← hR, ← hE]; rfl)
  have HRT := hide hR
  have HE := hide hE
  clear hr hE hR
  go_enter Tryd.func24, Tryd.ntmps24
  go_wp2_with fail
  refine (rnumbers_any s _ (by omega) E HE.out).mono ?_
  rintro e x1 ⟨AE, N, cE, rfl, hE1, B1⟩
  have hN := hE1.len
  have hN1 := HEL.out
  have hN9 : N ≤ 100 := by omega
  have HERL := hide hE1.rl
  have HB1 := hide B1
  have HEN := hide hN
  clear hE1 B1 hN hN1
  go_wp2_with fail
  go_loopw [4, 6, 7] (fun v4 v6 v7 wr => ∃ (i m n c : Nat) (A : Option Addr) (us : List Nat), i ≤ N ∧ m ≤ s.size ∧ n ≤ 1000 * i ∧ v7 = .int .i64 ((i : Nat) : Int) ∧ v6 = .int .i64 ((m : Nat) : Int) ∧ v4 = .slice A n c ∧ Hid (IR wr x1.heap.size A n c us) ∧ Hid (Below x1.heap.size x1 wr) ∧ Hid (us ++ rout (E.drop i) (s.data.toList.drop m) = R)) (fun _ _ v7 _ => N - (RowKit.intOf v7).toNat)
  case atStart => exact ⟨0, 0, 0, 0, none, [], Nat.zero_le _, Nat.zero_le _, Nat.zero_le _, rfl, rfl, rfl, hide IR.nil_, hide (Below.refl _ _), hide (by rw [List.drop_zero, List.drop_zero]; exact HR.out)⟩
  case round =>
    obtain ⟨i, m, n, c, A, us, hi, hm, hn, rfl, rfl, rfl, H1, HB, HU⟩ := hrel
    generalize hwr : wr = W at *
    clear hwr
    by_cases hlt : i < N
    · have d0 : decide ((i : Int) < (N : Int)) = true := decide_eq_true (by omega)
      have hwi : IntKind.i64.wrap ((i : Int) + 1) = (i : Int) + 1 := IntWalk.i64_in _ (by omega)
      obtain ⟨bE, oE, rfl, hcE⟩ := HERL.out.2 (by omega)
      have HCE := hide (show ∀ W', Below x1.heap.size x1 W' → ∀ (j u : Nat), E[j]? = some u → W'.cell? ⟨bE, oE + j, none⟩ = some (.int .i64 (u : Int)) from fun W' hW j u hj => (hW.cell (p := ⟨bE, oE + j, none⟩) (World.block_lt_of_cell? x1 _ (hcE j u hj))).trans (hcE j u hj))
      clear hcE
      have hiE : i < E.length := by rw [HEN.out]; exact hlt
      obtain ⟨x, hx⟩ : ∃ x, E[i]? = some x := ⟨_, List.getElem?_eq_getElem hiE⟩
      have k0 := HCE.out W HB.out i x hx
      have hx9 := HELT.out x (List.mem_of_getElem? hx)
      have i1 : (0 : Int) ≤ (i : Int) := by omega
      have i2 : (i : Int) < (N : Int) := by omega
      have HX := hide hx
      have HU2 := hide (show (us ++ [x]) ++ (fillR x (E.drop (i + 1)) (skipD (s.data.toList.drop m)) ++ rout (E.drop (i + 1)) (skipN (skipD (s.data.toList.drop m)))) = R from by
        have h := HU.out
        rw [drop_atN hx] at h
        conv at h => lhs; unfold rout
        rw [List.append_assoc]
        exact h)
      have F : Below W.heap.size W (W.alloc (.cells #[.int .i64 (x : Int)] 3)) := (Below.refl _ _).alloc (Nat.le_refl _) _
      have hB := HB.out
      have HG := hide (show x1.heap.size ≤ (W.alloc (.cells #[.int .i64 (x : Int)] 3)).heap.size from Nat.le_trans hB.size F.size)
      have hwx : IntKind.i64.wrap ((x : Int) + 1) = (x : Int) + 1 := IntWalk.i64_in _ (by omega)
      clear hB hx hiE HU
      go_wp2_with (at_builtin; refine wpList_append_ir rfl _ _ 34 rfl 8 Tryd.underlying34 int_info x1.heap.size A n c us rfl (H1.out.below F) W.heap.size 0 1 x rfl (Box.new W #[.int .i64 (x : Int)] 3).cell (by omega) (n + 1) rfl (by omega) HG.out ?_; intro A8 c8 w8 hr8 hG8)
      have HI8 := hide hr8
      have HB8 := hide ((HB.out.trans (F.mono HB.out.size)).trans hG8.1)
      clear hr8 hG8 HG F H1 k0 HB
      have k8 := HCE.out w8 HB8.out i x HX.out
      go_loop [6] (fun v6 => ∃ m2 : Nat, m2 ≤ s.size ∧ v6 = .int .i64 ((m2 : Nat) : Int) ∧ Hid (skipD (s.data.toList.drop m2) = skipD (s.data.toList.drop m))) (fun v6 => s.size - (RowKit.intOf v6).toNat)
      case atStart => exact ⟨m, hm, rfl, hide rfl⟩
      case round =>
        clear hm
        obtain ⟨m2, hm2, rfl, HK⟩ := hrel
        have i3 : (0 : Int) ≤ (m2 : Int) := by omega
        by_cases hl2 : m2 < s.size
        · have d1 : decide ((m2 : Int) < (s.size : Int)) = true := decide_eq_true (by omega)
          have hwm : IntKind.i64.wrap ((m2 : Int) + 1) = (m2 : Int) + 1 := IntWalk.i64_in _ (by omega)
          have HD := hide (drop_atB (at_some s m2 hl2))
          by_cases h4 : 48 ≤ s[m2].toNat
          · have d2 : decide ((48 : Int) ≤ (s[m2].toNat : Int)) = true := decide_eq_true (by omega)
            by_cases h5 : s[m2].toNat ≤ 57
            · have d3 : decide ((s[m2].toNat : Int) ≤ 57) = true := decide_eq_true (by omega)
              have HK2 := hide (show skipD (s.data.toList.drop (m2 + 1)) = skipD (s.data.toList.drop m) from by
                rw [← HK.out, HD.out, skipD_yes _ (dg_true.2 ⟨h4, h5⟩)])
              clear HK HD
              go_wp2_with fail
              go_round
              case rel => exact ⟨m2 + 1, by omega, by go_num, HK2⟩
              case measure => simp [RowKit.intOf]; omega
            · have d3 : decide ((s[m2].toNat : Int) ≤ 57) = false := decide_eq_false (by omega)
              have c1 : ((s[m2].toNat : Int) == 45) = false := beq_eq_false_iff_ne.2 (by omega)
              have HK2 := hide (show s.data.toList.drop m2 = skipD (s.data.toList.drop m) from by
                rw [← HK.out, HD.out, skipD_no _ (dg_false.2 (by omega))])
              have HU3 := hide (show (us ++ [x]) ++ rout (E.drop (i + 1)) (skipN (s.data.toList.drop m2)) = R from by
                have h := HU2.out
                rw [← HK2.out, HD.out, fillR_ne _ _ _ (by omega), ← HD.out, List.nil_append] at h
                exact h)
              clear HU2 HK2
              go_wp2_with fail
              go_loop [6] (fun v6 => ∃ m3 : Nat, m3 ≤ s.size ∧ v6 = .int .i64 ((m3 : Nat) : Int) ∧ Hid (skipN (s.data.toList.drop m3) = skipN (s.data.toList.drop m2))) (fun v6 => s.size - (RowKit.intOf v6).toNat)
              case atStart => exact ⟨m2, hm2, rfl, hide rfl⟩
              case round =>
                clear hm2
                obtain ⟨m3, hm3, rfl, HK3⟩ := hrel
                have j3 : (0 : Int) ≤ (m3 : Int) := by omega
                by_cases hl3 : m3 < s.size
                · have dd0 : decide ((m3 : Int) < (s.size : Int)) = true := decide_eq_true (by omega)
                  have hwm3 : IntKind.i64.wrap ((m3 : Int) + 1) = (m3 : Int) + 1 := IntWalk.i64_in _ (by omega)
                  have HD3 := hide (drop_atB (at_some s m3 hl3))
                  by_cases g4 : s[m3].toNat < 48
                  · have dd1 : decide ((s[m3].toNat : Int) < 48) = true := decide_eq_true (by omega)
                    have HK4 := hide (show skipN (s.data.toList.drop (m3 + 1)) = skipN (s.data.toList.drop m2) from by
                      rw [← HK3.out, HD3.out, skipN_no _ (dg_false.2 (by omega))])
                    clear HK3 HD3
                    go_wp2_with fail
                    go_round
                    case rel => exact ⟨m3 + 1, by omega, by go_num, HK4⟩
                    case measure => simp [RowKit.intOf]; omega
                  · have dd1 : decide ((s[m3].toNat : Int) < 48) = false := decide_eq_false (by omega)
                    by_cases g5 : 57 < s[m3].toNat
                    · have dd2 : decide ((57 : Int) < (s[m3].toNat : Int)) = true := decide_eq_true (by omega)
                      have HK4 := hide (show skipN (s.data.toList.drop (m3 + 1)) = skipN (s.data.toList.drop m2) from by
                        rw [← HK3.out, HD3.out, skipN_no _ (dg_false.2 (by omega))])
                      clear HK3 HD3
                      go_wp2_with fail
                      go_round
                      case rel => exact ⟨m3 + 1, by omega, by go_num, HK4⟩
                      case measure => simp [RowKit.intOf]; omega
                    · have dd2 : decide ((57 : Int) < (s[m3].toNat : Int)) = false := decide_eq_false (by omega)
                      have HU4 := hide (show us ++ [x] ++ rout (E.drop (i + 1)) (s.data.toList.drop m3) = R from by
                        have h := HU3.out
                        rw [← HK3.out, HD3.out, skipN_yes _ (dg_true.2 (by omega)), ← HD3.out] at h
                        exact h)
                      clear HK3 HD3
                      go_wp2_with fail
                      go_roundw
                      case rel => exact ⟨i + 1, m3, n + 1, c8, A8, us ++ [x], by omega, by omega, by omega, by go_num, rfl, rfl, HI8, HB8, HU4⟩
                      case measure => simp [RowKit.intOf]; omega
                · obtain rfl : m3 = s.size := by omega
                  have dd0 : decide ((s.size : Int) < (s.size : Int)) = false := decide_eq_false (by omega)
                  have HU4 := hide (show us ++ [x] ++ rout (E.drop (i + 1)) (s.data.toList.drop s.size) = R from by
                    have h := HU3.out
                    rw [← HK3.out, drop_size] at h
                    rw [drop_size]
                    exact h)
                  clear HK3
                  go_wp2_with fail
                  go_roundw
                  case rel => exact ⟨i + 1, s.size, n + 1, c8, A8, us ++ [x], by omega, by omega, by omega, by go_num, rfl, rfl, HI8, HB8, HU4⟩
                  case measure => simp [RowKit.intOf]; omega
          · have d2 : decide ((48 : Int) ≤ (s[m2].toNat : Int)) = false := decide_eq_false (by omega)
            have HK2 := hide (show s.data.toList.drop m2 = skipD (s.data.toList.drop m) from by
              rw [← HK.out, HD.out, skipD_no _ (dg_false.2 (by omega))])
            by_cases h6 : s[m2].toNat = 45
            · have c1 : ((s[m2].toNat : Int) == 45) = true := beq_iff_eq.2 (by omega)
              by_cases hl : i + 1 < N
              · have d4 : decide ((i : Int) + 1 < (N : Int)) = true := decide_eq_true (by omega)
                have hjE : i + 1 < E.length := by rw [HEN.out]; exact hl
                obtain ⟨y, hy⟩ : ∃ y, E[i + 1]? = some y := ⟨_, List.getElem?_eq_getElem hjE⟩
                have hy9 := HELT.out y (List.mem_of_getElem? hy)
                have HY := hide hy
                have i5 : (0 : Int) ≤ (i : Int) + 1 := by omega
                have i6 : (i : Int) + 1 < (N : Int) := by omega
                have HU5 := hide (show (us ++ [x]) ++ (uptoL (x + 1) (y - (x + 1)) ++ rout (E.drop (i + 1)) (skipN (s.data.toList.drop m2))) = R from by
                  have h := HU2.out
                  rw [← HK2.out] at h
                  have hf : fillR x (E.drop (i + 1)) (s.data.toList.drop m2) = uptoL (x + 1) (y - (x + 1)) := by
                    rw [drop_atN hy, HD.out]
                    exact if_pos h6
                  rw [hf] at h
                  exact h)
                clear HU2 HK2 HK HD h6 hy hjE
                go_wp2_with fail
                go_loopw [4, 8] (fun v4 v8 wr => ∃ (k q c3 : Nat) (A3 : Option Addr), k ≤ y - (x + 1) ∧ q = n + 1 + k ∧ v8 = .int .i64 ((x + 1 + k : Nat) : Int) ∧ v4 = .slice A3 q c3 ∧ Hid (IR wr x1.heap.size A3 q c3 ((us ++ [x]) ++ uptoL (x + 1) k)) ∧ Hid (Below x1.heap.size x1 wr)) (fun _ v8 _ => y - (RowKit.intOf v8).toNat)
                case atStart => exact ⟨0, n + 1, c8, A8, Nat.zero_le _, rfl, by go_num, rfl, hide (by rw [show uptoL (x + 1) 0 = [] from rfl, List.append_nil]; exact HI8.out), HB8⟩
                case round =>
                  clear k8 HI8 HB8
                  obtain ⟨k, q, c3, A3, hk, hq, rfl, rfl, H3, HB3⟩ := hrel
                  generalize hwr : wr = W3 at *
                  clear hwr
                  have k3 : W3.cell? ⟨bE, oE + (i + 1), none⟩ = some (.int .i64 (y : Int)) := HCE.out W3 HB3.out (i + 1) y HY.out
                  obtain ⟨v, hv⟩ : ∃ v, x + 1 + k = v := ⟨_, rfl⟩
                  rw [hv]
                  by_cases hvy : v < y
                  · have d5 : decide ((v : Int) < (y : Int)) = true := decide_eq_true (by omega)
                    have hwv : IntKind.i64.wrap ((v : Int) + 1) = (v : Int) + 1 := IntWalk.i64_in _ (by omega)
                    have F : Below W3.heap.size W3 (W3.alloc (.cells #[.int .i64 (v : Int)] 3)) := (Below.refl _ _).alloc (Nat.le_refl _) _
                    have hB := HB3.out
                    have HG := hide (show x1.heap.size ≤ (W3.alloc (.cells #[.int .i64 (v : Int)] 3)).heap.size from Nat.le_trans hB.size F.size)
                    have HV := hide hv
                    have HQ := hide hq
                    clear hB hv hq
                    go_wp2_with (at_builtin; refine wpList_append_ir rfl _ _ 34 rfl 8 Tryd.underlying34 int_info x1.heap.size A3 q c3 _ rfl (H3.out.below F) W3.heap.size 0 1 v rfl (Box.new W3 #[.int .i64 (v : Int)] 3).cell (by omega) (q + 1) rfl (by have := HQ.out; have := HV.out; omega) HG.out ?_; intro A9 c9 w9 hr9 hG9)
                    go_roundw
                    case rel => exact ⟨k + 1, q + 1, c9, A9, by have := HV.out; omega, by have := HQ.out; omega, by have := HV.out; go_num, rfl, hide (by rw [List.append_assoc, ← HV.out] at hr9; exact hr9), hide ((HB3.out.trans (F.mono HB3.out.size)).trans hG9.1)⟩
                    case measure => have := HV.out; simp [RowKit.intOf]; omega
                  · have d5 : decide ((v : Int) < (y : Int)) = false := decide_eq_false (by omega)
                    have hke : k = y - (x + 1) := by omega
                    have HU3 := hide (show ((us ++ [x]) ++ uptoL (x + 1) k) ++ rout (E.drop (i + 1)) (skipN (s.data.toList.drop m2)) = R from by
                      rw [List.append_assoc, hke]
                      exact HU5.out)
                    have HQ := hide (show q = n + 1 + k ∧ k ≤ 998 from ⟨hq, by omega⟩)
                    clear HU5 hke hv hq hk
                    go_wp2_with fail
                    go_loop [6] (fun v6 => ∃ m3 : Nat, m3 ≤ s.size ∧ v6 = .int .i64 ((m3 : Nat) : Int) ∧ Hid (skipN (s.data.toList.drop m3) = skipN (s.data.toList.drop m2))) (fun v6 => s.size - (RowKit.intOf v6).toNat)
                    case atStart => exact ⟨m2, hm2, rfl, hide rfl⟩
                    case round =>
                      clear hm2
                      obtain ⟨m3, hm3, rfl, HK3⟩ := hrel
                      have j3 : (0 : Int) ≤ (m3 : Int) := by omega
                      by_cases hl3 : m3 < s.size
                      · have dd0 : decide ((m3 : Int) < (s.size : Int)) = true := decide_eq_true (by omega)
                        have hwm3 : IntKind.i64.wrap ((m3 : Int) + 1) = (m3 : Int) + 1 := IntWalk.i64_in _ (by omega)
                        have HD3 := hide (drop_atB (at_some s m3 hl3))
                        by_cases g4 : s[m3].toNat < 48
                        · have dd1 : decide ((s[m3].toNat : Int) < 48) = true := decide_eq_true (by omega)
                          have HK4 := hide (show skipN (s.data.toList.drop (m3 + 1)) = skipN (s.data.toList.drop m2) from by
                            rw [← HK3.out, HD3.out, skipN_no _ (dg_false.2 (by omega))])
                          clear HK3 HD3
                          go_wp2_with fail
                          go_round
                          case rel => exact ⟨m3 + 1, by omega, by go_num, HK4⟩
                          case measure => simp [RowKit.intOf]; omega
                        · have dd1 : decide ((s[m3].toNat : Int) < 48) = false := decide_eq_false (by omega)
                          by_cases g5 : 57 < s[m3].toNat
                          · have dd2 : decide ((57 : Int) < (s[m3].toNat : Int)) = true := decide_eq_true (by omega)
                            have HK4 := hide (show skipN (s.data.toList.drop (m3 + 1)) = skipN (s.data.toList.drop m2) from by
                              rw [← HK3.out, HD3.out, skipN_no _ (dg_false.2 (by omega))])
                            clear HK3 HD3
                            go_wp2_with fail
                            go_round
                            case rel => exact ⟨m3 + 1, by omega, by go_num, HK4⟩
                            case measure => simp [RowKit.intOf]; omega
                          · have dd2 : decide ((57 : Int) < (s[m3].toNat : Int)) = false := decide_eq_false (by omega)
                            have HU4 := hide (show (us ++ [x]) ++ uptoL (x + 1) k ++ rout (E.drop (i + 1)) (s.data.toList.drop m3) = R from by
                              have h := HU3.out
                              rw [← HK3.out, HD3.out, skipN_yes _ (dg_true.2 (by omega)), ← HD3.out] at h
                              exact h)
                            clear HK3 HD3
                            go_wp2_with fail
                            go_roundw
                            case rel => exact ⟨i + 1, m3, q, c3, A3, (us ++ [x]) ++ uptoL (x + 1) k, by omega, by omega, by have := HQ.out; omega, by go_num, rfl, rfl, H3, HB3, HU4⟩
                            case measure => simp [RowKit.intOf]; omega
                      · obtain rfl : m3 = s.size := by omega
                        have dd0 : decide ((s.size : Int) < (s.size : Int)) = false := decide_eq_false (by omega)
                        have HU4 := hide (show (us ++ [x]) ++ uptoL (x + 1) k ++ rout (E.drop (i + 1)) (s.data.toList.drop s.size) = R from by
                          have h := HU3.out
                          rw [← HK3.out, drop_size] at h
                          rw [drop_size]
                          exact h)
                        clear HK3
                        go_wp2_with fail
                        go_roundw
                        case rel => exact ⟨i + 1, s.size, q, c3, A3, (us ++ [x]) ++ uptoL (x + 1) k, by omega, by omega, by have := HQ.out; omega, by go_num, rfl, rfl, H3, HB3, HU4⟩
                        case measure => simp [RowKit.intOf]; omega
              · have d4 : decide ((i : Int) + 1 < (N : Int)) = false := decide_eq_false (by omega)
                have HNIL := hide (show E.drop (i + 1) = [] from List.drop_of_length_le (by rw [HEN.out]; omega))
                have HU3 := hide (show (us ++ [x]) ++ rout (E.drop (i + 1)) (skipN (s.data.toList.drop m2)) = R from by
                  have h := HU2.out
                  rw [← HK2.out, (show fillR x (E.drop (i + 1)) (s.data.toList.drop m2) = [] from by rw [HNIL.out]; rfl), List.nil_append] at h
                  exact h)
                clear HU2 HK2
                go_wp2_with fail
                go_loop [6] (fun v6 => ∃ m3 : Nat, m3 ≤ s.size ∧ v6 = .int .i64 ((m3 : Nat) : Int) ∧ Hid (skipN (s.data.toList.drop m3) = skipN (s.data.toList.drop m2))) (fun v6 => s.size - (RowKit.intOf v6).toNat)
                case atStart => exact ⟨m2, hm2, rfl, hide rfl⟩
                case round =>
                  clear hm2
                  obtain ⟨m3, hm3, rfl, HK3⟩ := hrel
                  have j3 : (0 : Int) ≤ (m3 : Int) := by omega
                  by_cases hl3 : m3 < s.size
                  · have dd0 : decide ((m3 : Int) < (s.size : Int)) = true := decide_eq_true (by omega)
                    have hwm3 : IntKind.i64.wrap ((m3 : Int) + 1) = (m3 : Int) + 1 := IntWalk.i64_in _ (by omega)
                    have HD3 := hide (drop_atB (at_some s m3 hl3))
                    by_cases g4 : s[m3].toNat < 48
                    · have dd1 : decide ((s[m3].toNat : Int) < 48) = true := decide_eq_true (by omega)
                      have HK4 := hide (show skipN (s.data.toList.drop (m3 + 1)) = skipN (s.data.toList.drop m2) from by
                        rw [← HK3.out, HD3.out, skipN_no _ (dg_false.2 (by omega))])
                      clear HK3 HD3
                      go_wp2_with fail
                      go_round
                      case rel => exact ⟨m3 + 1, by omega, by go_num, HK4⟩
                      case measure => simp [RowKit.intOf]; omega
                    · have dd1 : decide ((s[m3].toNat : Int) < 48) = false := decide_eq_false (by omega)
                      by_cases g5 : 57 < s[m3].toNat
                      · have dd2 : decide ((57 : Int) < (s[m3].toNat : Int)) = true := decide_eq_true (by omega)
                        have HK4 := hide (show skipN (s.data.toList.drop (m3 + 1)) = skipN (s.data.toList.drop m2) from by
                          rw [← HK3.out, HD3.out, skipN_no _ (dg_false.2 (by omega))])
                        clear HK3 HD3
                        go_wp2_with fail
                        go_round
                        case rel => exact ⟨m3 + 1, by omega, by go_num, HK4⟩
                        case measure => simp [RowKit.intOf]; omega
                      · have dd2 : decide ((57 : Int) < (s[m3].toNat : Int)) = false := decide_eq_false (by omega)
                        have HU4 := hide (show us ++ [x] ++ rout (E.drop (i + 1)) (s.data.toList.drop m3) = R from by
                          have h := HU3.out
                          rw [← HK3.out, HD3.out, skipN_yes _ (dg_true.2 (by omega)), ← HD3.out] at h
                          exact h)
                        clear HK3 HD3
                        go_wp2_with fail
                        go_roundw
                        case rel => exact ⟨i + 1, m3, n + 1, c8, A8, us ++ [x], by omega, by omega, by omega, by go_num, rfl, rfl, HI8, HB8, HU4⟩
                        case measure => simp [RowKit.intOf]; omega
                  · obtain rfl : m3 = s.size := by omega
                    have dd0 : decide ((s.size : Int) < (s.size : Int)) = false := decide_eq_false (by omega)
                    have HU4 := hide (show us ++ [x] ++ rout (E.drop (i + 1)) (s.data.toList.drop s.size) = R from by
                      have h := HU3.out
                      rw [← HK3.out, drop_size] at h
                      rw [drop_size]
                      exact h)
                    clear HK3
                    go_wp2_with fail
                    go_roundw
                    case rel => exact ⟨i + 1, s.size, n + 1, c8, A8, us ++ [x], by omega, by omega, by omega, by go_num, rfl, rfl, HI8, HB8, HU4⟩
                    case measure => simp [RowKit.intOf]; omega
            · have c1 : ((s[m2].toNat : Int) == 45) = false := beq_eq_false_iff_ne.2 (by omega)
              have HU3 := hide (show (us ++ [x]) ++ rout (E.drop (i + 1)) (skipN (s.data.toList.drop m2)) = R from by
                have h := HU2.out
                rw [← HK2.out, HD.out, fillR_ne _ _ _ h6, ← HD.out, List.nil_append] at h
                exact h)
              clear HU2 HK2
              go_wp2_with fail
              go_loop [6] (fun v6 => ∃ m3 : Nat, m3 ≤ s.size ∧ v6 = .int .i64 ((m3 : Nat) : Int) ∧ Hid (skipN (s.data.toList.drop m3) = skipN (s.data.toList.drop m2))) (fun v6 => s.size - (RowKit.intOf v6).toNat)
              case atStart => exact ⟨m2, hm2, rfl, hide rfl⟩
              case round =>
                clear hm2
                obtain ⟨m3, hm3, rfl, HK3⟩ := hrel
                have j3 : (0 : Int) ≤ (m3 : Int) := by omega
                by_cases hl3 : m3 < s.size
                · have dd0 : decide ((m3 : Int) < (s.size : Int)) = true := decide_eq_true (by omega)
                  have hwm3 : IntKind.i64.wrap ((m3 : Int) + 1) = (m3 : Int) + 1 := IntWalk.i64_in _ (by omega)
                  have HD3 := hide (drop_atB (at_some s m3 hl3))
                  by_cases g4 : s[m3].toNat < 48
                  · have dd1 : decide ((s[m3].toNat : Int) < 48) = true := decide_eq_true (by omega)
                    have HK4 := hide (show skipN (s.data.toList.drop (m3 + 1)) = skipN (s.data.toList.drop m2) from by
                      rw [← HK3.out, HD3.out, skipN_no _ (dg_false.2 (by omega))])
                    clear HK3 HD3
                    go_wp2_with fail
                    go_round
                    case rel => exact ⟨m3 + 1, by omega, by go_num, HK4⟩
                    case measure => simp [RowKit.intOf]; omega
                  · have dd1 : decide ((s[m3].toNat : Int) < 48) = false := decide_eq_false (by omega)
                    by_cases g5 : 57 < s[m3].toNat
                    · have dd2 : decide ((57 : Int) < (s[m3].toNat : Int)) = true := decide_eq_true (by omega)
                      have HK4 := hide (show skipN (s.data.toList.drop (m3 + 1)) = skipN (s.data.toList.drop m2) from by
                        rw [← HK3.out, HD3.out, skipN_no _ (dg_false.2 (by omega))])
                      clear HK3 HD3
                      go_wp2_with fail
                      go_round
                      case rel => exact ⟨m3 + 1, by omega, by go_num, HK4⟩
                      case measure => simp [RowKit.intOf]; omega
                    · have dd2 : decide ((57 : Int) < (s[m3].toNat : Int)) = false := decide_eq_false (by omega)
                      have HU4 := hide (show us ++ [x] ++ rout (E.drop (i + 1)) (s.data.toList.drop m3) = R from by
                        have h := HU3.out
                        rw [← HK3.out, HD3.out, skipN_yes _ (dg_true.2 (by omega)), ← HD3.out] at h
                        exact h)
                      clear HK3 HD3
                      go_wp2_with fail
                      go_roundw
                      case rel => exact ⟨i + 1, m3, n + 1, c8, A8, us ++ [x], by omega, by omega, by omega, by go_num, rfl, rfl, HI8, HB8, HU4⟩
                      case measure => simp [RowKit.intOf]; omega
                · obtain rfl : m3 = s.size := by omega
                  have dd0 : decide ((s.size : Int) < (s.size : Int)) = false := decide_eq_false (by omega)
                  have HU4 := hide (show us ++ [x] ++ rout (E.drop (i + 1)) (s.data.toList.drop s.size) = R from by
                    have h := HU3.out
                    rw [← HK3.out, drop_size] at h
                    rw [drop_size]
                    exact h)
                  clear HK3
                  go_wp2_with fail
                  go_roundw
                  case rel => exact ⟨i + 1, s.size, n + 1, c8, A8, us ++ [x], by omega, by omega, by omega, by go_num, rfl, rfl, HI8, HB8, HU4⟩
                  case measure => simp [RowKit.intOf]; omega
        · obtain rfl : m2 = s.size := by omega
          have d1 : decide ((s.size : Int) < (s.size : Int)) = false := decide_eq_false (by omega)
          have HK2 := hide (show s.data.toList.drop s.size = skipD (s.data.toList.drop m) from by
            rw [← HK.out, drop_size]; rfl)
          have HU3 := hide (show (us ++ [x]) ++ rout (E.drop (i + 1)) (s.data.toList.drop s.size) = R from by
            have h := HU2.out
            rw [← HK2.out, drop_size, fillR_nil, List.nil_append] at h
            rw [drop_size]
            exact h)
          clear HU2 HK2 HK
          go_wp2_with fail
          go_loop [6] (fun v6 => v6 = .int .i64 ((s.size : Nat) : Int)) (fun v6 => s.size - (RowKit.intOf v6).toNat)
          case atStart => rfl
          case round =>
            obtain rfl := hrel
            go_wp2_with fail
            go_roundw
            case rel => exact ⟨i + 1, s.size, n + 1, c8, A8, us ++ [x], by omega, by omega, by omega, by go_num, rfl, rfl, HI8, HB8, HU3⟩
            case measure => simp [RowKit.intOf]; omega
    · obtain rfl : i = N := by omega
      have d0 : decide ((i : Int) < (i : Int)) = false := decide_eq_false (by omega)
      have hus : us = R := by
        have h := HU.out
        rw [List.drop_of_length_le (by rw [HEN.out]; exact Nat.le_refl _)] at h
        have h2 : rout [] (s.data.toList.drop m) = [] := rfl
        rw [h2, List.append_nil] at h
        exact h
      subst hus
      have HXR := hide (show expR s.data.toList = if setB 1000 1 (ints5 us) = true ∧ runsT (ints5 us) = s then (us, 0) else ([], 3) from by
        have h := exp_rout s.data.toList
        rw [HRT.out, strB_data] at h
        exact h)
      clear HU
      obtain ⟨S, hS⟩ : ∃ S, runT (ints5 us) = S := ⟨_, rfl⟩
      obtain ⟨r, hr⟩ : ∃ r, runE (ints5 us) = r := ⟨_, rfl⟩
      have HS := hide hS
      have HRE := hide hr
      clear hS hr
      have hln := H1.out.len
      go_wp2_with fail
      refine (rruns_all A n c (ints5 us) _ (rl_il H1.out.rl) (Nat.le_trans H1.out.le.1 H1.out.le.2) S r HS.out HRE.out).mono ?_
      rintro e x2 ⟨rfl, hb2⟩
      have HBF := hide (HB1.out.trans ((HB.out.trans (hb2.mono HB.out.size)).mono HB1.out.size))
      have HIF := hide (H1.out.below hb2)
      clear hb2
      rcases hb : setB 1000 1 (ints5 us) with _ | _
      · have hre := HRE.out
        unfold runE at hre
        rw [hb, if_neg (by decide)] at hre
        subst hre
        have hx := HXR.out
        rw [HRR.out, if_neg (by rw [hb]; rintro ⟨h, -⟩; exact absurd h (by decide))] at hx
        injection hx with q1 q2
        subst q1; subst q2
        clear hb
        go_wp2_with fail
        refine bodyPost_ret (v := .tuple #[.slice none 0 0, .int .i64 3]) (by simp [results, Tryd.results24, go_sem, *]) rfl ?_
        exact ⟨⟨none, 0, rfl, RL.nil_, Nat.le_refl _, by simp [maxLen]⟩, HBF.out⟩
      · have hre := HRE.out
        unfold runE at hre
        rw [hb, if_pos rfl] at hre
        subst hre
        have hsr : runsT (ints5 us) = S := by
          have h := HS.out
          unfold runT at h
          rw [hb, if_pos rfl] at h
          exact h
        have hx := HXR.out
        rw [hsr] at hx
        by_cases hc : S = s
        · rw [HRR.out, if_pos ⟨hb, hc⟩] at hx
          injection hx with q1 q2
          subst q1; subst q2
          subst hc
          subst hln
          clear hb hsr
          go_wp2_with fail
          refine bodyPost_ret (v := .tuple #[.slice A xs.length c, .int .i64 0]) (by simp [results, Tryd.results24, go_sem, *]) rfl ?_
          exact ⟨⟨A, c, rfl, HIF.out.rl, HIF.out.le.1, HIF.out.le.2⟩, HBF.out⟩
        · rw [HRR.out, if_neg (fun h => hc h.2)] at hx
          injection hx with q1 q2
          subst q1; subst q2
          have ne : (S.toList == s.toList) = false := beq_eq_false_iff_ne.2 fun h => hc (toList_inj h)
          clear hb hsr hc
          go_wp2_with fail
          refine bodyPost_ret (v := .tuple #[.slice none 0 0, .int .i64 3]) (by simp [results, Tryd.results24, go_sem, *]) rfl ?_
          exact ⟨⟨none, 0, rfl, RL.nil_, Nat.le_refl _, by simp [maxLen]⟩, HBF.out⟩
end Go.Proofs.YtdoknlodnpeeoaaDoor
