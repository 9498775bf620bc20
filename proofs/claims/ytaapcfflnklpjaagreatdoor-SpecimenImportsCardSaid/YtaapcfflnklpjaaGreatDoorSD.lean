/- The text of a specimen, the reference's. -/
import Derived.Test.YtaapcfflnklpjaaGreatDoorSC
namespace Go.Proofs.YtaapcfflnklpjaaGreatDoor
open Go Go.RowKit Go.Lib
set_option maxHeartbeats 2000000 in
theorem rdec_any (n : Int) (m : Nat) (h : n = m) (h2 : m ≤ 999999) (w : World) (S : ByteArray) (hS : strB (Lib.decDigits m) = S) :
    Calls Tryz.prog 46 #[.int .i64 n] w fun e w' => e = .returned (.string S) ∧ Below w.heap.size w w' := by
  subst h
  have hu : strN (asc m) = S := by rw [str_asc]; exact hS
  have HU := hide hu
  have hw : IntKind.u64.wrap (m : Int) = (m : Int) := by simp [IntKind.wrap, IntKind.bits, IntKind.signed]; omega
  have hl : (dig B9 m).length ≤ 1 := (dig_length_le B9 (by decide) 1 m).2 (by rw [Nat.pow_one]; show m < 1000000000; clear hw; omega)
  have HL := hide hl
  clear hS hu hl
  go_enter Tryz.func46, Tryz.ntmps46
  go_wp2_with fail
  refine (rof_any m _ (by omega)).mono ?_
  rintro e w1 ⟨A, n, c, rfl, hr, hn, hc, hb⟩
  have hln := hr.len
  go_wp2_with fail
  refine (rtext_g A n c _ _ hr hn hc (by have := HL.out; omega) (fun x hx => Nat.lt_trans (dig_lt B9 (by decide) m x hx) (by decide)) m (val_dig B9 (by decide) m) S HU.out).mono ?_
  rintro e w2 ⟨rfl, hb2⟩
  go_wp2_with fail
  go_ret
  exact ⟨rfl, hb.trans (hb2.mono hb.size)⟩
def strZ : Value → Nat
  | .string X => 4 - X.size
  | _ => 0
theorem ex_left (X : ByteArray) (q d : List UInt8) (h : X = strB (q ++ d)) (k : Nat) (hk : q.length = k) : X.extract 0 k = strB q := by
  subst h
  subst hk
  have : ((strB (q ++ d)).extract 0 q.length).data.toList = q := by rw [Lib.extract_from_zero, data_strB]; simp
  rw [← strB_data ((strB (q ++ d)).extract 0 q.length), this]
theorem ex_right (X : ByteArray) (q d : List UInt8) (h : X = strB (q ++ d)) (k n : Nat) (hk : q.length = k) (hn : X.size = n) : X.extract k n = strB d := by
  subst hn
  subst hk
  have : (X.extract q.length X.size).data.toList = d := by rw [Lib.extract_to_end, h, data_strB]; simp
  rw [← strB_data (X.extract q.length X.size), this]
set_option maxHeartbeats 4000000 in
theorem rgrams_any (n : Int) (m : Nat) (h : n = m) (h2 : m ≤ 200000) (w : World) (S : ByteArray) (hS : strB (gramL m) = S) :
    Calls Tryz.prog 47 #[.int .i64 n] w fun e w' => e = .returned (.string S) ∧ Below w.heap.size w w' := by
  subst h
  have H2 := hide h2
  have HS := hide hS
  have hl0 : 1 ≤ (Lib.decDigits m).length := by
    rcases hd : Lib.decDigits m with _ | ⟨c, r⟩
    · exact absurd hd (dec_ne m)
    · simp
  have HL0 := hide hl0
  have hl6 : (Lib.decDigits m).length ≤ 6 := by
    by_cases h4 : 1000 ≤ m
    · rw [dec_big h4]
      have := dec_short3 (u := m / 1000) (by omega)
      simp [d3]
      omega
    · have := dec_short3 (u := m) (by omega)
      omega
  have HL6 := hide hl6
  clear h2 hS hl0 hl6
  go_enter Tryz.func47, Tryz.ntmps47
  go_wp2_with fail
  refine (rdec_any _ m rfl (by have := H2.out; omega) _ (strB (Lib.decDigits m)) rfl).mono ?_
  rintro e w1 ⟨rfl, E1⟩
  go_wp2_with fail
  go_loop [3] (fun v => ∃ X : ByteArray, v = .string X ∧ X.size ≤ 6 ∧ Hid (∃ j, X = strB (List.replicate j 48 ++ Lib.decDigits m) ∧ (j = 0 ∨ X.size ≤ 4))) (fun v => strZ v)
  case atStart => exact ⟨_, rfl, by rw [strB_size]; exact HL6.out, hide ⟨0, rfl, .inl rfl⟩⟩
  case round =>
    obtain ⟨X, rfl, hz6, HJ⟩ := hrel
    by_cases h4 : X.size < 4
    · have d0 : decide ((X.size : Int) < 4) = true := decide_eq_true (by omega)
      have A1 := add_run ⟨#[48]⟩ X (by rw [show (⟨#[48]⟩ : ByteArray).size = 1 from rfl]; omega)
      have z1 : ((⟨#[48]⟩ : ByteArray) ++ X).size = 1 + X.size := by rw [ByteArray.size_append]; rfl
      have HZ := hide z1
      clear z1
      go_wp2_with fail
      go_round
      case rel =>
        refine ⟨_, rfl, by rw [HZ.out]; omega, hide ?_⟩
        obtain ⟨j, hj, _⟩ := HJ.out
        refine ⟨j + 1, ?_, .inr (by rw [HZ.out]; omega)⟩
        rw [hj, show (⟨#[48]⟩ : ByteArray) = strB [48] from rfl, strB_app]
        rfl
      case measure => simp only [strZ, HZ.out]; omega
    · have d0 : decide ((X.size : Int) < 4) = false := decide_eq_false (by omega)
      have hX : X = strB (Lib.decDigits (m / 1000) ++ d3 (m % 1000)) := by
        obtain ⟨j, hj, hor⟩ := HJ.out
        rw [← dec_pad4]
        have hz := congrArg ByteArray.size hj
        rw [strB_size, List.length_append, List.length_replicate] at hz
        have : j = 4 - (Lib.decDigits m).length := by omega
        rw [← this]
        exact hj
      have hq : (Lib.decDigits (m / 1000)).length + 3 = X.size := by
        have hz := congrArg ByteArray.size hX
        rw [strB_size, List.length_append] at hz
        rw [hz]
        rfl
      obtain ⟨Q, hQ⟩ : ∃ Q, strB (Lib.decDigits (m / 1000)) = Q := ⟨_, rfl⟩
      obtain ⟨D, hD⟩ : ∃ D, strB (d3 (m % 1000)) = D := ⟨_, rfl⟩
      have zQ : Q.size ≤ 3 := by rw [← hQ, strB_size]; omega
      have zD : D.size = 3 := by rw [← hD, strB_size]; rfl
      have zp : (Q ++ (⟨#[46]⟩ : ByteArray)).size = Q.size + 1 := by rw [ByteArray.size_append]; rfl
      have A1 := fun (W : World) => add_run Q ⟨#[46]⟩ (by rw [show (⟨#[46]⟩ : ByteArray).size = 1 from rfl]; omega) W
      have A2 := fun (W : World) => add_run (Q ++ ⟨#[46]⟩) D (by omega) W
      have HSS := hide (show Q ++ ⟨#[46]⟩ ++ D = S by
        rw [← hQ, ← hD, ← HS.out, show (⟨#[46]⟩ : ByteArray) = strB [46] from rfl, strB_app, strB_app]
        unfold gramL
        rw [List.append_assoc]
        rfl)
      clear HJ zp zQ zD HS
      obtain hc | hc | hc : X.size = 4 ∨ X.size = 5 ∨ X.size = 6 := by omega
      all_goals
        have x1 := ex_left X _ _ hX _ rfl
        have x2 := ex_right X _ _ hX _ _ rfl hc
        rw [hQ, show (Lib.decDigits (m / 1000)).length = X.size - 3 by omega, hc] at x1
        rw [hD, show (Lib.decDigits (m / 1000)).length = X.size - 3 by omega, hc] at x2
        simp only [Nat.reduceSub] at x1 x2
        clear hX hq hQ hD h4 hz6
        go_wp2_with fail
        go_region
        all_goals
          go_wp2_with fail
          go_ret
          exact ⟨by rw [HSS.out]; rfl, E1.drew⟩
set_option maxHeartbeats 1000000 in
theorem rtext9_no (x : Spc) (w : World) (h : vS x = false) :
    Calls Tryz.prog 16 #[.agg #[.int .i64 x.i, .int .i64 x.o, .int .i64 x.r, .int .i64 x.a, .int .i64 x.b, .int .i64 x.h, .int .i64 x.m]] w fun e w' => e = .returned (.string ⟨#[]⟩) ∧ Below w.heap.size w w' := by
  have H := hide h
  clear h
  go_enter Tryz.func16, Tryz.ntmps16
  go_wp2_with fail
  refine (rvalid9_any x _ false H.out).mono ?_
  rintro e w1 ⟨rfl, E1⟩
  go_wp2_with fail
  go_ret
  exact ⟨rfl, nxt ((Below.refl _ _).alloc (Nat.le_refl _) _) E1⟩
set_option maxHeartbeats 8000000 in
theorem rtext9_0 (x : Spc) (w : World) (hT : Lw w) (h : vS x = true) (h0 : x.h = 0) (S : ByteArray) (hS : strB (spL x) = S) :
    Calls Tryz.prog 16 #[.agg #[.int .i64 x.i, .int .i64 x.o, .int .i64 x.r, .int .i64 x.a, .int .i64 x.b, .int .i64 x.h, .int .i64 x.m]] w fun e w' => e = .returned (.string S) ∧ Below w.heap.size w w' := by
  have e0 : (x.h == 0) = true := beq_iff_eq.2 h0
  have H := hide h
  have HT := hide hT
  obtain ⟨hi, -, -, -, -, hh, hm⟩ := vS_true.1 h
  have HHN := hide (show (12 : Int) = (hourN x.h : Int) by rw [h0]; rfl)
  have hn12 : hourN x.h ≤ 12 := by unfold hourN; split <;> omega
  obtain ⟨P, hP⟩ : ∃ P, strB (pairL x) = P := ⟨_, rfl⟩
  obtain ⟨I, hI⟩ : ∃ I, strB (Lib.decDigits x.i.toNat) = I := ⟨_, rfl⟩
  obtain ⟨A, hA⟩ : ∃ A, strB (Lib.decDigits (hourN x.h)) = A := ⟨_, rfl⟩
  obtain ⟨G, hG⟩ : ∃ G, strB (gramL x.m.toNat) = G := ⟨_, rfl⟩
  have hs : I ++ ⟨#[32]⟩ ++ P ++ ⟨#[32]⟩ ++ A ++ ⟨#[104, 32]⟩ ++ G = S := by
    rw [← hP, ← hI, ← hA, ← hG, ← hS, show (⟨#[32]⟩ : ByteArray) = strB [32] from rfl, show (⟨#[104, 32]⟩ : ByteArray) = strB [104, 32] from rfl, strB_app, strB_app, strB_app, strB_app, strB_app, strB_app]
    congr 1
    unfold spL spP
    simp only [List.append_assoc, List.cons_append, List.nil_append]
  have hz : I.size + P.size + A.size + G.size ≤ 28 := by
    have := (spL_len h).1
    have e : (spL x).length = I.size + P.size + A.size + G.size + 4 := by
      rw [← hP, ← hI, ← hA, ← hG, strB_size, strB_size, strB_size, strB_size]
      unfold spL spP
      simp only [List.length_append, List.length_cons, List.length_nil]
      omega
    omega
  have z1 : (I ++ (⟨#[32]⟩ : ByteArray)).size = I.size + 1 := by rw [ByteArray.size_append]; rfl
  have z2 : (I ++ (⟨#[32]⟩ : ByteArray) ++ P).size = I.size + 1 + P.size := by rw [ByteArray.size_append, z1]
  have z3 : (I ++ (⟨#[32]⟩ : ByteArray) ++ P ++ ⟨#[32]⟩).size = I.size + 1 + P.size + 1 := by rw [ByteArray.size_append, z2]; rfl
  have z4 : (I ++ (⟨#[32]⟩ : ByteArray) ++ P ++ ⟨#[32]⟩ ++ A).size = I.size + 1 + P.size + 1 + A.size := by rw [ByteArray.size_append, z3]
  have z5 : (I ++ (⟨#[32]⟩ : ByteArray) ++ P ++ ⟨#[32]⟩ ++ A ++ ⟨#[104, 32]⟩).size = I.size + 1 + P.size + 1 + A.size + 2 := by rw [ByteArray.size_append, z4]; rfl
  have s1 : (⟨#[32]⟩ : ByteArray).size = 1 := rfl
  have s2 : (⟨#[104, 32]⟩ : ByteArray).size = 2 := rfl
  have A1 := fun (W : World) => add_run I ⟨#[32]⟩ (by omega) W
  have A2 := fun (W : World) => add_run (I ++ ⟨#[32]⟩) P (by omega) W
  have A3 := fun (W : World) => add_run (I ++ ⟨#[32]⟩ ++ P) ⟨#[32]⟩ (by omega) W
  have A4 := fun (W : World) => add_run (I ++ ⟨#[32]⟩ ++ P ++ ⟨#[32]⟩) A (by omega) W
  have A5 := fun (W : World) => add_run (I ++ ⟨#[32]⟩ ++ P ++ ⟨#[32]⟩ ++ A) ⟨#[104, 32]⟩ (by omega) W
  have A6 := fun (W : World) => add_run (I ++ ⟨#[32]⟩ ++ P ++ ⟨#[32]⟩ ++ A ++ ⟨#[104, 32]⟩) G (by omega) W
  have HSS := hide hs
  have HP := hide ((pairL_bytes h).trans hP)
  have HB := hide (vS_pB h)
  have HI := hide hI
  have HA := hide hA
  have HG := hide hG
  have HN := hide hn12
  have HHI := hide hi
  have HHM := hide hm
  clear h h0 hT hS hP hI hA hG hs hz hi hh hm hn12 z1 z2 z3 z4 z5 s1 s2
  go_enter Tryz.func16, Tryz.ntmps16
  go_wp2_with fail
  generalize hW : w.alloc _ = W
  obtain ⟨B, hzz, hk⟩ := box7 hW
  have KS := hide hk
  have KT := hide (HT.out.below B)
  clear hW hk HT
  obtain ⟨k0, k1, k2, k3, k4, k5, k6⟩ := KS.out _ (Below.refl _ _)
  go_wp2_with fail
  clear k0 k1 k2 k3 k4 k5 k6
  refine (rvalid9_any x _ true H.out).mono ?_
  rintro e w1 ⟨rfl, E1⟩
  obtain ⟨k0, k1, k2, k3, k4, k5, k6⟩ := KS.out _ E1
  go_wp2_with fail
  clear k0 k1 k2 k3 k4 k5 k6
  refine (rpair_y 0 x.o x.a 1 x.r x.b _ (KT.out.below E1) HB.out P HP.out).mono ?_
  rintro e w3 ⟨rfl, hb3⟩
  have E3 := nxt E1 hb3
  clear E1 hb3
  have KS3 := hide (fun w' (h : Below w3.heap.size w3 w') => KS.out w' (nxt E3 h))
  have B := nxt B E3
  clear E3 KS KT
  obtain ⟨k0, k1, k2, k3, k4, k5, k6⟩ := KS3.out _ (Below.refl _ _)
  go_wp2_with fail
  clear k0 k1 k2 k3 k4 k5 k6
  go_region_held3 (fun w' => w'.cell? ⟨w.heap.size, 0, none⟩ = some (.int .i64 x.i) ∧ w'.cell? ⟨w.heap.size, 1, none⟩ = some (.int .i64 x.o) ∧ w'.cell? ⟨w.heap.size, 2, none⟩ = some (.int .i64 x.r) ∧ w'.cell? ⟨w.heap.size, 3, none⟩ = some (.int .i64 x.a) ∧ w'.cell? ⟨w.heap.size, 4, none⟩ = some (.int .i64 x.b) ∧ w'.cell? ⟨w.heap.size, 5, none⟩ = some (.int .i64 x.h) ∧ w'.cell? ⟨w.heap.size, 6, none⟩ = some (.int .i64 x.m))
    (exact KS3.out _ (by ((repeat (first | (with_reducible assumption) | (with_reducible exact Below.refl _ _) | (with_reducible refine Below.drewS ?_) | (with_reducible refine Below.allocS ?_ _) | (with_reducible refine Below.setS ?_ (by first | omega | (simp; omega)) _))); (first | done | fail))))
    (first
      | (go_at_call_of 46 (Value.int IntKind.i64 x.i); (with_reducible refine (rdec_any _ x.i.toNat (by have := HHI.out; omega) (by have := HHI.out; omega) _ I HI.out).mono ?_); rintro e w4 ⟨rfl, hb4⟩; have E4 : Below w3.heap.size w3 w4 := Below.next (by ((repeat (first | (with_reducible assumption) | (with_reducible exact Below.refl _ _) | (with_reducible refine Below.drewS ?_) | (with_reducible refine Below.allocS ?_ _) | (with_reducible refine Below.setS ?_ (by first | omega | (simp; omega)) _))); (first | done | fail))) hb4)
      | (go_at_call 46; (with_reducible refine (rdec_any _ (hourN x.h) HHN.out (by have := HN.out; omega) _ A HA.out).mono ?_); rintro e w5 ⟨rfl, hb5⟩; have E5 : Below w3.heap.size w3 w5 := Below.next (by ((repeat (first | (with_reducible assumption) | (with_reducible exact Below.refl _ _) | (with_reducible refine Below.drewS ?_) | (with_reducible refine Below.allocS ?_ _) | (with_reducible refine Below.setS ?_ (by first | omega | (simp; omega)) _))); (first | done | fail))) hb5)
      | (go_at_call 47; (with_reducible refine (rgrams_any _ x.m.toNat (by have := HHM.out; omega) (by have := HHM.out; omega) _ G HG.out).mono ?_); rintro e w6 ⟨rfl, hb6⟩; have E6 : Below w3.heap.size w3 w6 := Below.next (by ((repeat (first | (with_reducible assumption) | (with_reducible exact Below.refl _ _) | (with_reducible refine Below.drewS ?_) | (with_reducible refine Below.allocS ?_ _) | (with_reducible refine Below.setS ?_ (by first | omega | (simp; omega)) _))); (first | done | fail))) hb6))
  all_goals
    go_wp2_with fail
    go_ret
    refine ⟨by rw [HSS.out]; rfl, nxt B (by first | exact E6 | exact E6.drew | exact E5 | exact E4)⟩
set_option maxHeartbeats 8000000 in
theorem rtext9_n (x : Spc) (w : World) (hT : Lw w) (h : vS x = true) (h0 : x.h ≠ 0) (S : ByteArray) (hS : strB (spL x) = S) :
    Calls Tryz.prog 16 #[.agg #[.int .i64 x.i, .int .i64 x.o, .int .i64 x.r, .int .i64 x.a, .int .i64 x.b, .int .i64 x.h, .int .i64 x.m]] w fun e w' => e = .returned (.string S) ∧ Below w.heap.size w w' := by
  have e0 : (x.h == 0) = false := beq_eq_false_iff_ne.2 h0
  have H := hide h
  have HT := hide hT
  obtain ⟨hi, -, -, -, -, hh, hm⟩ := vS_true.1 h
  have HHN := hide (show x.h = (hourN x.h : Int) by unfold hourN; rw [if_neg h0]; omega)
  have hn12 : hourN x.h ≤ 12 := by unfold hourN; split <;> omega
  obtain ⟨P, hP⟩ : ∃ P, strB (pairL x) = P := ⟨_, rfl⟩
  obtain ⟨I, hI⟩ : ∃ I, strB (Lib.decDigits x.i.toNat) = I := ⟨_, rfl⟩
  obtain ⟨A, hA⟩ : ∃ A, strB (Lib.decDigits (hourN x.h)) = A := ⟨_, rfl⟩
  obtain ⟨G, hG⟩ : ∃ G, strB (gramL x.m.toNat) = G := ⟨_, rfl⟩
  have hs : I ++ ⟨#[32]⟩ ++ P ++ ⟨#[32]⟩ ++ A ++ ⟨#[104, 32]⟩ ++ G = S := by
    rw [← hP, ← hI, ← hA, ← hG, ← hS, show (⟨#[32]⟩ : ByteArray) = strB [32] from rfl, show (⟨#[104, 32]⟩ : ByteArray) = strB [104, 32] from rfl, strB_app, strB_app, strB_app, strB_app, strB_app, strB_app]
    congr 1
    unfold spL spP
    simp only [List.append_assoc, List.cons_append, List.nil_append]
  have hz : I.size + P.size + A.size + G.size ≤ 28 := by
    have := (spL_len h).1
    have e : (spL x).length = I.size + P.size + A.size + G.size + 4 := by
      rw [← hP, ← hI, ← hA, ← hG, strB_size, strB_size, strB_size, strB_size]
      unfold spL spP
      simp only [List.length_append, List.length_cons, List.length_nil]
      omega
    omega
  have z1 : (I ++ (⟨#[32]⟩ : ByteArray)).size = I.size + 1 := by rw [ByteArray.size_append]; rfl
  have z2 : (I ++ (⟨#[32]⟩ : ByteArray) ++ P).size = I.size + 1 + P.size := by rw [ByteArray.size_append, z1]
  have z3 : (I ++ (⟨#[32]⟩ : ByteArray) ++ P ++ ⟨#[32]⟩).size = I.size + 1 + P.size + 1 := by rw [ByteArray.size_append, z2]; rfl
  have z4 : (I ++ (⟨#[32]⟩ : ByteArray) ++ P ++ ⟨#[32]⟩ ++ A).size = I.size + 1 + P.size + 1 + A.size := by rw [ByteArray.size_append, z3]
  have z5 : (I ++ (⟨#[32]⟩ : ByteArray) ++ P ++ ⟨#[32]⟩ ++ A ++ ⟨#[104, 32]⟩).size = I.size + 1 + P.size + 1 + A.size + 2 := by rw [ByteArray.size_append, z4]; rfl
  have s1 : (⟨#[32]⟩ : ByteArray).size = 1 := rfl
  have s2 : (⟨#[104, 32]⟩ : ByteArray).size = 2 := rfl
  have A1 := fun (W : World) => add_run I ⟨#[32]⟩ (by omega) W
  have A2 := fun (W : World) => add_run (I ++ ⟨#[32]⟩) P (by omega) W
  have A3 := fun (W : World) => add_run (I ++ ⟨#[32]⟩ ++ P) ⟨#[32]⟩ (by omega) W
  have A4 := fun (W : World) => add_run (I ++ ⟨#[32]⟩ ++ P ++ ⟨#[32]⟩) A (by omega) W
  have A5 := fun (W : World) => add_run (I ++ ⟨#[32]⟩ ++ P ++ ⟨#[32]⟩ ++ A) ⟨#[104, 32]⟩ (by omega) W
  have A6 := fun (W : World) => add_run (I ++ ⟨#[32]⟩ ++ P ++ ⟨#[32]⟩ ++ A ++ ⟨#[104, 32]⟩) G (by omega) W
  have HSS := hide hs
  have HP := hide ((pairL_bytes h).trans hP)
  have HB := hide (vS_pB h)
  have HI := hide hI
  have HA := hide hA
  have HG := hide hG
  have HN := hide hn12
  have HHI := hide hi
  have HHM := hide hm
  clear h h0 hT hS hP hI hA hG hs hz hi hh hm hn12 z1 z2 z3 z4 z5 s1 s2
  go_enter Tryz.func16, Tryz.ntmps16
  go_wp2_with fail
  generalize hW : w.alloc _ = W
  obtain ⟨B, hzz, hk⟩ := box7 hW
  have KS := hide hk
  have KT := hide (HT.out.below B)
  clear hW hk HT
  obtain ⟨k0, k1, k2, k3, k4, k5, k6⟩ := KS.out _ (Below.refl _ _)
  go_wp2_with fail
  clear k0 k1 k2 k3 k4 k5 k6
  refine (rvalid9_any x _ true H.out).mono ?_
  rintro e w1 ⟨rfl, E1⟩
  obtain ⟨k0, k1, k2, k3, k4, k5, k6⟩ := KS.out _ E1
  go_wp2_with fail
  clear k0 k1 k2 k3 k4 k5 k6
  refine (rpair_y 0 x.o x.a 1 x.r x.b _ (KT.out.below E1) HB.out P HP.out).mono ?_
  rintro e w3 ⟨rfl, hb3⟩
  have E3 := nxt E1 hb3
  clear E1 hb3
  have KS3 := hide (fun w' (h : Below w3.heap.size w3 w') => KS.out w' (nxt E3 h))
  have B := nxt B E3
  clear E3 KS KT
  obtain ⟨k0, k1, k2, k3, k4, k5, k6⟩ := KS3.out _ (Below.refl _ _)
  go_wp2_with fail
  clear k0 k1 k2 k3 k4 k5 k6
  go_region_held3 (fun w' => w'.cell? ⟨w.heap.size, 0, none⟩ = some (.int .i64 x.i) ∧ w'.cell? ⟨w.heap.size, 1, none⟩ = some (.int .i64 x.o) ∧ w'.cell? ⟨w.heap.size, 2, none⟩ = some (.int .i64 x.r) ∧ w'.cell? ⟨w.heap.size, 3, none⟩ = some (.int .i64 x.a) ∧ w'.cell? ⟨w.heap.size, 4, none⟩ = some (.int .i64 x.b) ∧ w'.cell? ⟨w.heap.size, 5, none⟩ = some (.int .i64 x.h) ∧ w'.cell? ⟨w.heap.size, 6, none⟩ = some (.int .i64 x.m))
    (exact KS3.out _ (by ((repeat (first | (with_reducible assumption) | (with_reducible exact Below.refl _ _) | (with_reducible refine Below.drewS ?_) | (with_reducible refine Below.allocS ?_ _) | (with_reducible refine Below.setS ?_ (by first | omega | (simp; omega)) _))); (first | done | fail))))
    (first
      | (go_at_call_of 46 (Value.int IntKind.i64 x.i); (with_reducible refine (rdec_any _ x.i.toNat (by have := HHI.out; omega) (by have := HHI.out; omega) _ I HI.out).mono ?_); rintro e w4 ⟨rfl, hb4⟩; have E4 : Below w3.heap.size w3 w4 := Below.next (by ((repeat (first | (with_reducible assumption) | (with_reducible exact Below.refl _ _) | (with_reducible refine Below.drewS ?_) | (with_reducible refine Below.allocS ?_ _) | (with_reducible refine Below.setS ?_ (by first | omega | (simp; omega)) _))); (first | done | fail))) hb4)
      | (go_at_call 46; (with_reducible refine (rdec_any _ (hourN x.h) HHN.out (by have := HN.out; omega) _ A HA.out).mono ?_); rintro e w5 ⟨rfl, hb5⟩; have E5 : Below w3.heap.size w3 w5 := Below.next (by ((repeat (first | (with_reducible assumption) | (with_reducible exact Below.refl _ _) | (with_reducible refine Below.drewS ?_) | (with_reducible refine Below.allocS ?_ _) | (with_reducible refine Below.setS ?_ (by first | omega | (simp; omega)) _))); (first | done | fail))) hb5)
      | (go_at_call 47; (with_reducible refine (rgrams_any _ x.m.toNat (by have := HHM.out; omega) (by have := HHM.out; omega) _ G HG.out).mono ?_); rintro e w6 ⟨rfl, hb6⟩; have E6 : Below w3.heap.size w3 w6 := Below.next (by ((repeat (first | (with_reducible assumption) | (with_reducible exact Below.refl _ _) | (with_reducible refine Below.drewS ?_) | (with_reducible refine Below.allocS ?_ _) | (with_reducible refine Below.setS ?_ (by first | omega | (simp; omega)) _))); (first | done | fail))) hb6))
  all_goals
    go_wp2_with fail
    go_ret
    refine ⟨by rw [HSS.out]; rfl, nxt B (by first | exact E6 | exact E6.drew | exact E5 | exact E4)⟩
theorem rtext9_any (x : Spc) (w : World) (hT : Lw w) (S : ByteArray) (hS : spT x = S) :
    Calls Tryz.prog 16 #[.agg #[.int .i64 x.i, .int .i64 x.o, .int .i64 x.r, .int .i64 x.a, .int .i64 x.b, .int .i64 x.h, .int .i64 x.m]] w fun e w' => e = .returned (.string S) ∧ Below w.heap.size w w' := by
  cases h : vS x
  · rw [spT_false h] at hS
    subst hS
    exact rtext9_no x w h
  · rw [spT_true h] at hS
    by_cases h0 : x.h = 0
    · exact rtext9_0 x w hT h h0 S hS
    · exact rtext9_n x w hT h h0 S hS
end Go.Proofs.YtaapcfflnklpjaaGreatDoor
