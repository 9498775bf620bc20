/- The text of a specimen, the program's. -/
import Derived.Test.YtaapcfflnklpjaaGreatDoorSB
import Derived.Test.YtaapcfflnklpjaaGreatDoorShelf3
import Derived.Deep.RegionHeld3
namespace Go.Proofs.YtaapcfflnklpjaaGreatDoor
open Go Go.RowKit Go.Lib
set_option maxHeartbeats 1000000 in
theorem axis_0 (w : World) (hT : Lw w) (S : ByteArray) (hS : strB (Lib.decDigits 12 ++ [104]) = S) :
    Calls Tryz.prog 41 #[.int .i64 0] w fun e w' => e = .returned (.string S) ∧ Below w.heap.size w w' := by
  have HS := hide hS
  have A1 := fun (W : World) => add_run (strB (Lib.decDigits 12)) ⟨#[104]⟩ (by decide +kernel) W
  have HT := hide hT
  clear hS hT
  go_enter Tryz.func41, Tryz.ntmps41
  go_wp2_with fail
  refine (itoa_any 12 _ HT.out (by decide) (strB (Lib.decDigits 12)) rfl).mono ?_
  rintro e w1 ⟨rfl, E1⟩
  go_wp2_with fail
  go_ret
  exact ⟨by rw [← HS.out, ← strB_app]; rfl, E1⟩
set_option maxHeartbeats 1000000 in
theorem axis_n (m : Nat) (h0 : 0 < m) (h1 : m ≤ 11) (w : World) (hT : Lw w) (S : ByteArray) (hS : strB (Lib.decDigits m ++ [104]) = S) :
    Calls Tryz.prog 41 #[.int .i64 (m : Int)] w fun e w' => e = .returned (.string S) ∧ Below w.heap.size w w' := by
  have d0 : ((m : Int) == 0) = false := beq_eq_false_iff_ne.2 (by omega)
  have HS := hide hS
  have hz := dec_short (u := m) (by omega)
  have A1 := fun (W : World) => add_run (strB (Lib.decDigits m)) ⟨#[104]⟩ (by rw [strB_size, show (⟨#[104]⟩ : ByteArray).size = 1 from rfl]; omega) W
  have HT := hide hT
  have H1 := hide h1
  clear hS hT hz h1
  go_enter Tryz.func41, Tryz.ntmps41
  go_wp2_with fail
  refine (itoa_any m _ HT.out (by have := H1.out; omega) (strB (Lib.decDigits m)) rfl).mono ?_
  rintro e w1 ⟨rfl, E1⟩
  go_wp2_with fail
  go_ret
  exact ⟨by rw [← HS.out, ← strB_app]; rfl, E1⟩
theorem axis_any (h : Int) (hh : 0 ≤ h ∧ h ≤ 11) (w : World) (hT : Lw w) (S : ByteArray) (hS : strB (Lib.decDigits (hourN h) ++ [104]) = S) :
    Calls Tryz.prog 41 #[.int .i64 h] w fun e w' => e = .returned (.string S) ∧ Below w.heap.size w w' := by
  obtain ⟨m, rfl⟩ : ∃ m : Nat, h = m := ⟨h.toNat, by omega⟩
  by_cases h0 : m = 0
  · subst h0
    exact axis_0 w hT S hS
  · refine axis_n m (by omega) (by omega) w hT S ?_
    rw [← hS]
    unfold hourN
    rw [if_neg (by omega), Int.toNat_natCast]
theorem itoa_i (n : Int) (m : Nat) (h : n = m) (w : World) (hT : Lw w) (hm : m ≤ 1000000) (S : ByteArray) (hS : strB (Lib.decDigits m) = S) :
    Calls Tryz.prog 40 #[.int .i64 n] w fun e w' => e = .returned (.string S) ∧ Below w.heap.size w w' := by
  subst h
  exact itoa_any m w hT hm S hS
set_option maxHeartbeats 1000000 in
theorem grams_any (m : Nat) (h1 : m ≤ 200000) (w : World) (hT : Lw w) (S : ByteArray) (hS : strB (gramL m) = S) :
    Calls Tryz.prog 42 #[.int .i64 (m : Int)] w fun e w' => e = .returned (.string S) ∧ Below w.heap.size w w' := by
  have hk : m % 1000 < 1000 := Nat.mod_lt _ (by decide)
  obtain ⟨X, hX⟩ : ∃ X, strB (Lib.decDigits (1000 + m % 1000)) = X := ⟨_, rfl⟩
  have c4 : X.size = 4 := by rw [← hX, strB_size, dec_thou hk]; rfl
  have e3 : X.extract 1 4 = strB (d3 (m % 1000)) := by
    have : (X.extract 1 4).data.toList = d3 (m % 1000) := by
      have h := Lib.extract_to_end X 1
      rw [c4] at h
      rw [h, ← hX, data_strB, dec_thou hk]
      rfl
    rw [← strB_data (X.extract 1 4), this]
  obtain ⟨D, hD⟩ : ∃ D, strB (d3 (m % 1000)) = D := ⟨_, rfl⟩
  rw [hD] at e3
  have zD : D.size = 3 := by rw [← hD, strB_size]; rfl
  obtain ⟨Q, hQ⟩ : ∃ Q, strB (Lib.decDigits (m / 1000)) = Q := ⟨_, rfl⟩
  have zQ : Q.size ≤ 4 := by rw [← hQ, strB_size]; exact dec_short (by omega)
  have zp : (Q ++ (⟨#[46]⟩ : ByteArray)).size = Q.size + 1 := by rw [ByteArray.size_append]; rfl
  have A1 := fun (W : World) => add_run Q ⟨#[46]⟩ (by rw [show (⟨#[46]⟩ : ByteArray).size = 1 from rfl]; omega) W
  have A2 := fun (W : World) => add_run (Q ++ ⟨#[46]⟩) D (by omega) W
  have HS := hide (show Q ++ ⟨#[46]⟩ ++ D = S by
    rw [← hQ, ← hD, ← hS, show (⟨#[46]⟩ : ByteArray) = strB [46] from rfl, strB_app, strB_app]
    unfold gramL
    rw [List.append_assoc]
    rfl)
  have HX := hide hX
  have HQ := hide hQ
  have HT := hide hT
  have H1 := hide h1
  clear hS hT hX hQ hD h1 hk zp zD zQ
  go_enter Tryz.func42, Tryz.ntmps42
  go_wp2_with fail
  refine (itoa_i _ (1000 + m % 1000) (by omega) _ HT.out (by omega) X HX.out).mono ?_
  rintro e w1 ⟨rfl, E1⟩
  go_wp2_with fail
  refine (itoa_i _ (m / 1000) (by have := H1.out; rw [IntWalk.wrap64_in _ ⟨by omega, by omega⟩]; omega) _ (HT.out.below E1) (by have := H1.out; omega) Q HQ.out).mono ?_
  rintro e w2 ⟨rfl, E2⟩
  go_wp2_with fail
  go_ret
  exact ⟨by rw [HS.out]; rfl, nxt E1 E2⟩
theorem grams_i (n : Int) (m : Nat) (h : n = m) (h1 : m ≤ 200000) (w : World) (hT : Lw w) (S : ByteArray) (hS : strB (gramL m) = S) :
    Calls Tryz.prog 42 #[.int .i64 n] w fun e w' => e = .returned (.string S) ∧ Below w.heap.size w w' := by
  subst h
  exact grams_any m h1 w hT S hS
theorem join4 (g : Nat) (a b c d : ByteArray) (W : World) (t : TypeId) (hb : Box W g #[.string a, .string b, .string c, .string d] t) (hz : a.size + b.size + c.size + d.size ≤ 5000) (S : ByteArray) (hS : strB (a.data.toList ++ 32 :: (b.data.toList ++ 32 :: (c.data.toList ++ 32 :: d.data.toList))) = S) :
    Calls Tryz.prog 39 #[.slice (some ⟨g, 0, none⟩) 4 4, .string ⟨#[32]⟩] W fun e w' => e = .returned (.string S) ∧ Below W.heap.size W w' := by
  have hj : Lib.join ([a, b, c, d].map (·.data.toList)) (⟨#[32]⟩ : ByteArray).data.toList = a.data.toList ++ 32 :: (b.data.toList ++ 32 :: (c.data.toList ++ 32 :: d.data.toList)) := by
    simp [Lib.join, List.intercalate]
  have hl : (Lib.join ([a, b, c, d].map (·.data.toList)) (⟨#[32]⟩ : ByteArray).data.toList).length ≤ 140737488355328 := by
    rw [hj]
    simp only [List.length_append, List.length_cons, ← Lib.size_eq]
    omega
  refine (Tryz.strings_Join g 0 4 [a, b, c, d] ⟨#[32]⟩ W ?_ hb.lt (by simp) (by simp) hl).mono ?_
  · intro j x hx
    rw [Nat.zero_add, hb.at_ j]
    match j, hx with
    | 0, hx => simp at hx; subst hx; rfl
    | 1, hx => simp at hx; subst hx; rfl
    | 2, hx => simp at hx; subst hx; rfl
    | 3, hx => simp at hx; subst hx; rfl
    | j + 4, hx => simp at hx
  · rintro e w' ⟨rfl, h⟩
    refine ⟨?_, h⟩
    rw [hj, ← hS]
    rfl
set_option maxHeartbeats 1000000 in
theorem text9_no (x : Spc) (w : World) (h : vS x = false) :
    Calls Tryz.prog 13 #[.agg #[.int .i64 x.i, .int .i64 x.o, .int .i64 x.r, .int .i64 x.a, .int .i64 x.b, .int .i64 x.h, .int .i64 x.m]] w fun e w' => e = .returned (.string ⟨#[]⟩) ∧ Below w.heap.size w w' := by
  have H := hide h
  clear h
  go_enter Tryz.func13, Tryz.ntmps13
  go_wp2_with fail
  refine (valid9_any x _ false H.out).mono ?_
  rintro e w1 ⟨rfl, E1⟩
  go_wp2_with fail
  go_ret
  exact ⟨rfl, nxt ((Below.refl _ _).alloc (Nat.le_refl _) _) E1⟩
set_option maxHeartbeats 4000000 in
theorem text9_yes (x : Spc) (w : World) (hT : Lw w) (h : vS x = true) (S : ByteArray) (hS : strB (spL x) = S) :
    Calls Tryz.prog 13 #[.agg #[.int .i64 x.i, .int .i64 x.o, .int .i64 x.r, .int .i64 x.a, .int .i64 x.b, .int .i64 x.h, .int .i64 x.m]] w fun e w' => e = .returned (.string S) ∧ Below w.heap.size w w' := by
  have H := hide h
  have HT := hide hT
  obtain ⟨hi, -, -, -, -, hh, hm⟩ := vS_true.1 h
  obtain ⟨P, hP⟩ : ∃ P, strB (pairL x) = P := ⟨_, rfl⟩
  obtain ⟨I, hI⟩ : ∃ I, strB (Lib.decDigits x.i.toNat) = I := ⟨_, rfl⟩
  obtain ⟨A, hA⟩ : ∃ A, strB (Lib.decDigits (hourN x.h) ++ [104]) = A := ⟨_, rfl⟩
  obtain ⟨G, hG⟩ : ∃ G, strB (gramL x.m.toNat) = G := ⟨_, rfl⟩
  have hs : strB (I.data.toList ++ 32 :: (P.data.toList ++ 32 :: (A.data.toList ++ 32 :: G.data.toList))) = S := by
    rw [← hP, ← hI, ← hA, ← hG, data_strB, data_strB, data_strB, data_strB]
    exact hS
  have hz : I.size + P.size + A.size + G.size ≤ 5000 := by
    have := (spL_len h).1
    have e : spL x = I.data.toList ++ 32 :: (P.data.toList ++ 32 :: (A.data.toList ++ 32 :: G.data.toList)) := by
      rw [← hP, ← hI, ← hA, ← hG, data_strB, data_strB, data_strB, data_strB]
      rfl
    rw [e] at this
    simp only [List.length_append, List.length_cons, ← Lib.size_eq] at this
    omega
  have HZ := hide hz
  have HSS := hide hs
  have HP := hide ((pairL_bytes h).trans hP)
  have HB := hide (vS_pB h)
  have HI := hide hI
  have HA := hide hA
  have HG := hide hG
  have HHH := hide hh
  have HHI := hide hi
  have HHM := hide hm
  clear h hT hS hP hI hA hG hs hz hi hh hm
  go_enter Tryz.func13, Tryz.ntmps13
  go_wp2_with fail
  generalize hW : w.alloc _ = W
  obtain ⟨B, hzz, hk⟩ := box7 hW
  have KS := hide hk
  have KT := hide (HT.out.below B)
  clear hW hk HT
  obtain ⟨k0, k1, k2, k3, k4, k5, k6⟩ := KS.out _ (Below.refl _ _)
  go_wp2_with fail
  clear k0 k1 k2 k3 k4 k5 k6
  refine (valid9_any x _ true H.out).mono ?_
  rintro e w1 ⟨rfl, E1⟩
  obtain ⟨k0, k1, k2, k3, k4, k5, k6⟩ := KS.out _ E1
  go_wp2_with fail
  clear k0 k1 k2 k3 k4 k5 k6
  refine (dies_any x _).mono ?_
  rintro e w2 ⟨rfl, hb2⟩
  have E2 := nxt E1 hb2
  clear E1 hb2
  obtain ⟨k0, k1, k2, k3, k4, k5, k6⟩ := KS.out _ E2
  go_wp2_with fail
  clear k0 k1 k2 k3 k4 k5 k6
  refine (pair_y 0 x.o x.a 1 x.r x.b _ (KT.out.below E2) HB.out P HP.out).mono ?_
  rintro e w3 ⟨rfl, hb3⟩
  have E3 := nxt E2 hb3
  clear E2 hb3
  have KS3 := hide (fun w' (h : Below w3.heap.size w3 w') => KS.out w' (nxt E3 h))
  have KT3 := hide (fun w' (h : Below w3.heap.size w3 w') => KT.out.below (nxt E3 h))
  have B := nxt B E3
  clear E3 KS KT
  obtain ⟨k0, k1, k2, k3, k4, k5, k6⟩ := KS3.out _ (Below.refl _ _)
  go_wp2_with fail
  clear k0 k1 k2 k3 k4 k5 k6
  go_region_held3 (fun w' => w'.cell? ⟨w.heap.size, 0, none⟩ = some (.int .i64 x.i) ∧ w'.cell? ⟨w.heap.size, 1, none⟩ = some (.int .i64 x.o) ∧ w'.cell? ⟨w.heap.size, 2, none⟩ = some (.int .i64 x.r) ∧ w'.cell? ⟨w.heap.size, 3, none⟩ = some (.int .i64 x.a) ∧ w'.cell? ⟨w.heap.size, 4, none⟩ = some (.int .i64 x.b) ∧ w'.cell? ⟨w.heap.size, 5, none⟩ = some (.int .i64 x.h) ∧ w'.cell? ⟨w.heap.size, 6, none⟩ = some (.int .i64 x.m))
    (exact KS3.out _ (by ((repeat (first | (with_reducible assumption) | (with_reducible exact Below.refl _ _) | (with_reducible refine Below.drewS ?_) | (with_reducible refine Below.allocS ?_ _) | (with_reducible refine Below.setS ?_ (by first | omega | (simp; omega)) _))); (first | done | fail))))
    (first
      | (go_at_call 40; (with_reducible refine (itoa_i _ x.i.toNat (by have := HHI.out; omega) _ (KT3.out _ (by ((repeat (first | (with_reducible assumption) | (with_reducible exact Below.refl _ _) | (with_reducible refine Below.drewS ?_) | (with_reducible refine Below.allocS ?_ _) | (with_reducible refine Below.setS ?_ (by first | omega | (simp; omega)) _))); (first | done | fail)))) (by have := HHI.out; omega) I HI.out).mono ?_); rintro e w4 ⟨rfl, hb4⟩; have E4 : Below w3.heap.size w3 w4 := Below.next (by ((repeat (first | (with_reducible assumption) | (with_reducible exact Below.refl _ _) | (with_reducible refine Below.drewS ?_) | (with_reducible refine Below.allocS ?_ _) | (with_reducible refine Below.setS ?_ (by first | omega | (simp; omega)) _))); (first | done | fail))) hb4)
      | (go_at_call 41; (with_reducible refine (axis_any _ HHH.out _ (KT3.out _ (by ((repeat (first | (with_reducible assumption) | (with_reducible exact Below.refl _ _) | (with_reducible refine Below.drewS ?_) | (with_reducible refine Below.allocS ?_ _) | (with_reducible refine Below.setS ?_ (by first | omega | (simp; omega)) _))); (first | done | fail)))) A HA.out).mono ?_); rintro e w5 ⟨rfl, hb5⟩; have E5 : Below w3.heap.size w3 w5 := Below.next (by ((repeat (first | (with_reducible assumption) | (with_reducible exact Below.refl _ _) | (with_reducible refine Below.drewS ?_) | (with_reducible refine Below.allocS ?_ _) | (with_reducible refine Below.setS ?_ (by first | omega | (simp; omega)) _))); (first | done | fail))) hb5)
      | (go_at_call 42; (with_reducible refine (grams_i _ x.m.toNat (by have := HHM.out; omega) (by have := HHM.out; omega) _ (KT3.out _ (by ((repeat (first | (with_reducible assumption) | (with_reducible exact Below.refl _ _) | (with_reducible refine Below.drewS ?_) | (with_reducible refine Below.allocS ?_ _) | (with_reducible refine Below.setS ?_ (by first | omega | (simp; omega)) _))); (first | done | fail)))) G HG.out).mono ?_); rintro e w6 ⟨rfl, hb6⟩; have E6 : Below w3.heap.size w3 w6 := Below.next (by ((repeat (first | (with_reducible assumption) | (with_reducible exact Below.refl _ _) | (with_reducible refine Below.drewS ?_) | (with_reducible refine Below.allocS ?_ _) | (with_reducible refine Below.setS ?_ (by first | omega | (simp; omega)) _))); (first | done | fail))) hb6)
      | (go_at_call 39; (with_reducible refine (join4 _ _ _ _ _ _ _ (Box.new _ _ _) HZ.out S HSS.out).mono ?_); rintro e w7 ⟨rfl, hb7⟩; have E7 : Below w3.heap.size w3 w7 := Below.next (by ((repeat (first | (with_reducible assumption) | (with_reducible exact Below.refl _ _) | (with_reducible refine Below.drewS ?_) | (with_reducible refine Below.allocS ?_ _) | (with_reducible refine Below.setS ?_ (by first | omega | (simp; omega)) _))); (first | done | fail))) hb7))
  all_goals
    go_wp2_with fail
    go_ret
    exact ⟨rfl, nxt B E7⟩
theorem text9_any (x : Spc) (w : World) (hT : Lw w) (S : ByteArray) (hS : spT x = S) :
    Calls Tryz.prog 13 #[.agg #[.int .i64 x.i, .int .i64 x.o, .int .i64 x.r, .int .i64 x.a, .int .i64 x.b, .int .i64 x.h, .int .i64 x.m]] w fun e w' => e = .returned (.string S) ∧ Below w.heap.size w w' := by
  cases h : vS x
  · rw [spT_false h] at hS
    subst hS
    exact text9_no x w h
  · rw [spT_true h] at hS
    exact text9_yes x w hT h S hS
end Go.Proofs.YtaapcfflnklpjaaGreatDoor
