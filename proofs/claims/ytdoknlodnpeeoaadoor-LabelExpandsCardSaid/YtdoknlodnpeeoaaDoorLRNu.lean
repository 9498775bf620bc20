/- The reference's numbers. -/
import Derived.Test.YtdoknlodnpeeoaaDoorLExM
import Derived.Test.YtdoknlodnpeeoaaDoorLIRo2
import Derived.IntWalk
namespace Go.Proofs.YtdoknlodnpeeoaaDoor
open Go Go.RowKit Go.Lib

/-- behind a digit -/
def prevD (l : List UInt8) : Nat → Bool
  | 0 => false
  | i + 1 => match l[i]? with
    | some c => dg c
    | none => false
theorem prevD_at {l : List UInt8} {i : Nat} {c : UInt8} (h : l[i]? = some c) : prevD l (i + 1) = dg c := by
  show (match l[i]? with | some c => dg c | none => false) = _
  rw [h]
/-- a row of numbers of the call's own -/
def GivesNs (us : List Nat) (w : World) (e : Ending) (w' : World) : Prop := ∃ A n c, e = .returned (.slice A n c) ∧ IR w' w.heap.size A n c us ∧ Below w.heap.size w w'
set_option maxRecDepth 100000 in
set_option maxHeartbeats 16000000 in
theorem rnumbers_any (s : ByteArray) (w : World) (hs : s.size ≤ 1000) (R : List Nat) (hR : rnums false s.data.toList = R) :
    Calls Tryd.prog 46 #[.string s] w (GivesNs R w) := by
  have HR := hide hR
  have HZ := hide (Lib.size_eq s)
  clear hR
  go_enter Tryd.func46, Tryd.ntmps46
  go_wp2_with fail
  go_loopw [3, 4] (fun v3 v4 wr => ∃ (i n c : Nat) (A : Option Addr) (us : List Nat), i ≤ s.size ∧ n ≤ i ∧ v4 = .int .i64 ((i : Nat) : Int) ∧ v3 = .slice A n c ∧ Hid (IR wr w.heap.size A n c us) ∧ Hid (Below w.heap.size w wr) ∧ Hid (us ++ rnums (prevD s.data.toList i) (s.data.toList.drop i) = R)) (fun _ v4 _ => s.size - (RowKit.intOf v4).toNat)
  case atStart => exact ⟨0, 0, 0, none, [], Nat.zero_le _, Nat.le_refl _, rfl, rfl, hide IR.nil_, hide (Below.refl _ _), hide (by rw [List.drop_zero]; exact HR.out)⟩
  case round =>
    obtain ⟨i, n, c, A, us, hi, hn, rfl, rfl, H1, HB, HU⟩ := hrel
    generalize hwr : wr = W at *
    clear hwr
    have i1 : (0 : Int) ≤ (i : Int) := by omega
    by_cases hlt : i < s.size
    · have d0 : decide ((i : Int) < (s.size : Int)) = true := decide_eq_true (by omega)
      have hwi : IntKind.i64.wrap ((i : Int) + 1) = (i : Int) + 1 := IntWalk.i64_in _ (by omega)
      have hc := at_some s i hlt
      have HP := hide (prevD_at hc)
      have HD := hide (show us ++ rnums (prevD s.data.toList i) (s[i] :: s.data.toList.drop (i + 1)) = R from by rw [← drop_atB hc]; exact HU.out)
      have HE := hide (drop_atB hc)
      clear hc HU
      by_cases h4 : 48 ≤ s[i].toNat
      · have d2 : decide ((48 : Int) ≤ (s[i].toNat : Int)) = true := decide_eq_true (by omega)
        by_cases h5 : s[i].toNat ≤ 57
        · have d3 : decide ((s[i].toNat : Int) ≤ 57) = true := decide_eq_true (by omega)
          rcases Nat.eq_zero_or_pos i with hi0 | hi0
          · have e0 : ((i : Int) == 0) = true := beq_iff_eq.2 (by omega)
            have HF := hide (show prevD s.data.toList i = false from by rw [hi0]; rfl)
            clear hi0
            obtain ⟨v, hv⟩ : ∃ v, numR 3 0 (s.data.toList.drop i) = v := ⟨_, rfl⟩
            have HN := hide (show (us ++ [v]) ++ rnums (prevD s.data.toList (i + 1)) (s.data.toList.drop (i + 1)) = R from by
              have hd : dg s[i] = true := dg_true.2 (by omega)
              rw [HP.out, hd]
              have h := HD.out
              rw [HF.out] at h
              conv at h => lhs; unfold rnums
              rw [if_pos hd, if_neg (by decide), ← HE.out, hv] at h
              rw [List.append_assoc]
              exact h)
            have HNV := hide (fun (W' : World) => number_any (s.extract i s.size) W' (by have h1 := Lib.size_eq (s.extract i s.size); rw [Lib.extract_to_end, List.length_drop] at h1; have h2 := HZ.out; omega) v (by rw [Lib.extract_to_end]; exact hv))
            have i2 : (i : Int) ≤ (s.size : Int) := by omega
            have F : Below W.heap.size W (W.alloc (.cells #[.int .i64 (v : Int)] 3)) := (Below.refl _ _).alloc (Nat.le_refl _) _
            have hB := HB.out
            have HG := hide (show w.heap.size ≤ (W.alloc (.cells #[.int .i64 (v : Int)] 3)).heap.size from Nat.le_trans hB.size F.size)
            clear hB hv HD HP HE
            go_wp2_with fail
            refine (HNV.out _).mono ?_
            rintro e w2 ⟨rfl, rfl⟩
            go_wp2_with (at_builtin; refine wpList_append_ir rfl _ _ 34 rfl 8 Tryd.underlying34 int_info w.heap.size A n c us rfl (H1.out.below F) W.heap.size 0 1 v rfl (Box.new W #[.int .i64 (v : Int)] 3).cell (by omega) (n + 1) rfl (by omega) HG.out ?_; intro A8 c8 w8 hr8 hG8)
            go_roundw
            case rel => exact ⟨i + 1, n + 1, c8, A8, us ++ [v], by omega, by omega, by go_num, rfl, hide hr8, hide ((HB.out.trans (F.mono HB.out.size)).trans hG8.1), HN⟩
            case measure => simp [RowKit.intOf]; omega
          · have e0 : ((i : Int) == 0) = false := beq_eq_false_iff_ne.2 (by omega)
            obtain ⟨f, hf⟩ : ∃ f, i = f + 1 := ⟨i - 1, by omega⟩
            have he : (i : Int) - 1 = (f : Int) := by omega
            have hw : IntKind.i64.wrap (f : Int) = (f : Int) := IntWalk.i64_in _ (by omega)
            have i3 : (0 : Int) ≤ (f : Int) := by omega
            have i4 : (f : Int) < (s.size : Int) := by omega
            have hfl : f < s.size := by omega
            have HF0 := hide (show prevD s.data.toList i = dg s[f] from by rw [hf]; exact prevD_at (at_some s f hfl))
            clear hf
            by_cases h6 : s[f].toNat < 48
            · have d4 : decide ((s[f].toNat : Int) < 48) = true := decide_eq_true (by omega)
              have HF := hide (show prevD s.data.toList i = false from by rw [HF0.out]; exact dg_false.2 (by omega))
              obtain ⟨v, hv⟩ : ∃ v, numR 3 0 (s.data.toList.drop i) = v := ⟨_, rfl⟩
              have HN := hide (show (us ++ [v]) ++ rnums (prevD s.data.toList (i + 1)) (s.data.toList.drop (i + 1)) = R from by
                have hd : dg s[i] = true := dg_true.2 (by omega)
                rw [HP.out, hd]
                have h := HD.out
                rw [HF.out] at h
                conv at h => lhs; unfold rnums
                rw [if_pos hd, if_neg (by decide), ← HE.out, hv] at h
                rw [List.append_assoc]
                exact h)
              have HNV := hide (fun (W' : World) => number_any (s.extract i s.size) W' (by have h1 := Lib.size_eq (s.extract i s.size); rw [Lib.extract_to_end, List.length_drop] at h1; have h2 := HZ.out; omega) v (by rw [Lib.extract_to_end]; exact hv))
              have i2 : (i : Int) ≤ (s.size : Int) := by omega
              have F : Below W.heap.size W (W.alloc (.cells #[.int .i64 (v : Int)] 3)) := (Below.refl _ _).alloc (Nat.le_refl _) _
              have hB := HB.out
              have HG := hide (show w.heap.size ≤ (W.alloc (.cells #[.int .i64 (v : Int)] 3)).heap.size from Nat.le_trans hB.size F.size)
              clear hB hv HD HP HE
              go_wp2_with fail
              refine (HNV.out _).mono ?_
              rintro e w2 ⟨rfl, rfl⟩
              go_wp2_with (at_builtin; refine wpList_append_ir rfl _ _ 34 rfl 8 Tryd.underlying34 int_info w.heap.size A n c us rfl (H1.out.below F) W.heap.size 0 1 v rfl (Box.new W #[.int .i64 (v : Int)] 3).cell (by omega) (n + 1) rfl (by omega) HG.out ?_; intro A8 c8 w8 hr8 hG8)
              go_roundw
              case rel => exact ⟨i + 1, n + 1, c8, A8, us ++ [v], by omega, by omega, by go_num, rfl, hide hr8, hide ((HB.out.trans (F.mono HB.out.size)).trans hG8.1), HN⟩
              case measure => simp [RowKit.intOf]; omega
            · have d4 : decide ((s[f].toNat : Int) < 48) = false := decide_eq_false (by omega)
              by_cases h7 : 57 < s[f].toNat
              · have d5 : decide ((57 : Int) < (s[f].toNat : Int)) = true := decide_eq_true (by omega)
                have HF := hide (show prevD s.data.toList i = false from by rw [HF0.out]; exact dg_false.2 (by omega))
                obtain ⟨v, hv⟩ : ∃ v, numR 3 0 (s.data.toList.drop i) = v := ⟨_, rfl⟩
                have HN := hide (show (us ++ [v]) ++ rnums (prevD s.data.toList (i + 1)) (s.data.toList.drop (i + 1)) = R from by
                  have hd : dg s[i] = true := dg_true.2 (by omega)
                  rw [HP.out, hd]
                  have h := HD.out
                  rw [HF.out] at h
                  conv at h => lhs; unfold rnums
                  rw [if_pos hd, if_neg (by decide), ← HE.out, hv] at h
                  rw [List.append_assoc]
                  exact h)
                have HNV := hide (fun (W' : World) => number_any (s.extract i s.size) W' (by have h1 := Lib.size_eq (s.extract i s.size); rw [Lib.extract_to_end, List.length_drop] at h1; have h2 := HZ.out; omega) v (by rw [Lib.extract_to_end]; exact hv))
                have i2 : (i : Int) ≤ (s.size : Int) := by omega
                have F : Below W.heap.size W (W.alloc (.cells #[.int .i64 (v : Int)] 3)) := (Below.refl _ _).alloc (Nat.le_refl _) _
                have hB := HB.out
                have HG := hide (show w.heap.size ≤ (W.alloc (.cells #[.int .i64 (v : Int)] 3)).heap.size from Nat.le_trans hB.size F.size)
                clear hB hv HD HP HE
                go_wp2_with fail
                refine (HNV.out _).mono ?_
                rintro e w2 ⟨rfl, rfl⟩
                go_wp2_with (at_builtin; refine wpList_append_ir rfl _ _ 34 rfl 8 Tryd.underlying34 int_info w.heap.size A n c us rfl (H1.out.below F) W.heap.size 0 1 v rfl (Box.new W #[.int .i64 (v : Int)] 3).cell (by omega) (n + 1) rfl (by omega) HG.out ?_; intro A8 c8 w8 hr8 hG8)
                go_roundw
                case rel => exact ⟨i + 1, n + 1, c8, A8, us ++ [v], by omega, by omega, by go_num, rfl, hide hr8, hide ((HB.out.trans (F.mono HB.out.size)).trans hG8.1), HN⟩
                case measure => simp [RowKit.intOf]; omega
              · have d5 : decide ((57 : Int) < (s[f].toNat : Int)) = false := decide_eq_false (by omega)
                have HN := hide (show us ++ rnums (prevD s.data.toList (i + 1)) (s.data.toList.drop (i + 1)) = R from by
                  have hd : dg s[i] = true := dg_true.2 (by omega)
                  have hp : dg s[f] = true := dg_true.2 (by omega)
                  rw [HP.out, hd]
                  have h := HD.out
                  rw [HF0.out, hp] at h
                  conv at h => lhs; unfold rnums
                  rw [if_pos hd, if_pos rfl, List.nil_append] at h
                  exact h)
                clear HD HP HE
                go_wp2_with fail
                go_roundw
                case rel => exact ⟨i + 1, n, c, A, us, by omega, by omega, by go_num, rfl, H1, HB, HN⟩
                case measure => simp [RowKit.intOf]; omega
        · have d3 : decide ((s[i].toNat : Int) ≤ 57) = false := decide_eq_false (by omega)
          have HN := hide (show us ++ rnums (prevD s.data.toList (i + 1)) (s.data.toList.drop (i + 1)) = R from by
            have hd : dg s[i] = false := dg_false.2 (by omega)
            rw [HP.out, hd]
            have h := HD.out
            conv at h => lhs; unfold rnums
            rw [if_neg (by rw [hd]; decide)] at h
            exact h)
          clear HD HP HE
          go_wp2_with fail
          go_roundw
          case rel => exact ⟨i + 1, n, c, A, us, by omega, by omega, by go_num, rfl, H1, HB, HN⟩
          case measure => simp [RowKit.intOf]; omega
      · have d2 : decide ((48 : Int) ≤ (s[i].toNat : Int)) = false := decide_eq_false (by omega)
        have HN := hide (show us ++ rnums (prevD s.data.toList (i + 1)) (s.data.toList.drop (i + 1)) = R from by
          have hd : dg s[i] = false := dg_false.2 (by omega)
          rw [HP.out, hd]
          have h := HD.out
          conv at h => lhs; unfold rnums
          rw [if_neg (by rw [hd]; decide)] at h
          exact h)
        clear HD HP HE
        go_wp2_with fail
        go_roundw
        case rel => exact ⟨i + 1, n, c, A, us, by omega, by omega, by go_num, rfl, H1, HB, HN⟩
        case measure => simp [RowKit.intOf]; omega
    · obtain rfl : i = s.size := by omega
      have hus : us = R := by
        have h := HU.out
        rw [List.drop_of_length_le (by rw [← HZ.out]; exact Nat.le_refl _)] at h
        rw [show rnums (prevD s.data.toList s.size) [] = [] by cases (prevD s.data.toList s.size) <;> rfl, List.append_nil] at h
        exact h
      subst hus
      have d0 : decide ((s.size : Int) < (s.size : Int)) = false := decide_eq_false (by omega)
      go_wp2_with fail
      go_ret
      exact ⟨A, n, c, rfl, H1.out, HB.out⟩
end Go.Proofs.YtdoknlodnpeeoaaDoor
