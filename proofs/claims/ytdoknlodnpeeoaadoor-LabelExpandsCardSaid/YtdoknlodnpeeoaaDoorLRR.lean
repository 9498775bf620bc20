/- The reference's Runs. -/
import Derived.Test.YtdoknlodnpeeoaaDoorLAsc
import Derived.Test.YtdoknlodnpeeoaaDoorLCpl
import Derived.IntWalk
namespace Go.Proofs.YtdoknlodnpeeoaaDoor
open Go Go.RowKit Go.Lib

theorem add_run5 (X Y : ByteArray) (h : X.size + Y.size ≤ 100000) (W : World) : (Op.stringOp .add X Y).run Tryd.prog W = .ok (.string (X ++ Y)) W := by
  simp [Op.stringOp, go_sem]
  try omega
def prevAt (xs : List Int) : Nat → Option Int
  | 0 => none
  | i + 1 => xs[i]?
def firstO : Option Int → Int → Bool
  | none, _ => true
  | some q, x => !(q == x - 1)
def lastO (x : Int) : List Int → Bool
  | [] => true
  | y :: _ => !(y == x + 1)
/-- the rest of the text, behind a number or none -/
def restO : Option Int → List Int → List UInt8
  | _, [] => []
  | p, x :: l => (if firstO p x && p.isSome then [44, 32] else []) ++ (if firstO p x || lastO x l then Lib.decDigits x.toNat else []) ++ (if firstO p x && !lastO x l then [45] else []) ++ restO (some x) l
theorem rruns_bad (A : Option Addr) (m c : Nat) (xs : List Int) (w : World) (hx : IL w A m xs) (hm : m ≤ maxLen) (hr : setB 1000 1 xs = false) :
    Calls Tryd.prog 21 #[.slice A m c] w fun e w' => e = .returned (.tuple #[.string ⟨#[]⟩, .int .i64 1]) ∧ Below w.heap.size w w' := by
  have HX := hide hx
  have HR := hide hr
  clear hx hr
  go_enter Tryd.func21, Tryd.ntmps21
  go_wp2_with fail
  refine (asc5_any A m c xs _ HX.out hm false HR.out).mono ?_
  rintro e w1 ⟨rfl, hb⟩
  go_wp2_with fail
  refine bodyPost_ret (v := .tuple #[.string ⟨#[]⟩, .int .i64 1]) (by simp [results, Tryd.results21, go_sem, *]) rfl ?_
  exact ⟨rfl, hb⟩
set_option maxRecDepth 100000 in
set_option maxHeartbeats 16000000 in
theorem rruns_ok (A : Option Addr) (m c : Nat) (xs : List Int) (w : World) (hx : IL w A m xs) (_hm : m ≤ maxLen) (hr : setB 1000 1 xs = true) (S : ByteArray) (hS : strB (restO none xs) = S) :
    Calls Tryd.prog 21 #[.slice A m c] w fun e w' => e = .returned (.tuple #[.string S, .int .i64 0]) ∧ Below w.heap.size w w' := by
  have HX := hide hx
  have HR := hide hr
  have hm9 : m ≤ 999 := by
    have h1 := hx.len
    rcases setB_len 1000 xs 1 hr with h | h
    · subst h; simp at h1; omega
    · omega
  have HIN := hide (setB_in 1000 xs 1 hr)
  have HS := hide (show restO none xs = S.data.toList from by rw [← hS, data_strB])
  clear hx hr hS
  go_enter Tryd.func21, Tryd.ntmps21
  go_wp2_with fail
  refine (asc5_any A m c xs _ HX.out (by unfold maxLen; omega) true HR.out).mono ?_
  rintro e w1 ⟨rfl, hb⟩
  go_wp2_with fail
  go_loopw [4, 5] (fun v4 v5 wr => ∃ (k : Nat) (T : ByteArray), k ≤ m ∧ v5 = .int .i64 ((k : Nat) : Int) ∧ v4 = .string T ∧ T.size ≤ 6 * k ∧ Hid (Below w.heap.size w wr) ∧ Hid (T.data.toList ++ restO (prevAt xs k) (xs.drop k) = S.data.toList)) (fun _ v5 _ => m - (RowKit.intOf v5).toNat)
  case atStart => exact ⟨0, ⟨#[]⟩, by omega, rfl, rfl, Nat.zero_le _, hide hb, hide (by rw [List.drop_zero]; exact HS.out)⟩
  case round =>
    clear hb
    obtain ⟨k, T, hk, rfl, rfl, hTs, HB, HI⟩ := hrel
    generalize hwr : wr = W at *
    clear hwr
    by_cases hlt : k < m
    · have d0 : decide ((k : Int) < (m : Int)) = true := decide_eq_true (by omega)
      have HXX := hide (HX.out.below HB.out)
      obtain ⟨b, o, x, rfl, hx1, k0⟩ := HXX.out.at_ hlt
      have hin := HIN.out x (List.mem_of_getElem? hx1)
      obtain ⟨n, rfl⟩ : ∃ n : Nat, x = (n : Int) := ⟨x.toNat, by omega⟩
      have hn1 : 1 ≤ n := by omega
      have hn9 : n ≤ 999 := by omega
      have HX1 := hide hx1
      obtain ⟨N, hN⟩ : ∃ N, strB (Lib.decDigits n) = N := ⟨_, rfl⟩
      have HN := hide hN
      have hNs : N.size ≤ 3 := by rw [← hN, strB_size]; exact dec_len3 3 n (by omega) (by omega)
      have HND := hide (show Lib.decDigits n = N.data.toList from by rw [← hN, data_strB])
      have HD := hide (show T.data.toList ++ restO (prevAt xs k) ((n : Int) :: xs.drop (k + 1)) = S.data.toList from by rw [← drop_at5 hx1]; exact HI.out)
      have i1 : (0 : Int) ≤ (k : Int) := by omega
      have i2 : (k : Int) < (m : Int) := by omega
      have hwn : IntKind.i64.wrap ((n : Int) - 1) = (n : Int) - 1 := IntWalk.i64_in _ (by omega)
      have hwp : IntKind.i64.wrap ((n : Int) + 1) = (n : Int) + 1 := IntWalk.i64_in _ (by omega)
      have hwm : IntKind.i64.wrap ((m : Int) - 1) = (m : Int) - 1 := IntWalk.i64_in _ (by omega)
      have hwk : IntKind.i64.wrap ((k : Int) + 1) = (k : Int) + 1 := IntWalk.i64_in _ (by omega)
      have HP : Hid (prevAt xs (k + 1) = some (n : Int)) := hide hx1
      clear hx1 hin hN HI
      have HBB : Hid (∀ (a : Nat) (w' : World), Below (W.drewN a).heap.size (W.drewN a) w' → Below w.heap.size w w') := hide fun a w' h => (below_drewN HB.out a).trans (h.mono (below_drewN HB.out a).size)
      have hl : (m = k + 1) ∨ ∃ y, xs[k + 1]? = some y ∧ w = w ∧ k + 1 < m := by
        by_cases h : k + 1 < m
        · obtain ⟨_, _, y, _, h1, _⟩ := HXX.out.at_ h
          exact .inr ⟨y, h1, rfl, h⟩
        · exact .inl (by omega)
      rcases Nat.eq_zero_or_pos k with hk0 | hk0
      · have e0 : ((k : Int) == 0) = true := beq_iff_eq.2 (by omega)
        have d1 : decide (0 < (k : Int)) = false := decide_eq_false (by omega)
        have HF := hide (show prevAt xs k = none from by rw [hk0]; rfl)
        have HFO := hide (show firstO none (n : Int) = true from rfl)
        have nk : ¬ 0 < k := by omega
        clear hk0
        rcases hl with hl | ⟨y, hy, -, hkm⟩
        · have e1 : ((k : Int) == (m : Int) - 1) = true := beq_iff_eq.2 (by omega)
          have HLO := hide (show lastO (n : Int) (xs.drop (k + 1)) = true from by rw [List.drop_of_length_le (by rw [HX.out.len]; omega)]; rfl)
          clear hl
          have A1 := fun (W : World) => add_run5 (T) N (by have q1 : (⟨#[44, 32]⟩ : ByteArray).size = 2 := rfl; have q2 : (⟨#[45]⟩ : ByteArray).size = 1 := rfl; (try simp only [ByteArray.size_append]); omega) W
          have HE := hide (show (T ++ N).data.toList ++ restO (prevAt xs (k + 1)) (xs.drop (k + 1)) = S.data.toList from by
            rw [← HD.out, HF.out, HP.out]
            conv => rhs; unfold restO
            rw [HFO.out, HLO.out, Int.toNat_natCast, HND.out]
            simp)
          have HZ := hide (show (T ++ N).size ≤ 6 * (k + 1) from by have q1 : (⟨#[44, 32]⟩ : ByteArray).size = 2 := rfl; have q2 : (⟨#[45]⟩ : ByteArray).size = 1 := rfl; (try simp only [ByteArray.size_append]); omega)
          clear HD HFO HLO HF HP
          go_wp2_with fail
          go_quiet (fail)
          go_wp2_with fail
          go_quiet (fail)
          go_wp2_with fail
          refine (decimal_any n _ (by omega) N HN.out).mono ?_
          rintro e w2 ⟨rfl, hb⟩
          go_wp2_with fail
          go_roundw
          case rel => exact ⟨k + 1, _, by omega, by go_num, rfl, HZ.out, hide (HBB.out _ _ hb), HE⟩
          case measure => simp [RowKit.intOf]; omega
        · have e1 : ((k : Int) == (m : Int) - 1) = false := beq_eq_false_iff_ne.2 (by omega)
          obtain ⟨b', o', y', ee, hy', k2⟩ := HXX.out.at_ hkm
          injection ee with ee
          injection ee with e1' e2'
          subst e1'
          subst e2'
          rw [hy] at hy'
          injection hy' with hy'
          subst hy'
          have k3 : W.cell? ⟨b, o + (k + 1), none⟩ = some (.int .i64 y) := k2
          have i5 : (0 : Int) ≤ (k : Int) + 1 := by omega
          have i6 : (k : Int) + 1 < (m : Int) := by omega
          have HLO0 := hide (show lastO (n : Int) (xs.drop (k + 1)) = !(y == (n : Int) + 1) from by rw [drop_at5 hy]; rfl)
          clear hy k2
          by_cases hyn : y = (n : Int) + 1
          · have e2 : (y == (n : Int) + 1) = true := beq_iff_eq.2 hyn
            have e3 : (y != (n : Int) + 1) = false := by simp [hyn]
            have HLO := hide (show lastO (n : Int) (xs.drop (k + 1)) = false from by rw [HLO0.out, e2]; rfl)
            clear HLO0 hyn
            have A1 := fun (W : World) => add_run5 (T) N (by have q1 : (⟨#[44, 32]⟩ : ByteArray).size = 2 := rfl; have q2 : (⟨#[45]⟩ : ByteArray).size = 1 := rfl; (try simp only [ByteArray.size_append]); omega) W
            have A2 := fun (W : World) => add_run5 (T ++ N) ⟨#[45]⟩ (by have q1 : (⟨#[44, 32]⟩ : ByteArray).size = 2 := rfl; have q2 : (⟨#[45]⟩ : ByteArray).size = 1 := rfl; (try simp only [ByteArray.size_append]); omega) W
            have HE := hide (show ((T ++ N) ++ ⟨#[45]⟩).data.toList ++ restO (prevAt xs (k + 1)) (xs.drop (k + 1)) = S.data.toList from by
              rw [← HD.out, HF.out, HP.out]
              conv => rhs; unfold restO
              rw [HFO.out, HLO.out, Int.toNat_natCast, HND.out]
              simp)
            have HZ := hide (show ((T ++ N) ++ ⟨#[45]⟩).size ≤ 6 * (k + 1) from by have q1 : (⟨#[44, 32]⟩ : ByteArray).size = 2 := rfl; have q2 : (⟨#[45]⟩ : ByteArray).size = 1 := rfl; (try simp only [ByteArray.size_append]); omega)
            clear HD HFO HLO HF HP
            go_wp2_with fail
            go_quiet (fail)
            go_wp2_with fail
            go_quiet (fail)
            go_wp2_with fail
            refine (decimal_any n _ (by omega) N HN.out).mono ?_
            rintro e w2 ⟨rfl, hb⟩
            go_wp2_with fail
            go_roundw
            case rel => exact ⟨k + 1, _, by omega, by go_num, rfl, HZ.out, hide (HBB.out _ _ hb), HE⟩
            case measure => simp [RowKit.intOf]; omega
          · have e2 : (y == (n : Int) + 1) = false := beq_eq_false_iff_ne.2 hyn
            have e3 : (y != (n : Int) + 1) = true := by simp [hyn]
            have HLO := hide (show lastO (n : Int) (xs.drop (k + 1)) = true from by rw [HLO0.out, e2]; rfl)
            clear HLO0 hyn
            have A1 := fun (W : World) => add_run5 (T) N (by have q1 : (⟨#[44, 32]⟩ : ByteArray).size = 2 := rfl; have q2 : (⟨#[45]⟩ : ByteArray).size = 1 := rfl; (try simp only [ByteArray.size_append]); omega) W
            have HE := hide (show (T ++ N).data.toList ++ restO (prevAt xs (k + 1)) (xs.drop (k + 1)) = S.data.toList from by
              rw [← HD.out, HF.out, HP.out]
              conv => rhs; unfold restO
              rw [HFO.out, HLO.out, Int.toNat_natCast, HND.out]
              simp)
            have HZ := hide (show (T ++ N).size ≤ 6 * (k + 1) from by have q1 : (⟨#[44, 32]⟩ : ByteArray).size = 2 := rfl; have q2 : (⟨#[45]⟩ : ByteArray).size = 1 := rfl; (try simp only [ByteArray.size_append]); omega)
            clear HD HFO HLO HF HP
            go_wp2_with fail
            go_quiet (fail)
            go_wp2_with fail
            go_quiet (fail)
            go_wp2_with fail
            refine (decimal_any n _ (by omega) N HN.out).mono ?_
            rintro e w2 ⟨rfl, hb⟩
            go_wp2_with fail
            go_roundw
            case rel => exact ⟨k + 1, _, by omega, by go_num, rfl, HZ.out, hide (HBB.out _ _ hb), HE⟩
            case measure => simp [RowKit.intOf]; omega
      · have e0 : ((k : Int) == 0) = false := beq_eq_false_iff_ne.2 (by omega)
        have d1 : decide (0 < (k : Int)) = true := decide_eq_true (by omega)
        obtain ⟨f, hf⟩ : ∃ f, k = f + 1 := ⟨k - 1, by omega⟩
        obtain ⟨b', o', p, ee, hp1, k1⟩ := HXX.out.at_ (j := f) (by omega)
        injection ee with ee
        injection ee with e1' e2'
        subst e1'
        subst e2'
        have HF := hide (show prevAt xs k = some p from by rw [hf]; exact hp1)
        have he : (k : Int) - 1 = (f : Int) := by omega
        have hw : IntKind.i64.wrap (f : Int) = (f : Int) := IntWalk.i64_in _ (by omega)
        have i3 : (0 : Int) ≤ (f : Int) := by omega
        have i4 : (f : Int) < (m : Int) := by omega
        clear hp1 hf
        by_cases hpn : p = (n : Int) - 1
        · have f2 : (p == (n : Int) - 1) = true := beq_iff_eq.2 hpn
          have f3 : (p != (n : Int) - 1) = false := by simp [hpn]
          have HFO := hide (show firstO (some p) (n : Int) = false from by show (!(p == (n : Int) - 1)) = _; rw [f2]; rfl)
          clear hpn
          rcases hl with hl | ⟨y, hy, -, hkm⟩
          · have e1 : ((k : Int) == (m : Int) - 1) = true := beq_iff_eq.2 (by omega)
            have HLO := hide (show lastO (n : Int) (xs.drop (k + 1)) = true from by rw [List.drop_of_length_le (by rw [HX.out.len]; omega)]; rfl)
            clear hl
            have A1 := fun (W : World) => add_run5 (T) N (by have q1 : (⟨#[44, 32]⟩ : ByteArray).size = 2 := rfl; have q2 : (⟨#[45]⟩ : ByteArray).size = 1 := rfl; (try simp only [ByteArray.size_append]); omega) W
            have HE := hide (show (T ++ N).data.toList ++ restO (prevAt xs (k + 1)) (xs.drop (k + 1)) = S.data.toList from by
              rw [← HD.out, HF.out, HP.out]
              conv => rhs; unfold restO
              rw [HFO.out, HLO.out, Int.toNat_natCast, HND.out]
              simp)
            have HZ := hide (show (T ++ N).size ≤ 6 * (k + 1) from by have q1 : (⟨#[44, 32]⟩ : ByteArray).size = 2 := rfl; have q2 : (⟨#[45]⟩ : ByteArray).size = 1 := rfl; (try simp only [ByteArray.size_append]); omega)
            clear HD HFO HLO HF HP
            go_wp2_with fail
            go_quiet (fail)
            go_wp2_with fail
            go_quiet (fail)
            go_wp2_with fail
            refine (decimal_any n _ (by omega) N HN.out).mono ?_
            rintro e w2 ⟨rfl, hb⟩
            go_wp2_with fail
            go_roundw
            case rel => exact ⟨k + 1, _, by omega, by go_num, rfl, HZ.out, hide (HBB.out _ _ hb), HE⟩
            case measure => simp [RowKit.intOf]; omega
          · have e1 : ((k : Int) == (m : Int) - 1) = false := beq_eq_false_iff_ne.2 (by omega)
            obtain ⟨b', o', y', ee, hy', k2⟩ := HXX.out.at_ hkm
            injection ee with ee
            injection ee with e1' e2'
            subst e1'
            subst e2'
            rw [hy] at hy'
            injection hy' with hy'
            subst hy'
            have k3 : W.cell? ⟨b, o + (k + 1), none⟩ = some (.int .i64 y) := k2
            have i5 : (0 : Int) ≤ (k : Int) + 1 := by omega
            have i6 : (k : Int) + 1 < (m : Int) := by omega
            have HLO0 := hide (show lastO (n : Int) (xs.drop (k + 1)) = !(y == (n : Int) + 1) from by rw [drop_at5 hy]; rfl)
            clear hy k2
            by_cases hyn : y = (n : Int) + 1
            · have e2 : (y == (n : Int) + 1) = true := beq_iff_eq.2 hyn
              have e3 : (y != (n : Int) + 1) = false := by simp [hyn]
              have HLO := hide (show lastO (n : Int) (xs.drop (k + 1)) = false from by rw [HLO0.out, e2]; rfl)
              clear HLO0 hyn
              have HE := hide (show (T).data.toList ++ restO (prevAt xs (k + 1)) (xs.drop (k + 1)) = S.data.toList from by
                rw [← HD.out, HF.out, HP.out]
                conv => rhs; unfold restO
                rw [HFO.out, HLO.out, Int.toNat_natCast, HND.out]
                simp)
              have HZ := hide (show (T).size ≤ 6 * (k + 1) from by have q1 : (⟨#[44, 32]⟩ : ByteArray).size = 2 := rfl; have q2 : (⟨#[45]⟩ : ByteArray).size = 1 := rfl; (try simp only [ByteArray.size_append]); omega)
              clear HD HFO HLO HF HP
              go_wp2_with fail
              go_quiet (fail)
              go_wp2_with fail
              go_quiet (fail)
              go_wp2_with fail
              go_roundw
              case rel => exact ⟨k + 1, _, by omega, by go_num, rfl, HZ.out, hide (HBB.out _ _ (Below.refl _ _)), HE⟩
              case measure => simp [RowKit.intOf]; omega
            · have e2 : (y == (n : Int) + 1) = false := beq_eq_false_iff_ne.2 hyn
              have e3 : (y != (n : Int) + 1) = true := by simp [hyn]
              have HLO := hide (show lastO (n : Int) (xs.drop (k + 1)) = true from by rw [HLO0.out, e2]; rfl)
              clear HLO0 hyn
              have A1 := fun (W : World) => add_run5 (T) N (by have q1 : (⟨#[44, 32]⟩ : ByteArray).size = 2 := rfl; have q2 : (⟨#[45]⟩ : ByteArray).size = 1 := rfl; (try simp only [ByteArray.size_append]); omega) W
              have HE := hide (show (T ++ N).data.toList ++ restO (prevAt xs (k + 1)) (xs.drop (k + 1)) = S.data.toList from by
                rw [← HD.out, HF.out, HP.out]
                conv => rhs; unfold restO
                rw [HFO.out, HLO.out, Int.toNat_natCast, HND.out]
                simp)
              have HZ := hide (show (T ++ N).size ≤ 6 * (k + 1) from by have q1 : (⟨#[44, 32]⟩ : ByteArray).size = 2 := rfl; have q2 : (⟨#[45]⟩ : ByteArray).size = 1 := rfl; (try simp only [ByteArray.size_append]); omega)
              clear HD HFO HLO HF HP
              go_wp2_with fail
              go_quiet (fail)
              go_wp2_with fail
              go_quiet (fail)
              go_wp2_with fail
              refine (decimal_any n _ (by omega) N HN.out).mono ?_
              rintro e w2 ⟨rfl, hb⟩
              go_wp2_with fail
              go_roundw
              case rel => exact ⟨k + 1, _, by omega, by go_num, rfl, HZ.out, hide (HBB.out _ _ hb), HE⟩
              case measure => simp [RowKit.intOf]; omega
        · have f2 : (p == (n : Int) - 1) = false := beq_eq_false_iff_ne.2 hpn
          have f3 : (p != (n : Int) - 1) = true := by simp [hpn]
          have HFO := hide (show firstO (some p) (n : Int) = true from by show (!(p == (n : Int) - 1)) = _; rw [f2]; rfl)
          clear hpn
          rcases hl with hl | ⟨y, hy, -, hkm⟩
          · have e1 : ((k : Int) == (m : Int) - 1) = true := beq_iff_eq.2 (by omega)
            have HLO := hide (show lastO (n : Int) (xs.drop (k + 1)) = true from by rw [List.drop_of_length_le (by rw [HX.out.len]; omega)]; rfl)
            clear hl
            have A1 := fun (W : World) => add_run5 (T) ⟨#[44, 32]⟩ (by have q1 : (⟨#[44, 32]⟩ : ByteArray).size = 2 := rfl; have q2 : (⟨#[45]⟩ : ByteArray).size = 1 := rfl; (try simp only [ByteArray.size_append]); omega) W
            have A2 := fun (W : World) => add_run5 (T ++ ⟨#[44, 32]⟩) N (by have q1 : (⟨#[44, 32]⟩ : ByteArray).size = 2 := rfl; have q2 : (⟨#[45]⟩ : ByteArray).size = 1 := rfl; (try simp only [ByteArray.size_append]); omega) W
            have HE := hide (show ((T ++ ⟨#[44, 32]⟩) ++ N).data.toList ++ restO (prevAt xs (k + 1)) (xs.drop (k + 1)) = S.data.toList from by
              rw [← HD.out, HF.out, HP.out]
              conv => rhs; unfold restO
              rw [HFO.out, HLO.out, Int.toNat_natCast, HND.out]
              simp)
            have HZ := hide (show ((T ++ ⟨#[44, 32]⟩) ++ N).size ≤ 6 * (k + 1) from by have q1 : (⟨#[44, 32]⟩ : ByteArray).size = 2 := rfl; have q2 : (⟨#[45]⟩ : ByteArray).size = 1 := rfl; (try simp only [ByteArray.size_append]); omega)
            clear HD HFO HLO HF HP
            go_wp2_with fail
            go_quiet (fail)
            go_wp2_with fail
            go_quiet (fail)
            go_wp2_with fail
            refine (decimal_any n _ (by omega) N HN.out).mono ?_
            rintro e w2 ⟨rfl, hb⟩
            go_wp2_with fail
            go_roundw
            case rel => exact ⟨k + 1, _, by omega, by go_num, rfl, HZ.out, hide (HBB.out _ _ hb), HE⟩
            case measure => simp [RowKit.intOf]; omega
          · have e1 : ((k : Int) == (m : Int) - 1) = false := beq_eq_false_iff_ne.2 (by omega)
            obtain ⟨b', o', y', ee, hy', k2⟩ := HXX.out.at_ hkm
            injection ee with ee
            injection ee with e1' e2'
            subst e1'
            subst e2'
            rw [hy] at hy'
            injection hy' with hy'
            subst hy'
            have k3 : W.cell? ⟨b, o + (k + 1), none⟩ = some (.int .i64 y) := k2
            have i5 : (0 : Int) ≤ (k : Int) + 1 := by omega
            have i6 : (k : Int) + 1 < (m : Int) := by omega
            have HLO0 := hide (show lastO (n : Int) (xs.drop (k + 1)) = !(y == (n : Int) + 1) from by rw [drop_at5 hy]; rfl)
            clear hy k2
            by_cases hyn : y = (n : Int) + 1
            · have e2 : (y == (n : Int) + 1) = true := beq_iff_eq.2 hyn
              have e3 : (y != (n : Int) + 1) = false := by simp [hyn]
              have HLO := hide (show lastO (n : Int) (xs.drop (k + 1)) = false from by rw [HLO0.out, e2]; rfl)
              clear HLO0 hyn
              have A1 := fun (W : World) => add_run5 (T) ⟨#[44, 32]⟩ (by have q1 : (⟨#[44, 32]⟩ : ByteArray).size = 2 := rfl; have q2 : (⟨#[45]⟩ : ByteArray).size = 1 := rfl; (try simp only [ByteArray.size_append]); omega) W
              have A2 := fun (W : World) => add_run5 (T ++ ⟨#[44, 32]⟩) N (by have q1 : (⟨#[44, 32]⟩ : ByteArray).size = 2 := rfl; have q2 : (⟨#[45]⟩ : ByteArray).size = 1 := rfl; (try simp only [ByteArray.size_append]); omega) W
              have A3 := fun (W : World) => add_run5 ((T ++ ⟨#[44, 32]⟩) ++ N) ⟨#[45]⟩ (by have q1 : (⟨#[44, 32]⟩ : ByteArray).size = 2 := rfl; have q2 : (⟨#[45]⟩ : ByteArray).size = 1 := rfl; (try simp only [ByteArray.size_append]); omega) W
              have HE := hide (show (((T ++ ⟨#[44, 32]⟩) ++ N) ++ ⟨#[45]⟩).data.toList ++ restO (prevAt xs (k + 1)) (xs.drop (k + 1)) = S.data.toList from by
                rw [← HD.out, HF.out, HP.out]
                conv => rhs; unfold restO
                rw [HFO.out, HLO.out, Int.toNat_natCast, HND.out]
                simp)
              have HZ := hide (show (((T ++ ⟨#[44, 32]⟩) ++ N) ++ ⟨#[45]⟩).size ≤ 6 * (k + 1) from by have q1 : (⟨#[44, 32]⟩ : ByteArray).size = 2 := rfl; have q2 : (⟨#[45]⟩ : ByteArray).size = 1 := rfl; (try simp only [ByteArray.size_append]); omega)
              clear HD HFO HLO HF HP
              go_wp2_with fail
              go_quiet (fail)
              go_wp2_with fail
              go_quiet (fail)
              go_wp2_with fail
              refine (decimal_any n _ (by omega) N HN.out).mono ?_
              rintro e w2 ⟨rfl, hb⟩
              go_wp2_with fail
              go_roundw
              case rel => exact ⟨k + 1, _, by omega, by go_num, rfl, HZ.out, hide (HBB.out _ _ hb), HE⟩
              case measure => simp [RowKit.intOf]; omega
            · have e2 : (y == (n : Int) + 1) = false := beq_eq_false_iff_ne.2 hyn
              have e3 : (y != (n : Int) + 1) = true := by simp [hyn]
              have HLO := hide (show lastO (n : Int) (xs.drop (k + 1)) = true from by rw [HLO0.out, e2]; rfl)
              clear HLO0 hyn
              have A1 := fun (W : World) => add_run5 (T) ⟨#[44, 32]⟩ (by have q1 : (⟨#[44, 32]⟩ : ByteArray).size = 2 := rfl; have q2 : (⟨#[45]⟩ : ByteArray).size = 1 := rfl; (try simp only [ByteArray.size_append]); omega) W
              have A2 := fun (W : World) => add_run5 (T ++ ⟨#[44, 32]⟩) N (by have q1 : (⟨#[44, 32]⟩ : ByteArray).size = 2 := rfl; have q2 : (⟨#[45]⟩ : ByteArray).size = 1 := rfl; (try simp only [ByteArray.size_append]); omega) W
              have HE := hide (show ((T ++ ⟨#[44, 32]⟩) ++ N).data.toList ++ restO (prevAt xs (k + 1)) (xs.drop (k + 1)) = S.data.toList from by
                rw [← HD.out, HF.out, HP.out]
                conv => rhs; unfold restO
                rw [HFO.out, HLO.out, Int.toNat_natCast, HND.out]
                simp)
              have HZ := hide (show ((T ++ ⟨#[44, 32]⟩) ++ N).size ≤ 6 * (k + 1) from by have q1 : (⟨#[44, 32]⟩ : ByteArray).size = 2 := rfl; have q2 : (⟨#[45]⟩ : ByteArray).size = 1 := rfl; (try simp only [ByteArray.size_append]); omega)
              clear HD HFO HLO HF HP
              go_wp2_with fail
              go_quiet (fail)
              go_wp2_with fail
              go_quiet (fail)
              go_wp2_with fail
              refine (decimal_any n _ (by omega) N HN.out).mono ?_
              rintro e w2 ⟨rfl, hb⟩
              go_wp2_with fail
              go_roundw
              case rel => exact ⟨k + 1, _, by omega, by go_num, rfl, HZ.out, hide (HBB.out _ _ hb), HE⟩
              case measure => simp [RowKit.intOf]; omega
    · obtain rfl : k = m := by omega
      have hTS : T = S := by
        have h := HI.out
        rw [List.drop_of_length_le (by rw [HX.out.len]; exact Nat.le_refl _)] at h
        rw [show restO (prevAt xs k) [] = [] by cases (prevAt xs k) <;> rfl, List.append_nil] at h
        rw [← strB_data T, h, strB_data]
      subst hTS
      have d0 : decide ((k : Int) < (k : Int)) = false := decide_eq_false (by omega)
      go_wp2_with fail
      refine bodyPost_ret (v := .tuple #[.string T, .int .i64 0]) (by simp [results, Tryd.results21, go_sem, *]) rfl ?_
      exact ⟨rfl, HB.out⟩
end Go.Proofs.YtdoknlodnpeeoaaDoor
