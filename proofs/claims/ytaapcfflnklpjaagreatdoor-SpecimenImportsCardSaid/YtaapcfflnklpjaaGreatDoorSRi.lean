/- The reference's Import. -/
import Derived.Test.YtaapcfflnklpjaaGreatDoorSRp
import Derived.Test.YtaapcfflnklpjaaGreatDoorSRe
import Derived.Test.YtaapcfflnklpjaaGreatDoorSP
namespace Go.Proofs.YtaapcfflnklpjaaGreatDoor
open Go Go.RowKit Go.Lib
theorem ex_list9 (D : ByteArray) (i j : Nat) : (D.extract i j).data.toList = (D.data.toList.take j).drop i := by
  rw [ByteArray.data_extract, Array.toList_extract, List.extract_eq_take_drop, List.drop_take]
theorem rl_end (cur l : List UInt8) (c : UInt8) (h : c.toNat = 10) : rlinesF cur (c :: l) = cur :: rlinesF [] l := by
  have : c = 10 := UInt8.toNat_inj.1 h
  conv => lhs; unfold rlinesF
  rw [if_pos this]
theorem rl_go (cur l : List UInt8) (c : UInt8) (h : c.toNat ≠ 10) : rlinesF cur (c :: l) = rlinesF (cur ++ [c]) l := by
  have : ¬ c = 10 := fun e => h (by rw [e]; rfl)
  conv => lhs; unfold rlinesF
  rw [if_neg this]
theorem cut_snoc (L : List UInt8) (fr m : Nat) (c : UInt8) (h : L[m]? = some c) (hf : fr ≤ m) : (L.take (m + 1)).drop fr = (L.take m).drop fr ++ [c] := by
  have hm : m < L.length := (List.getElem?_eq_some_iff.1 h).1
  rw [List.take_add_one, h, List.drop_append_of_le_length (by rw [List.length_take]; omega)]
  rfl
theorem cut_new (L : List UInt8) (m : Nat) : (L.take m).drop m = [] := List.drop_eq_nil_of_le (by rw [List.length_take]; omega)
set_option maxHeartbeats 2000000 in
theorem rimport_full (s : ByteArray) (w : World) (h : 4096 < s.size) : Calls Tryz.prog 35 #[.string s] w (GivesI s.data.toList w) := by
  have d0 : decide ((4096 : Int) < (s.size : Int)) = true := decide_eq_true (by omega)
  go_enter Tryz.func35, Tryz.ntmps35
  go_wp2_with fail
  go_ret2
  exact ⟨none, 0, 0, [], 6, rfl, SL.nil_ _ _, Nat.zero_le _, .inr (.inr ⟨by rw [← Lib.size_eq]; exact h, rfl, rfl⟩), Below.refl _ _⟩
set_option maxHeartbeats 8000000 in
set_option maxRecDepth 100000 in
theorem rimport_ok (s : ByteArray) (w : World) (hT : Lw w) (h : s.size ≤ 4096) : Calls Tryz.prog 35 #[.string s] w (GivesI s.data.toList w) := by
  have d0 : decide ((4096 : Int) < (s.size : Int)) = false := decide_eq_false (by omega)
  have HT := hide hT
  have HL := hide (show s.data.toList.length ≤ 4096 by rw [← Lib.size_eq]; exact h)
  clear hT
  go_enter Tryz.func35, Tryz.ntmps35
  go_wp2_with fail
  go_loopw [4, 5, 6] (fun v f a wr => ∃ (m fr q co : Nat) (Ao : Option Addr) (xs : List Spc), v = .slice Ao q co ∧ f = .int .i64 (fr : Int) ∧ a = .int .i64 (m : Int) ∧ m ≤ s.size ∧ fr ≤ m ∧ q ≤ m ∧ Hid (q = xs.length) ∧ Hid (∃ ls, Takes ls xs ∧ ls ++ rlinesF ((s.data.toList.take m).drop fr) (s.data.toList.drop m) = rlinesF [] s.data.toList) ∧ Hid (OwnS wr w.heap.size (.slice Ao q co) xs) ∧ Hid (Below w.heap.size w wr)) (fun _ _ a _ => s.size - (RowKit.intOf a).toNat)
  case atStart => exact ⟨0, 0, 0, 0, none, [], rfl, rfl, rfl, Nat.zero_le _, Nat.zero_le _, Nat.zero_le _, hide rfl, hide ⟨[], trivial, rfl⟩, hide (OwnS.nil_ _ _), hide (Below.refl _ _)⟩
  case round =>
    obtain ⟨m, fr, q, co, Ao, xs, rfl, rfl, rfl, hm, hfr, hq, HQ, HLS, HO, HB⟩ := hrel
    by_cases hlt : m < s.size
    · have d1 : decide ((m : Int) < (s.size : Int)) = true := decide_eq_true (by omega)
      have i1 : (0 : Int) ≤ (m : Int) := by omega
      have hat := at_some s m hlt
      have hdr := drop_atB hat
      by_cases hc : s[m].toNat = 10
      · have c1 : ((s[m].toNat : Int) == 10) = true := beq_iff_eq.2 (by omega)
        obtain ⟨Y, hY⟩ : ∃ Y, s.extract fr m = Y := ⟨_, rfl⟩
        have hYd : Y.data.toList = (s.data.toList.take m).drop fr := by rw [← hY]; exact ex_list9 s fr m
        have HYZ := hide (show Y.size ≤ 4200 by rw [Lib.size_eq, hYd, List.length_drop, List.length_take]; omega)
        obtain ⟨X, er, hp⟩ := PR.ex Y.data.toList
        have HP := hide hp
        have HN := hide (show ∃ ls, Takes ls (xs ++ [X]) ∧ ls ++ rlinesF ((s.data.toList.take (m + 1)).drop (m + 1)) (s.data.toList.drop (m + 1)) = rlinesF [] s.data.toList by
          obtain ⟨ls, h1, h2⟩ := HLS.out
          rw [hdr, rl_end _ _ _ hc] at h2
          refine ⟨ls ++ [(s.data.toList.take m).drop fr], h1.snoc (by rw [← hYd]; exact hp), ?_⟩
          rw [cut_new, List.append_assoc]
          exact h2)
        have w1 : IntKind.i64.wrap ((m : Int) + 1) = (m : Int) + 1 := IntWalk.i64_in _ (by omega)
        have i2 : (0 : Int) ≤ (fr : Int) := by omega
        have i3 : (fr : Int) ≤ (m : Int) := by omega
        have i4 : (m : Int) ≤ (s.size : Int) := by omega
        clear hc hat hdr hYd hp HLS
        go_wp2_with fail
        refine (rparse9_any Y _ (HT.out.below HB.out) HYZ.out X er HP.out).mono ?_
        rintro e w4 ⟨rfl, hb4⟩
        have F : Below w4.heap.size w4 ((w4.alloc (.cells #[.int .i64 X.i, .int .i64 X.o, .int .i64 X.r, .int .i64 X.a, .int .i64 X.b, .int .i64 X.h, .int .i64 X.m] 23)).alloc (.cells #[.int .i64 X.i, .int .i64 X.o, .int .i64 X.r, .int .i64 X.a, .int .i64 X.b, .int .i64 X.h, .int .i64 X.m] 23)) := ((Below.refl _ _).alloc (Nat.le_refl _) _).alloc (by simp) _
        have HOR := hide (OwnS.keep HO.out (nxt hb4 F))
        have hbx := Box.new (w4.alloc (.cells #[.int .i64 X.i, .int .i64 X.o, .int .i64 X.r, .int .i64 X.a, .int .i64 X.b, .int .i64 X.h, .int .i64 X.m] 23)) #[.int .i64 X.i, .int .i64 X.o, .int .i64 X.r, .int .i64 X.a, .int .i64 X.b, .int .i64 X.h, .int .i64 X.m] 23
        rw [World.size_alloc] at hbx
        have HBX := hide (sl_box (X := X) hbx)
        have HBF := hide (nxt HB.out (nxt hb4 F))
        have E9 := hide (show (xs ++ [X]).length = q + 1 by rw [List.length_append, HQ.out]; rfl)
        clear F hbx hb4
        go_wp2_with (at_builtin; refine wpList_app_s _ rfl _ _ rfl w.heap.size _ xs rfl HOR.out _ 1 _ [X] rfl HBX.out (by rw [← HQ.out]; omega) HBF.out.size ?_; intro v5 w5 hrow5 hbel5; obtain ⟨A5, c5, rfl, -, -⟩ := hrow5.form; rw [E9.out] at hrow5 ⊢; have HR5 := hide hrow5; have HB5 := hide (HBF.out.trans hbel5); clear hrow5 hbel5)
        go_roundw
        case rel => exact ⟨m + 1, m + 1, q + 1, c5, A5, xs ++ [X], rfl, by go_num, by go_num, by omega, Nat.le_refl _, by omega, hide E9.out.symm, HN, HR5, HB5⟩
        case measure => simp [RowKit.intOf]; omega
      · have c1 : ((s[m].toNat : Int) == 10) = false := beq_eq_false_iff_ne.2 (by omega)
        have HN := hide (show ∃ ls, Takes ls xs ∧ ls ++ rlinesF ((s.data.toList.take (m + 1)).drop fr) (s.data.toList.drop (m + 1)) = rlinesF [] s.data.toList by
          obtain ⟨ls, h1, h2⟩ := HLS.out
          rw [hdr, rl_go _ _ _ hc] at h2
          refine ⟨ls, h1, ?_⟩
          rw [cut_snoc _ _ _ _ hat hfr]
          exact h2)
        clear hc hat hdr HLS
        go_wp2_with fail
        go_roundw
        case rel => exact ⟨m + 1, fr, q, co, Ao, xs, rfl, rfl, by go_num, by omega, by omega, by omega, HQ, HN, HO, HB⟩
        case measure => simp [RowKit.intOf]; omega
    · obtain rfl : m = s.size := by omega
      have d1 : decide ((s.size : Int) < (s.size : Int)) = false := decide_eq_false (by omega)
      have HTK := hide (show Takes (rlinesF [] s.data.toList) xs by
        obtain ⟨ls, h1, h2⟩ := HLS.out
        rw [show s.data.toList.drop s.size = [] from List.drop_of_length_le (by rw [← Lib.size_eq]; exact Nat.le_refl _)] at h2
        have : rlinesF ((s.data.toList.take s.size).drop fr) [] = [] := rfl
        rw [this, List.append_nil] at h2
        rw [← h2]
        exact h1)
      have HSL := hide (OwnS.sl_any HO.out)
      clear HLS
      go_wp2_with fail
      refine (rexport_any Ao q co xs _ (HT.out.below HB.out) HSL.out).mono ?_
      rintro e w5 ⟨t, rfl, he, hb5⟩
      have HI := hide (rimport HL.out HTK.out he)
      obtain ⟨r, hr⟩ : ∃ r, chk xs = r := ⟨_, rfl⟩
      rw [hr, strB_data] at HI
      rw [hr]
      have HS5 := hide (HSL.out.keep hb5)
      have HB5 := hide (nxt HB.out hb5)
      clear he hr hb5
      by_cases h0 : r = 0
      · subst h0
        by_cases ht : t = s
        · have HR := hide (HI.out.1 ⟨rfl, ht⟩)
          subst ht
          go_wp2_with fail
          go_ret2
          exact ⟨Ao, q, co, xs, 0, rfl, HS5.out, by omega, HR.out, HB5.out⟩
        · have HR := hide (HI.out.2 fun h => ht h.2)
          have hne : (t.toList == s.toList) = false := beq_eq_false_iff_ne.2 fun h => ht (toList_inj h)
          clear ht
          go_wp2_with fail
          go_ret2
          exact ⟨none, 0, 0, [], 3, rfl, SL.nil_ _ _, Nat.zero_le _, HR.out, HB5.out⟩
      · have HR := hide (HI.out.2 fun h => h0 h.1)
        have q1 : (r != 0) = true := by simp [h0]
        clear h0
        go_wp2_with fail
        go_ret2
        exact ⟨none, 0, 0, [], 3, rfl, SL.nil_ _ _, Nat.zero_le _, HR.out, HB5.out⟩
theorem rimport_any (s : ByteArray) (w : World) (hT : Lw w) : Calls Tryz.prog 35 #[.string s] w (GivesI s.data.toList w) := by
  by_cases h : 4096 < s.size
  · exact rimport_full s w h
  · exact rimport_ok s w hT (by omega)
end Go.Proofs.YtaapcfflnklpjaaGreatDoor
