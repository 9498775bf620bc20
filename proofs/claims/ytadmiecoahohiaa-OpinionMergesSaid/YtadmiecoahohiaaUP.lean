/- Apply, of the reference. -/
import Derived.Test.YtadmiecoahohiaaUO
namespace Go.Proofs.Ytadmiecoahohiaa
open Go Go.RowKit Go.Lib
theorem fl_one (A1 : Option Addr) (n1 c1 : Nat) (a : List Ent) : fl [⟨A1, n1, c1, a⟩] = a.map Ent.k := by unfold fl; simp
theorem ll_one {w : World} {g : Nat} {t : TypeId} {A1 : Option Addr} {n1 c1 : Nat} {a : List Ent} (hg : Box w g #[.slice A1 n1 c1] t) (ha : SL eE w A1 n1 a) : LL w g [⟨A1, n1, c1, a⟩] :=
  ⟨hg.lt, fun j x hx => by
    match j, hx with
    | 0, hx => injection hx with hx; subst hx; exact ⟨hg.at_ 0, ha⟩
    | j + 1, hx => simp at hx⟩
theorem nwC_hit {a : List Ent} {c : List Chg} {k : Int} {y : Chg} (h : hitC c k = some y) : nwC a c k = y.new := by unfold nwC; rw [h]
theorem nwC_none {a : List Ent} {c : List Chg} {k : Int} (h : hitC c k = none) : nwC a c k = at' a k := by unfold nwC; rw [h]
theorem enO1_len (k : Int) (s : Sd) : (enO1 k s).toList.length ≤ 1 := by cases enO1 k s <;> simp
theorem chO1_len (k : Int) (f t : Sd) : (chO1 k f t).toList.length ≤ 1 := by cases chO1 k f t <;> simp
set_option maxHeartbeats 4000000 in
theorem put2_any (B c : Nat) (A : Option Addr) (ys zs : List Ent) (k : Int) (s : Sd) (w : World) (h : Ow eE w B A ys.length c ys) (hB : B ≤ w.heap.size) (hn : ys.length ≤ 1000) (hz : ys ++ (enO1 k s).toList = zs) :
    Calls Try.prog 54 #[.slice A ys.length c, .int .i64 k, .agg #[.int .i64 s.v, .bool s.i]] w fun e w' => ∃ A' c', e = .returned (.slice A' zs.length c') ∧ Ow eE w' B A' zs.length c' zs ∧ Below B w w' ∧ Turn (Blk A) w w' ∧ (∀ g, Blk A' g → Blk A g ∨ (w.heap.size ≤ g ∧ g < w'.heap.size)) := by
  have H := hide h
  have HB := hide hB
  unfold enO1 at hz
  obtain ⟨v, i⟩ := s
  clear h
  cases i
  · have HZ := hide (show ys = zs by rw [← hz]; exact (List.append_nil _).symm)
    clear hz
    go_enter Try.func54, Try.ntmps54
    go_wp2_with fail
    go_ret
    refine ⟨A, c, by rw [← HZ.out]; rfl, by rw [← HZ.out]; exact H.out.keep ((Below.refl _ _).alloc (Nat.le_refl _) _), ?_⟩
    exact ⟨(Below.refl _ _).alloc HB.out _, Turn.of ((Below.refl _ _).alloc (Nat.le_refl _) _), fun g hg => .inl hg⟩
  · have HZ := hide (show ys ++ [⟨k, v⟩] = zs from hz)
    have HR := hide (show Ow eE ((w.alloc (.cells #[.int .i64 v, .bool true] 53)).alloc (.cells #[.int .i64 k, .int .i64 v] 43)) B A ys.length c ys from H.out.keep (((Below.refl _ _).alloc (Nat.le_refl _) _).alloc (by simp) _))
    have HN := hide (litE (g := w.heap.size + 1) (x := ⟨k, v⟩) (newE (w.alloc (.cells #[.int .i64 v, .bool true] 53)) #[.int .i64 k, .int .i64 v] 43 (by simp)))
    have HB3 := hide (show Below B w ((w.alloc (.cells #[.int .i64 v, .bool true] 53)).alloc (.cells #[.int .i64 k, .int .i64 v] 43)) from ((Below.refl _ _).alloc HB.out _).alloc (by simp; omega) _)
    clear hz
    go_enter Try.func54, Try.ntmps54
    go_wp2_with (at_builtin; refine wpList_app_ow _ rfl _ _ 22 rfl B 43 _ 2 16 Try.underlying22 infoE rfl (by decide) _ _ _ _ rfl HR.out _ _ _ (eE.enc ⟨k, v⟩) rfl rfl (fun _ => ⟨_, rfl, HN.out⟩) (fun uu hu => eE.one ⟨k, v⟩ uu hu) (by decide) (by omega) (Nat.le_trans HB.out HB3.out.size) ?_; intro A4 c4 w4 r1 r2 r3)
    go_ret
    have h1 := ow_app (e := eE) (x := ⟨k, v⟩) r1
    rw [HZ.out] at h1
    refine ⟨A4, c4, ?_, h1, HB3.out.trans (r2.below (fun k hk => (HR.out.blk k hk).1) (Nat.le_trans HB.out HB3.out.size)), (Turn.of (((Below.refl _ _).alloc (Nat.le_refl _) _).alloc (by simp) _)).trans r2, fun g hg => by
      rcases r3 g hg with h | h
      · exact .inl h
      · exact .inr ⟨Nat.le_trans (by simp; omega) h.1, h.2⟩⟩
    rw [← HZ.out, List.length_append]
    rfl

theorem setBox {W : World} {g : Nat} {a b : Value} {t : TypeId} (h : Box W g #[a, b] t) (x y : Value) : Box ((W.setCell ⟨g, 0, none⟩ x).setCell ⟨g, 1, none⟩ y) g #[x, y] t := (h.set_ 0 x).set_ 1 y

set_option maxHeartbeats 16000000 in
set_option maxRecDepth 100000 in
theorem rapply_any (A1 : Option Addr) (n1 c1 : Nat) (a : List Ent) (A2 : Option Addr) (n2 c2 : Nat) (c : List Chg) (w : World) (ha : SL eE w A1 n1 a) (hc : SL eC w A2 n2 c) (h1 : n1 ≤ 200) (h2 : n2 ≤ 200) :
    Calls Try.prog 25 #[.slice A1 n1 c1, .slice A2 n2 c2] w (Giv eE w (appR a c)) := by
  have HX0 := hide ha
  have HX1 := hide hc
  clear ha hc
  cases hv0 : vE a with
  | false =>
    have HR := hide (appR_no (c := c) (.inl hv0))
    have HV0 := hide hv0
    clear hv0
    go_enter Try.func25, Try.ntmps25
    go_wp2_with fail
    refine (rvalid_any A1 n1 c1 a w HX0.out (by omega) false HV0.out).mono ?_
    rintro e w1 ⟨rfl, g1⟩
    have G1 := hide (g1)
    clear g1
    go_wp2_with fail
    go_ret2
    exact Giv.none 1 HR.out rfl G1.out.below
  | true =>
    cases hv1 : vC c with
    | false =>
      have HR := hide (appR_no (a := a) (.inr hv1))
      have HV0 := hide hv0
      have HV1 := hide hv1
      clear hv0 hv1
      go_enter Try.func25, Try.ntmps25
      go_wp2_with fail
      refine (rvalid_any A1 n1 c1 a w HX0.out (by omega) true HV0.out).mono ?_
      rintro e w1 ⟨rfl, g1⟩
      have G1 := hide (g1)
      clear g1
      go_wp2_with fail
      refine (rvalidC_any A2 n2 c2 c w1 (HX1.out.keep G1.out.below) (by omega) false HV1.out).mono ?_
      rintro e w2 ⟨rfl, g2⟩
      have G2 := hide ((G1.out.trans g2))
      clear g2
      go_wp2_with fail
      go_ret2
      exact Giv.none 1 HR.out rfl G2.out.below
    | true =>
      have HR := hide (appR_ok hv0 hv1)
      have HV0 := hide hv0
      have HV1 := hide hv1
      clear hv0 hv1
      go_enter Try.func25, Try.ntmps25
      go_wp2_with fail
      refine (rvalid_any A1 n1 c1 a w HX0.out (by omega) true HV0.out).mono ?_
      rintro e w1 ⟨rfl, g1⟩
      have G1 := hide (g1)
      clear g1
      go_wp2_with fail
      refine (rvalidC_any A2 n2 c2 c w1 (HX1.out.keep G1.out.below) (by omega) true HV1.out).mono ?_
      rintro e w2 ⟨rfl, g2⟩
      have G2 := hide ((G1.out.trans g2))
      clear g2
      go_wp2_with fail
      have HX0 := hide (HX0.out.keep G2.out.below)
      have HX1 := hide (HX1.out.keep G2.out.below)
      have hcv := vC_iff.1 HV1.out
      have hav := vE_iff.1 HV0.out
      have hn1 : n1 ≤ 64 := by rw [← HX0.out.1]; exact hav.1
      have hn2 : n2 ≤ 64 := by rw [← HX1.out.1]; exact hcv.1
      have B2 := hide G2.out.below
      have HKB := hide (show ∀ i, (a.map Ent.k ++ (c.take i).map Chg.k).length ≤ 200 from fun i => by rw [List.length_append, List.length_map, List.length_map, HX0.out.1, List.length_take, HX1.out.1]; omega)
      have mixed : Try.prog.follows Departure.mixedOrders = true := by kernel_rfl
      clear hcv hav
      have hfl : (fl [⟨A1, n1, c1, a⟩]).length ≤ 900 := by rw [fl_one, List.length_map, HX0.out.1]; omega
      have HCK := hide (keys_any w2.heap.size 1 1 [⟨A1, n1, c1, a⟩] (w2.alloc (.cells #[.slice A1 n1 c1] 22)) (ll_one (newE w2 _ _ rfl) (HX0.out.keep ((Below.refl _ _).alloc (Nat.le_refl _) _))) rfl (by decide) hfl)
      rw [fl_one] at HCK
      clear hfl
      refine HCK.out.mono ?_
      rintro e w3 ⟨AK, cK, rfl, okk, bkk⟩
      have HKS := hide okk
      have B23 := hide (show Below w2.heap.size w2 w3 from Below.next (Below.allocS (Below.refl _ _) _) bkk)
      have B3 := hide (show Below w.heap.size w w3 from Below.next B2.out B23.out)
      clear okk bkk HCK
      have HX0 := hide (HX0.out.keep B23.out)
      have HX1 := hide (HX1.out.keep B23.out)
      have hl0 : (kset (a.map Ent.k)).length ≤ 200 := Nat.le_trans (len_kset _) (by have := HKB.out 0; rw [List.length_append] at this; omega)
      obtain ⟨K0, hkk⟩ : ∃ K0, kset (a.map Ent.k) = K0 := ⟨_, rfl⟩
      rw [hkk] at HKS hl0
      rw [hkk]
      have HK0 := hide hkk
      clear hkk
      obtain ⟨NK0, hnk⟩ : ∃ NK0, K0.length = NK0 := ⟨_, rfl⟩
      rw [hnk] at HKS hl0
      rw [hnk]
      have HNK0 := hide hnk
      clear hnk
      go_wp2_with fail
      go_loopw [6, 7] (fun s i wr => ∃ (j m : Nat) (A : Option Addr) (cc : Nat) (U : List Int), i = .int .i64 (j : Int) ∧ j ≤ n2 ∧ s = .slice A m cc ∧ Hid (kset (a.map Ent.k ++ (c.take j).map Chg.k) = U ∧ U.length = m ∧ ∀ x ∈ c.take j, cfA1 a x = false) ∧ Hid (SK wr A m cc U) ∧ Hid (Below w3.heap.size w3 wr)) (fun _ i _ => n2 - (RowKit.intOf i).toNat)
      case atStart => exact ⟨0, NK0, AK, cK, K0, rfl, Nat.zero_le _, rfl, hide ⟨by rw [List.take_zero, List.map_nil, List.append_nil]; exact HK0.out, HNK0.out, fun x hx => by cases hx⟩, HKS, hide (Below.refl _ _)⟩
      case round =>
        obtain ⟨j, m, A, cc, U, rfl, hj, rfl, HZ, HO, HB⟩ := hrel
        by_cases hlt : j < n2
        · obtain ⟨bk, ok, x, rfl, hl, hk, hcx⟩ := HX1.out.atC hlt
          have HK := hide hk
          have KS := hide (fun (w' : World) (h : Below w3.heap.size w3 w') => show w'.cell? ⟨bk, ok + j * 5, none⟩ = some (.int .i64 x.k) ∧ w'.cell? ⟨bk, ok + j * 5 + 1, none⟩ = some (.int .i64 x.o) ∧ w'.cell? ⟨bk, ok + j * 5 + 2, none⟩ = some (.int .i64 x.n) ∧ w'.cell? ⟨bk, ok + j * 5 + 3, none⟩ = some (.bool x.h) ∧ w'.cell? ⟨bk, ok + j * 5 + 4, none⟩ = some (.bool x.s) by
            have ex : ∀ p : Addr, p.block < w3.heap.size → w'.cell? p = w3.cell? p := fun p hp => h.cell hp
            rw [ex ⟨bk, ok + j * 5, none⟩ hl, ex ⟨bk, ok + j * 5 + 1, none⟩ hl, ex ⟨bk, ok + j * 5 + 2, none⟩ hl, ex ⟨bk, ok + j * 5 + 3, none⟩ hl, ex ⟨bk, ok + j * 5 + 4, none⟩ hl]
            exact hcx)
          have d0 : decide ((j : Int) < (n2 : Int)) = true := decide_eq_true (by omega)
          have a1 : (0 : Int) ≤ (j : Int) := by omega
          have a2 : (j : Int) < (n2 : Int) := by omega
          obtain ⟨f, hf⟩ : ∃ f, at' a x.k = f := ⟨_, rfl⟩
          have HF := hide hf
          have HCF := hide (show cfA1 a x = decide (f ≠ x.old) by unfold cfA1; rw [hf])
          have bb0 := HB.out
          clear hk hf hcx
          by_cases hfx : f = x.old
          · have HCF := hide (show cfA1 a x = false by rw [HCF.out]; exact decide_eq_false fun h => h hfx)
            have e0 := fun (w : World) => eqR_run f ⟨x.o, x.h⟩ w true (decide_eq_true hfx)
            have HM := hide (show (c.take (j + 1)).map Chg.k = (c.take j).map Chg.k ++ [x.k] by rw [take_next HK.out, List.map_append]; rfl)
            have HPU := hide (show put idK U x.k = kset (a.map Ent.k ++ (c.take (j + 1)).map Chg.k) by rw [← HZ.out.1, HM.out, ← List.append_assoc, kset_snoc])
            have hml : m ≤ 200 := by rw [← HZ.out.2.1, ← HZ.out.1]; exact Nat.le_trans (len_kset _) (HKB.out j)
            have HSU := hide (show Srt idK U by rw [← HZ.out.1]; exact srt_kset _)
            clear hfx
            go_wp2_with fail
            go_region_held3 (fun w' => w'.cell? ⟨bk, ok + j * 5, none⟩ = some (.int .i64 x.k) ∧ w'.cell? ⟨bk, ok + j * 5 + 1, none⟩ = some (.int .i64 x.o) ∧ w'.cell? ⟨bk, ok + j * 5 + 2, none⟩ = some (.int .i64 x.n) ∧ w'.cell? ⟨bk, ok + j * 5 + 3, none⟩ = some (.bool x.h) ∧ w'.cell? ⟨bk, ok + j * 5 + 4, none⟩ = some (.bool x.s))
              (exact KS.out _ (by ((repeat (first | (with_reducible assumption) | (with_reducible exact Below.refl _ _) | (with_reducible refine Below.drewS ?_) | (with_reducible refine Below.allocS ?_ _) | (with_reducible refine belGr ?_ (by assumption)) | (with_reducible refine Below.next ?_ (by assumption)) | (with_reducible refine Below.trans ?_ (by assumption)))); (first | done | fail))))
              (first
                | (go_at_call 49; (with_reducible refine (rat_any A1 n1 c1 a x.k _ (HX0.out.keep (by ((repeat (first | (with_reducible assumption) | (with_reducible exact Below.refl _ _) | (with_reducible refine Below.drewS ?_) | (with_reducible refine Below.allocS ?_ _) | (with_reducible refine belGr ?_ (by assumption)) | (with_reducible refine Below.next ?_ (by assumption)) | (with_reducible refine Below.trans ?_ (by assumption)))); (first | done | fail)))) (by omega) f HF.out).mono ?_); rintro e u1 ⟨rfl, hg⟩)
                | (go_at_call 37; (with_reducible refine (rold_any x _).mono ?_); rintro e u2 ⟨rfl, hg2⟩))
            all_goals
              have hb5 := show Below w3.heap.size w3 u2 from (by ((repeat (first | (with_reducible assumption) | (with_reducible exact Below.refl _ _) | (with_reducible refine Below.drewS ?_) | (with_reducible refine Below.allocS ?_ _) | (with_reducible refine belGr ?_ (by assumption)) | (with_reducible refine Below.next ?_ (by assumption)) | (with_reducible refine Below.trans ?_ (by assumption)))); (first | done | fail)))
              have HB5 := hide hb5
              obtain ⟨q0, q1, q2, q3, q4⟩ := KS.out _ hb5
              have HO5 := hide (HO.out.keep (show Below wr.heap.size wr u2 from (by ((repeat (first | (with_reducible assumption) | (with_reducible exact Below.refl _ _) | (with_reducible refine Below.drewS ?_) | (with_reducible refine Below.allocS ?_ _) | (with_reducible refine belGr ?_ (by assumption)) | (with_reducible refine Below.next ?_ (by assumption)) | (with_reducible refine Below.trans ?_ (by assumption)))); (first | done | fail)))))
              clear hb5 e0 hg hg2 bb0
              go_wp2_with fail
              refine (with_any A m cc U x.k u2 HO5.out HSU.out (by omega)).mono ?_
              rintro e w7 ⟨A2, c2, rfl, s7, b7⟩
              have HS7 := hide s7
              have HB7 := hide (Below.next HB5.out b7)
              have HPL := hide HPU.out.symm
              clear s7 b7
              generalize put idK U x.k = U2 at *
              generalize hu2 : U2.length = m2 at *
              have HU2 := hide hu2
              clear hu2
              go_wp2_with fail
              go_roundw
              case rel => exact ⟨j + 1, m2, A2, c2, U2, by go_num, by omega, rfl, hide ⟨HPL.out, HU2.out, all_next HK.out HZ.out.2.2 HCF.out⟩, HS7, HB7⟩
              case measure => simp [RowKit.intOf]; omega
          · have HRR := hide (show appR a c = ([], 10) by rw [HR.out, if_pos (cfA_yes HK.out (by rw [HCF.out]; exact decide_eq_true hfx))])
            have e0 := fun (w : World) => eqR_run f ⟨x.o, x.h⟩ w false (decide_eq_false hfx)
            clear hfx
            go_wp2_with fail
            go_region_held3 (fun w' => w'.cell? ⟨bk, ok + j * 5, none⟩ = some (.int .i64 x.k) ∧ w'.cell? ⟨bk, ok + j * 5 + 1, none⟩ = some (.int .i64 x.o) ∧ w'.cell? ⟨bk, ok + j * 5 + 2, none⟩ = some (.int .i64 x.n) ∧ w'.cell? ⟨bk, ok + j * 5 + 3, none⟩ = some (.bool x.h) ∧ w'.cell? ⟨bk, ok + j * 5 + 4, none⟩ = some (.bool x.s))
              (exact KS.out _ (by ((repeat (first | (with_reducible assumption) | (with_reducible exact Below.refl _ _) | (with_reducible refine Below.drewS ?_) | (with_reducible refine Below.allocS ?_ _) | (with_reducible refine belGr ?_ (by assumption)) | (with_reducible refine Below.next ?_ (by assumption)) | (with_reducible refine Below.trans ?_ (by assumption)))); (first | done | fail))))
              (first
                | (go_at_call 49; (with_reducible refine (rat_any A1 n1 c1 a x.k _ (HX0.out.keep (by ((repeat (first | (with_reducible assumption) | (with_reducible exact Below.refl _ _) | (with_reducible refine Below.drewS ?_) | (with_reducible refine Below.allocS ?_ _) | (with_reducible refine belGr ?_ (by assumption)) | (with_reducible refine Below.next ?_ (by assumption)) | (with_reducible refine Below.trans ?_ (by assumption)))); (first | done | fail)))) (by omega) f HF.out).mono ?_); rintro e u1 ⟨rfl, hg⟩)
                | (go_at_call 37; (with_reducible refine (rold_any x _).mono ?_); rintro e u2 ⟨rfl, hg2⟩))
            all_goals
              have HB5 := hide (show Below w3.heap.size w3 u2 from (by ((repeat (first | (with_reducible assumption) | (with_reducible exact Below.refl _ _) | (with_reducible refine Below.drewS ?_) | (with_reducible refine Below.allocS ?_ _) | (with_reducible refine belGr ?_ (by assumption)) | (with_reducible refine Below.next ?_ (by assumption)) | (with_reducible refine Below.trans ?_ (by assumption)))); (first | done | fail))))
              clear e0 hg hg2 bb0
              go_wp2_with fail
              go_ret2
              exact Giv.none 10 HRR.out rfl (Below.next B3.out HB5.out)
        · obtain rfl : n2 = j := by omega
          have d0 : decide ((n2 : Int) < (n2 : Int)) = false := decide_eq_false (by omega)
          have hall : c.take n2 = c := List.take_of_length_le (by rw [HX1.out.1]; exact Nat.le_refl _)
          have HZ0 := HZ.out
          rw [hall] at HZ0
          have HR := hide (show appR a c = full (apL a c) by rw [HR.out, cfA_no HZ0.2.2]; rfl)
          have HKD := hide (show apL a c = mkE' U (nwC a c) by rw [← HZ0.1]; rfl)
          have hnk : m ≤ 200 := by rw [← HZ0.2.1, ← HZ0.1]; have := HKB.out n2; rw [hall] at this; exact Nat.le_trans (len_kset _) this
          have HNK := hide HZ0.2.1
          have HX0 := hide (HX0.out.keep HB.out)
          have HX1 := hide (HX1.out.keep HB.out)
          have B3 := hide (Below.next B3.out HB.out)
          have HKS := hide HO.out.1
          clear HZ0 hall HZ HO
          obtain ⟨w8, h8⟩ : ∃ z, z = wr := ⟨_, rfl⟩
          subst h8
          clear HB
          generalize U = K at *
          generalize m = NK at *
          go_wp2_with fail
          go_loopw [8, 9] (fun s i wr => ∃ (j m : Nat) (A : Option Addr) (cc : Nat) (zs : List Ent), i = .int .i64 (j : Int) ∧ j ≤ NK ∧ s = .slice A m cc ∧ m ≤ j ∧ Hid (mkE' (K.take j) (nwC a c) = zs ∧ zs.length = m) ∧ Hid (Ow eE wr w8.heap.size A m cc zs) ∧ Hid (Below w8.heap.size w8 wr)) (fun _ i _ => NK - (RowKit.intOf i).toNat)
          case atStart => exact ⟨0, 0, none, 0, [], rfl, Nat.zero_le _, rfl, Nat.le_refl _, hide ⟨rfl, rfl⟩, hide (Ow.nil_ _ _), hide (Below.refl _ _)⟩
          case round =>
            obtain ⟨j, m, A, cc, zs, rfl, hj, rfl, hmj, HZ, HO, HB⟩ := hrel
            by_cases hlt2 : j < NK
            · obtain ⟨bk, ok, k, rfl, hl, hk, ck0⟩ := HKS.out.atI hlt2
              have HKC := hide (fun (W : World) (h : Below w8.heap.size w8 W) => show W.cell? ⟨bk, ok + j, none⟩ = some (.int .i64 k) by rw [h.cell (p := ⟨bk, ok + j, none⟩) hl, show ok + j = ok + j * 1 by omega]; exact ck0)
              have HZN := hide (mkE_next hk (nwC a c))
              have k0 := HKC.out _ HB.out
              have d1 : decide ((j : Int) < (NK : Int)) = true := decide_eq_true (by omega)
              have a1 : (0 : Int) ≤ (j : Int) := by omega
              have a2 : (j : Int) < (NK : Int) := by omega
              obtain ⟨f, hf⟩ : ∃ f, at' a k = f := ⟨_, rfl⟩
              have HF := hide hf
              clear ck0 hk hf
              go_wp2_with fail
              refine (rat_any A1 n1 c1 a k _ (HX0.out.keep HB.out) (by omega) f HF.out).mono ?_
              rintro e w5 ⟨rfl, g5⟩
              have HO6 := hide ((HO.out.keep g5.below).keep ((Below.refl _ _).alloc (Nat.le_refl _) (.cells #[.int .i64 f.v, .bool f.i] 53)))
              have HB6 := hide (Below.allocS (Below.next HB.out g5.below) (.cells #[.int .i64 f.v, .bool f.i] 53))
              have HS5 := hide (Below.next HB.out g5.below).size
              have HO5 := hide (HO.out.keep g5.below)
              have HBX := hide (Box.new w5 #[.int .i64 f.v, .bool f.i] 53)
              have k1 := HKC.out _ HB6.out
              clear g5 k0
              go_wp2_with fail
              refine (rfind_any A2 n2 c2 c k _ (HX1.out.keep HB6.out) (by omega)).mono ?_
              rintro e w6 ⟨v, rfl, hv, rfl⟩
              rcases hv with ⟨rfl, hh⟩ | ⟨p, y, rfl, hy, hyk, hh⟩
              · have HNW := hide (show nwC a c k = ⟨f.v, f.i⟩ by rw [nwC_none hh]; exact HF.out)
                have d2 : decide ((0 : Int) ≤ -1) = false := by decide
                clear hh k1
                go_wp2_with fail
                generalize hWW : w5.alloc _ = WW at *
                have HBW := HB6
                have HOW := HO6
                have HAG := hide (fun (h : Blk A w5.heap.size) => Nat.lt_irrefl _ (HO5.out.blk _ h).2)
                clear hWW HO5 HS5
                generalize w5.heap.size = g0 at *
                have KS := hide (fun (w' : World) (h : Turn (Blk A) WW w') => show w'.cell? ⟨bk, ok + j, none⟩ = some (.int .i64 k) ∧ w'.cell? ⟨g0, 0, none⟩ = some (.int .i64 f.v) ∧ w'.cell? ⟨g0, 1, none⟩ = some (.bool f.i) from ⟨(World.cell?_of_block (a := ⟨bk, ok + j, none⟩) (h.block bk (Nat.lt_of_lt_of_le hl HBW.out.size) (fun hk => by have := (HOW.out.blk bk hk).1; omega))).trans (HKC.out _ HBW.out), (h.box HBX.out HAG.out).at_ 0, (h.box HBX.out HAG.out).at_ 1⟩)
                have bb0 := HBW.out
                obtain ⟨zN, hzN⟩ : ∃ zN, mkE' (K.take (j + 1)) (nwC a c) = zN := ⟨_, rfl⟩
                have hz0 := HZN.out
                rw [hzN, HZ.out.1, HNW.out] at hz0
                have HZL := hide (show zN.length ≤ j + 1 by rw [hz0, List.length_append, HZ.out.2]; have := enO1_len k (⟨f.v, f.i⟩ : Sd); omega)
                have HZQ := hide hzN
                have HZ2 := hide hz0.symm
                obtain rfl : zs.length = m := HZ.out.2
                clear hz0 hzN
                go_region_held3 (fun w' => w'.cell? ⟨bk, ok + j, none⟩ = some (.int .i64 k) ∧ w'.cell? ⟨g0, 0, none⟩ = some (.int .i64 f.v) ∧ w'.cell? ⟨g0, 1, none⟩ = some (.bool f.i))
                  (exact KS.out _ (by first | with_reducible assumption | exact Turn.of (Below.refl _ _).drew | exact (Turn.of (Below.refl _ _).drew).trans (by assumption)))
                  (first | (go_at_call 54; (with_reducible refine (put2_any w8.heap.size cc A zs zN k ⟨f.v, f.i⟩ _ (HOW.out.keep (by ((repeat (first | (with_reducible assumption) | (with_reducible exact Below.refl _ _) | (with_reducible refine Below.drewS ?_) | (with_reducible refine Below.allocS ?_ _) | (with_reducible refine belGr ?_ (by assumption)) | (with_reducible refine Below.next ?_ (by assumption)) | (with_reducible refine Below.trans ?_ (by assumption)))); (first | done | fail)))) (Below.size (B := w8.heap.size) (w := w8) (by ((repeat (first | (with_reducible assumption) | (with_reducible exact Below.refl _ _) | (with_reducible refine Below.drewS ?_) | (with_reducible refine Below.allocS ?_ _) | (with_reducible refine belGr ?_ (by assumption)) | (with_reducible refine Below.next ?_ (by assumption)) | (with_reducible refine Below.trans ?_ (by assumption)))); (first | done | fail)))) (by omega) HZ2.out).mono ?_); rintro e u3 ⟨A4, c4, rfl, o4, b4, t4, n4⟩))
                all_goals
                  have HO4 := hide o4
                  have HB4 := hide (show Below w8.heap.size w8 u3 from Below.trans (by ((repeat (first | (with_reducible assumption) | (with_reducible exact Below.refl _ _) | (with_reducible refine Below.drewS ?_) | (with_reducible refine Below.allocS ?_ _) | (with_reducible refine belGr ?_ (by assumption)) | (with_reducible refine Below.next ?_ (by assumption)) | (with_reducible refine Below.trans ?_ (by assumption)))); (first | done | fail))) b4)
                  clear o4 b4 t4 n4 bb0
                  go_wp2_with fail
                  go_roundw
                  case rel => exact ⟨j + 1, zN.length, A4, c4, zN, by go_num, by omega, rfl, HZL.out, hide ⟨HZQ.out, rfl⟩, HO4, HB4⟩
                  case measure => simp [RowKit.intOf]; omega
              · have hpn : p < n2 := by rw [← HX1.out.1]; exact (List.getElem?_eq_some_iff.1 hy).1
                obtain ⟨by', oy, y', rfl, hly, hy', n0, n1', n2', n3, n4⟩ := (HX1.out.keep HB6.out).atC hpn
                obtain rfl : y' = y := by rw [hy] at hy'; injection hy' with hy'; exact hy'.symm
                have HNW := hide (show nwC a c k = ⟨y'.n, y'.s⟩ from nwC_hit hh)
                have d2 : decide ((0 : Int) ≤ (p : Int)) = true := decide_eq_true (by omega)
                have b1 : (0 : Int) ≤ (p : Int) := by omega
                have b2_ : (p : Int) < (n2 : Int) := by omega
                clear hh hy hy' k1 hyk
                go_wp2_with fail
                refine (rnew_any y' _).mono ?_
                rintro e w7 ⟨rfl, g7⟩
                have HB7 := hide (Below.next HB6.out g7.below)
                have hB := HBX.out.below' g7.below
                have HBX2 := hide (setBox hB (.int .i64 y'.n) (.bool y'.s))
                have HO7 := hide (HO6.out.keep g7.below)
                have k0 := hB.at_ 0
                have k1 := hB.at_ 1
                have f0 := hB.frozen 0
                have hB1 := hB.set_ 0 (.int .i64 y'.n)
                have k2 := hB1.at_ 1
                have f1 := hB1.frozen 1
                have hB2 := hB1.set_ 1 (.bool y'.s)
                have r0 := hB2.at_ 0
                have r1 := hB2.at_ 1
                simp only [List.getElem?_toArray, List.setIfInBounds_toArray, List.set_cons_zero, List.set_cons_succ, List.getElem?_cons_zero, List.getElem?_cons_succ] at k0 k1 k2 r0 r1
                clear hB hB1 hB2
                have HBW := hide (show Below w8.heap.size w8 ((w7.setCell ⟨w5.heap.size, 0, none⟩ (.int .i64 y'.n)).setCell ⟨w5.heap.size, 1, none⟩ (.bool y'.s)) from Below.setS (Below.setS HB7.out HS5.out _) HS5.out _)
                have HOW := hide (show Ow eE ((w7.setCell ⟨w5.heap.size, 0, none⟩ (.int .i64 y'.n)).setCell ⟨w5.heap.size, 1, none⟩ (.bool y'.s)) w8.heap.size A m cc zs from HO7.out.turn (((Turn.refl (Is w5.heap.size) w7).set 0 _ rfl).set 1 _ rfl) (fun g hg e => by have h1 := (HO5.out.blk g hg).2; rw [show g = w5.heap.size from e] at h1; exact Nat.lt_irrefl _ h1))
                clear g7 n0 n1' n2' n3 n4
                go_wp2_with fail
                have HAG := hide (fun (h : Blk A w5.heap.size) => Nat.lt_irrefl _ (HO5.out.blk _ h).2)
                clear k0 k1 k2 f0 f1 r0 r1 HO5 HS5 HO7 HO6 HB7
                generalize hWW : (w7.setCell _ _).setCell _ _ = WW at *
                have HBX := HBX2
                clear hWW HBX2
                generalize w5.heap.size = g0 at *
                have KS := hide (fun (w' : World) (h : Turn (Blk A) WW w') => show w'.cell? ⟨bk, ok + j, none⟩ = some (.int .i64 k) ∧ w'.cell? ⟨g0, 0, none⟩ = some (.int .i64 y'.n) ∧ w'.cell? ⟨g0, 1, none⟩ = some (.bool y'.s) from ⟨(World.cell?_of_block (a := ⟨bk, ok + j, none⟩) (h.block bk (Nat.lt_of_lt_of_le hl HBW.out.size) (fun hk => by have := (HOW.out.blk bk hk).1; omega))).trans (HKC.out _ HBW.out), (h.box HBX.out HAG.out).at_ 0, (h.box HBX.out HAG.out).at_ 1⟩)
                have bb0 := HBW.out
                obtain ⟨zN, hzN⟩ : ∃ zN, mkE' (K.take (j + 1)) (nwC a c) = zN := ⟨_, rfl⟩
                have hz0 := HZN.out
                rw [hzN, HZ.out.1, HNW.out] at hz0
                have HZL := hide (show zN.length ≤ j + 1 by rw [hz0, List.length_append, HZ.out.2]; have := enO1_len k (⟨y'.n, y'.s⟩ : Sd); omega)
                have HZQ := hide hzN
                have HZ2 := hide hz0.symm
                obtain rfl : zs.length = m := HZ.out.2
                clear hz0 hzN
                go_region_held3 (fun w' => w'.cell? ⟨bk, ok + j, none⟩ = some (.int .i64 k) ∧ w'.cell? ⟨g0, 0, none⟩ = some (.int .i64 y'.n) ∧ w'.cell? ⟨g0, 1, none⟩ = some (.bool y'.s))
                  (exact KS.out _ (by first | with_reducible assumption | exact Turn.of (Below.refl _ _).drew | exact (Turn.of (Below.refl _ _).drew).trans (by assumption)))
                  (first | (go_at_call 54; (with_reducible refine (put2_any w8.heap.size cc A zs zN k ⟨y'.n, y'.s⟩ _ (HOW.out.keep (by ((repeat (first | (with_reducible assumption) | (with_reducible exact Below.refl _ _) | (with_reducible refine Below.drewS ?_) | (with_reducible refine Below.allocS ?_ _) | (with_reducible refine belGr ?_ (by assumption)) | (with_reducible refine Below.next ?_ (by assumption)) | (with_reducible refine Below.trans ?_ (by assumption)))); (first | done | fail)))) (Below.size (B := w8.heap.size) (w := w8) (by ((repeat (first | (with_reducible assumption) | (with_reducible exact Below.refl _ _) | (with_reducible refine Below.drewS ?_) | (with_reducible refine Below.allocS ?_ _) | (with_reducible refine belGr ?_ (by assumption)) | (with_reducible refine Below.next ?_ (by assumption)) | (with_reducible refine Below.trans ?_ (by assumption)))); (first | done | fail)))) (by omega) HZ2.out).mono ?_); rintro e u3 ⟨A4, c4, rfl, o4, b4, t4, n4⟩))
                all_goals
                  have HO4 := hide o4
                  have HB4 := hide (show Below w8.heap.size w8 u3 from Below.trans (by ((repeat (first | (with_reducible assumption) | (with_reducible exact Below.refl _ _) | (with_reducible refine Below.drewS ?_) | (with_reducible refine Below.allocS ?_ _) | (with_reducible refine belGr ?_ (by assumption)) | (with_reducible refine Below.next ?_ (by assumption)) | (with_reducible refine Below.trans ?_ (by assumption)))); (first | done | fail))) b4)
                  clear o4 b4 t4 n4 bb0
                  go_wp2_with fail
                  go_roundw
                  case rel => exact ⟨j + 1, zN.length, A4, c4, zN, by go_num, by omega, rfl, HZL.out, hide ⟨HZQ.out, rfl⟩, HO4, HB4⟩
                  case measure => simp [RowKit.intOf]; omega
            · obtain rfl : j = NK := by omega
              have d1 : decide ((j : Int) < (j : Int)) = false := decide_eq_false (by omega)
              have hz : apL a c = zs := by rw [HKD.out, ← HZ.out.1, List.take_of_length_le (by rw [HNK.out]; exact Nat.le_refl _)]
              have hzl := HZ.out.2
              have hd := HR.out
              rw [hz] at hd
              by_cases h64 : m ≤ 64
              · have d2 : decide ((64 : Int) < (m : Int)) = false := decide_eq_false (by omega)
                have HRR := hide (show appR a c = (zs, 0) by rw [hd]; exact full_ok (by rw [hzl]; exact h64))
                have HOZ := hide (HO.out.low B3.out.size)
                subst hzl
                clear hz hd
                go_wp2_with fail
                go_ret2
                unfold Giv
                rw [HRR.out]
                exact ⟨A, cc, rfl, HOZ.out, Below.next B3.out HB.out⟩
              · have d2 : decide ((64 : Int) < (m : Int)) = true := decide_eq_true (by omega)
                have HRR := hide (show appR a c = ([], 6) by rw [hd]; exact full_no (by rw [hzl]; exact h64))
                clear hz hd hzl
                go_wp2_with fail
                go_ret2
                exact Giv.none 6 HRR.out rfl (Below.next B3.out HB.out)
end Go.Proofs.Ytadmiecoahohiaa
