/- Diff, of both sides. -/
import Derived.Test.YtadmiecoahohiaaUJ
namespace Go.Proofs.Ytadmiecoahohiaa
open Go Go.RowKit Go.Lib
/-- a list and an error, as results -/
def Giv {α : Type} (e0 : En α) (w : World) (R : List α × Int) (e : Ending) (w' : World) : Prop := ∃ A c, e = .returned (.tuple #[.slice A R.1.length c, .int .i64 R.2]) ∧ Ow e0 w' w.heap.size A R.1.length c R.1 ∧ Below w.heap.size w w'
theorem Giv.none {α : Type} {e0 : En α} {w w' : World} {R : List α × Int} {v : Value} (er : Int) (hR : R = ([], er)) (hv : v = .tuple #[.slice none 0 0, .int .i64 er]) (hb : Below w.heap.size w w') : Giv e0 w R (.returned v) w' := by
  subst hR
  subst hv
  exact ⟨Option.none, 0, rfl, Ow.nil_ _ _, hb⟩
theorem full_err {α : Type} {l : List α} {n : Nat} (hn : l.length = n) (h : ¬ n ≤ 64) : full l = ([], 6) := full_no (by rw [hn]; exact h)
theorem difR_no {a b : List Ent} (h : vE a = false ∨ vE b = false) : difR a b = ([], 1) := by
  unfold difR
  rcases h with h | h
  · rw [h]; rfl
  · rw [h, Bool.and_false]; rfl
theorem mkC_len (K : List Int) (f t : Int → Sd) : (mkC K f t).length ≤ K.length := List.length_filterMap_le _ _
theorem mkE_len (K : List Int) (f : Int → Sd) : (mkE' K f).length ≤ K.length := List.length_filterMap_le _ _
theorem mkC_next {K : List Int} {j : Nat} {k : Int} (h : K[j]? = some k) (f t : Int → Sd) : mkC (K.take (j + 1)) f t = mkC (K.take j) f t ++ (chO1 k (f k) (t k)).toList := fm_next h
theorem mkE_next {K : List Int} {j : Nat} {k : Int} (h : K[j]? = some k) (f : Int → Sd) : mkE' (K.take (j + 1)) f = mkE' (K.take j) f ++ (enO1 k (f k)).toList := fm_next h
theorem fl_two (A1 : Option Addr) (n1 c1 : Nat) (a : List Ent) (A2 : Option Addr) (n2 c2 : Nat) (b : List Ent) : fl [⟨A1, n1, c1, a⟩, ⟨A2, n2, c2, b⟩] = a.map Ent.k ++ b.map Ent.k := by unfold fl; simp
theorem ll_two {w : World} {g : Nat} {t : TypeId} {A1 : Option Addr} {n1 c1 : Nat} {a : List Ent} {A2 : Option Addr} {n2 c2 : Nat} {b : List Ent} (hg : Box w g #[.slice A1 n1 c1, .slice A2 n2 c2] t) (ha : SL eE w A1 n1 a) (hb : SL eE w A2 n2 b) : LL w g [⟨A1, n1, c1, a⟩, ⟨A2, n2, c2, b⟩] :=
  ⟨hg.lt, fun j x hx => by
    match j, hx with
    | 0, hx => injection hx with hx; subst hx; exact ⟨hg.at_ 0, ha⟩
    | 1, hx => injection hx with hx; subst hx; exact ⟨hg.at_ 1, hb⟩
    | j + 2, hx => simp at hx⟩

set_option maxHeartbeats 8000000 in
set_option maxRecDepth 100000 in
theorem diff_any (A1 : Option Addr) (n1 c1 : Nat) (a : List Ent) (A2 : Option Addr) (n2 c2 : Nat) (b : List Ent) (w : World) (ha : SL eE w A1 n1 a) (hb : SL eE w A2 n2 b) (h1 : n1 ≤ 200) (h2 : n2 ≤ 200) :
    Calls Try.prog 21 #[.slice A1 n1 c1, .slice A2 n2 c2] w (Giv eC w (difR a b)) := by
  have HX0 := hide ha
  have HX1 := hide hb
  clear ha hb
  cases hv0 : vE a with
  | false =>
    have HR := hide (difR_no (b := b) (.inl hv0))
    have HV0 := hide hv0
    clear hv0
    go_enter Try.func21, Try.ntmps21
    go_wp2_with fail
    refine (valid_any A1 n1 c1 a w HX0.out (by omega) false HV0.out).mono ?_
    rintro e w1 ⟨rfl, g1⟩
    have G1 := hide (g1)
    clear g1
    go_wp2_with fail
    go_ret2
    exact Giv.none 1 HR.out rfl G1.out.below
  | true =>
    cases hv1 : vE b with
    | false =>
      have HR := hide (difR_no (a := a) (.inr hv1))
      have HV0 := hide hv0
      have HV1 := hide hv1
      clear hv0 hv1
      go_enter Try.func21, Try.ntmps21
      go_wp2_with fail
      refine (valid_any A1 n1 c1 a w HX0.out (by omega) true HV0.out).mono ?_
      rintro e w1 ⟨rfl, g1⟩
      have G1 := hide (g1)
      clear g1
      go_wp2_with fail
      refine (valid_any A2 n2 c2 b w1 (HX1.out.keep G1.out.below) (by omega) false HV1.out).mono ?_
      rintro e w2 ⟨rfl, g2⟩
      have G2 := hide ((G1.out.trans g2))
      clear g2
      go_wp2_with fail
      go_ret2
      exact Giv.none 1 HR.out rfl G2.out.below
    | true =>
      have HR := hide (difR_ok hv0 hv1)
      have HV0 := hide hv0
      have HV1 := hide hv1
      clear hv0 hv1
      go_enter Try.func21, Try.ntmps21
      go_wp2_with fail
      refine (valid_any A1 n1 c1 a w HX0.out (by omega) true HV0.out).mono ?_
      rintro e w1 ⟨rfl, g1⟩
      have G1 := hide (g1)
      clear g1
      go_wp2_with fail
      refine (valid_any A2 n2 c2 b w1 (HX1.out.keep G1.out.below) (by omega) true HV1.out).mono ?_
      rintro e w2 ⟨rfl, g2⟩
      have G2 := hide ((G1.out.trans g2))
      clear g2
      go_wp2_with fail
      have hK : kset (fl [⟨A1, n1, c1, a⟩, ⟨A2, n2, c2, b⟩]) = difK a b := by rw [fl_two]; rfl
      have hfl : (fl [⟨A1, n1, c1, a⟩, ⟨A2, n2, c2, b⟩]).length ≤ 900 := by rw [fl_two, List.length_append, List.length_map, List.length_map, HX0.out.1, HX1.out.1]; omega
      have hNK : (difK a b).length ≤ 400 := by
        refine Nat.le_trans (len_kset _) ?_
        rw [List.length_append, List.length_map, List.length_map, HX0.out.1, HX1.out.1]
        omega
      have HCK := hide (keysOf_any w2.heap.size 2 2 [⟨A1, n1, c1, a⟩, ⟨A2, n2, c2, b⟩] (w2.alloc (.cells #[.slice A1 n1 c1, .slice A2 n2 c2] 22)) (ll_two (newE w2 _ _ rfl) ((HX0.out.keep G2.out.below).keep ((Below.refl _ _).alloc (Nat.le_refl _) _)) ((HX1.out.keep G2.out.below).keep ((Below.refl _ _).alloc (Nat.le_refl _) _))) rfl (by decide) hfl)
      rw [hK] at HCK
      have HKD := hide (show difL a b = mkC (difK a b) (at' a) (at' b) from rfl)
      generalize difK a b = K at *
      clear hK hfl
      refine HCK.out.mono ?_
      rintro e w3 ⟨AK, cK, rfl, ok, bk⟩
      have HKS := hide ok.sl
      have B3 := hide (show Below w.heap.size w w3 from Below.next (Below.allocS G2.out.below _) bk)
      have HLK := hide (rfl : K.length = K.length)
      generalize hnk : K.length = NK at *
      clear ok bk HCK HLK
      have HNK := hide hnk
      clear hnk
      go_wp2_with fail
      have HX0 := hide (HX0.out.keep B3.out)
      have HX1 := hide (HX1.out.keep B3.out)
      go_loopw [6, 24] (fun s i wr => ∃ (j m : Nat) (A : Option Addr) (c : Nat) (zs : List Chg), i = .int .i64 (j : Int) ∧ j ≤ NK ∧ s = .slice A m c ∧ m ≤ j ∧ Hid (mkC (K.take j) (at' a) (at' b) = zs ∧ zs.length = m) ∧ Hid (Ow eC wr w3.heap.size A m c zs) ∧ Hid (Below w3.heap.size w3 wr)) (fun _ i _ => NK - (RowKit.intOf i).toNat)
      case atStart => exact ⟨0, 0, none, 0, [], rfl, Nat.zero_le _, rfl, Nat.le_refl _, hide ⟨rfl, rfl⟩, hide (Ow.nil_ _ _), hide (Below.refl _ _)⟩
      case round =>
        obtain ⟨j, m, A, c, zs, rfl, hj, rfl, hmj, HZ, HO, HB⟩ := hrel
        by_cases hlt : j < NK
        · obtain ⟨bk, ok, k, rfl, hl, hk, ck0⟩ := (HKS.out.keep HB.out).atI hlt
          have ck : wr.cell? ⟨bk, ok + j, none⟩ = some (.int .i64 k) := by rw [show ok + j = ok + j * 1 by omega]; exact ck0
          have HK1 := hide hk
          have d0 : decide ((j : Int) < (NK : Int)) = true := decide_eq_true (by omega)
          have a1 : (0 : Int) ≤ (j : Int) := by omega
          have a2 : (j : Int) < (NK : Int) := by omega
          obtain ⟨f, hf⟩ : ∃ f, at' a k = f := ⟨_, rfl⟩
          obtain ⟨t, ht⟩ : ∃ t, at' b k = t := ⟨_, rfl⟩
          have HF := hide hf
          have HT := hide ht
          have HZN := hide (mkC_next hk (at' a) (at' b))
          rw [hf, ht, HZ.out.1] at HZN
          clear ck0 hk hf ht
          go_wp2_with fail
          refine (side_any A1 n1 c1 a k wr (HX0.out.keep HB.out) (vE_iff.1 HV0.out).2 (by omega) f HF.out).mono ?_
          rintro e w4 ⟨rfl, g4⟩
          have G4 := hide g4
          clear g4 ck
          go_wp2_with fail
          refine (side_any A2 n2 c2 b k w4 ((HX1.out.keep HB.out).keep G4.out.below) (vE_iff.1 HV1.out).2 (by omega) t HT.out).mono ?_
          rintro e w5 ⟨rfl, g5⟩
          have B5 := hide (Below.next HB.out (G4.out.trans g5).below)
          have HO5 := hide (HO.out.keep (G4.out.trans g5).below)
          clear g5 G4
          have HB6 := hide (show Below w3.heap.size w3 ((w5.alloc (.cells #[.int .i64 f.v, .bool f.i] 49)).alloc (.cells #[.int .i64 t.v, .bool t.i] 49)) from Below.allocS (Below.allocS B5.out _) _)
          have HO6 := hide (show Ow eC ((w5.alloc (.cells #[.int .i64 f.v, .bool f.i] 49)).alloc (.cells #[.int .i64 t.v, .bool t.i] 49)) w3.heap.size A m c zs from HO5.out.keep (((Below.refl _ _).alloc (Nat.le_refl _) _).alloc (by simp) _))
          by_cases hft : f = t
          · have e0 := fun (w : World) => eqP_run f t w true (decide_eq_true hft)
            have HZN := hide (show mkC (K.take (j + 1)) (at' a) (at' b) = zs by rw [HZN.out]; unfold chO1; rw [if_pos hft]; exact List.append_nil _)
            clear hft
            go_wp2_with fail
            go_roundw
            case rel => exact ⟨j + 1, m, A, c, zs, by go_num, by omega, rfl, by omega, hide ⟨HZN.out, HZ.out.2⟩, HO6, HB6⟩
            case measure => simp [RowKit.intOf]; omega
          · have e0 := fun (w : World) => eqP_run f t w false (decide_eq_false hft)
            have HZN := hide (show mkC (K.take (j + 1)) (at' a) (at' b) = zs ++ [chg k f t] by rw [HZN.out]; unfold chO1; rw [if_neg hft]; rfl)
            clear hft
            go_wp2_with fail
            refine (chgOf_any k f t _).mono ?_
            rintro e w7 ⟨rfl, g7⟩
            obtain rfl : zs.length = m := HZ.out.2
            have HB7 := hide (Below.next HB6.out g7.below)
            have HR := hide (show Ow eC (w7.alloc (.cells #[.int .i64 k, .int .i64 f.v, .int .i64 t.v, .bool f.i, .bool t.i] 46)) w3.heap.size A zs.length c zs from (HO6.out.keep g7.below).keep ((Below.refl _ _).alloc (Nat.le_refl _) _))
            have HN := hide (litC (x := chg k f t) (newE w7 #[.int .i64 k, .int .i64 f.v, .int .i64 t.v, .bool f.i, .bool t.i] 46 rfl))
            have HB8 := hide (Below.allocS HB7.out (.cells #[.int .i64 k, .int .i64 f.v, .int .i64 t.v, .bool f.i, .bool t.i] 46))
            clear g7
            go_wp2_with (at_builtin; refine wpList_app_ow _ rfl _ _ 23 rfl w3.heap.size 46 _ 5 32 Try.underlying23 infoC rfl (by decide) _ _ _ _ rfl HR.out _ _ _ (eC.enc (chg k f t)) rfl rfl (fun _ => ⟨_, rfl, HN.out⟩) (fun uu hu => eC.one (chg k f t) uu hu) (by decide) (by omega) HB8.out.size ?_; intro A4 c4 w4 r1 r2 r3)
            go_roundw
            case rel =>
              have h1 := ow_app (e := eC) (x := chg k f t) r1
              exact ⟨j + 1, zs.length + 1, A4, c4, zs ++ [chg k f t], by go_num, by omega, rfl, by omega, hide ⟨HZN.out, by rw [List.length_append]; rfl⟩, hide (by rw [List.length_append] at h1; exact h1), hide (HB8.out.trans (r2.below (fun k hk => (HR.out.blk k hk).1) HB8.out.size))⟩
            case measure => simp [RowKit.intOf]; omega
        · obtain rfl : j = NK := by omega
          have d0 : decide ((j : Int) < (j : Int)) = false := decide_eq_false (by omega)
          have hz : difL a b = zs := by rw [HKD.out, ← HZ.out.1, List.take_of_length_le (by rw [HNK.out]; exact Nat.le_refl _)]
          have hzl := HZ.out.2
          have hd := HR.out
          rw [hz] at hd
          have HBL := hide (Below.mono HB.out B3.out.size)
          by_cases h64 : m ≤ 64
          · have d1 : decide ((64 : Int) < (m : Int)) = false := decide_eq_false (by omega)
            have HRR := hide (show difR a b = (zs, 0) by rw [hd]; exact full_ok (by rw [hzl]; exact h64))
            have HOZ := hide (HO.out.low B3.out.size)
            subst hzl
            clear hz hd
            go_wp2_with fail
            go_ret2
            unfold Giv
            rw [HRR.out]
            exact ⟨A, c, rfl, HOZ.out, B3.out.trans HBL.out⟩
          · have d1 : decide ((64 : Int) < (m : Int)) = true := decide_eq_true (by omega)
            have HRR := hide (show difR a b = ([], 6) by rw [hd]; exact full_no (by rw [hzl]; exact h64))
            clear hz hd hzl
            go_wp2_with fail
            go_ret2
            exact Giv.none 6 HRR.out rfl (B3.out.trans HBL.out)

theorem belGr {w W W' : World} (h : Below w.heap.size w W) (g : Gr W W') : Below w.heap.size w W' := Below.next h g.below

set_option maxHeartbeats 8000000 in
set_option maxRecDepth 100000 in
theorem rdiff_any (A1 : Option Addr) (n1 c1 : Nat) (a : List Ent) (A2 : Option Addr) (n2 c2 : Nat) (b : List Ent) (w : World) (ha : SL eE w A1 n1 a) (hb : SL eE w A2 n2 b) (h1 : n1 ≤ 200) (h2 : n2 ≤ 200) :
    Calls Try.prog 22 #[.slice A1 n1 c1, .slice A2 n2 c2] w (Giv eC w (difR a b)) := by
  have HX0 := hide ha
  have HX1 := hide hb
  clear ha hb
  cases hv0 : vE a with
  | false =>
    have HR := hide (difR_no (b := b) (.inl hv0))
    have HV0 := hide hv0
    clear hv0
    go_enter Try.func22, Try.ntmps22
    go_wp2_with fail
    refine (rvalid_any A1 n1 c1 a w HX0.out (by omega) false HV0.out).mono ?_
    rintro e w1 ⟨rfl, g1⟩
    have G1 := hide (g1)
    clear g1
    go_wp2_with fail
    go_ret2
    exact Giv.none 1 HR.out rfl G1.out.below
  | true =>
    cases hv1 : vE b with
    | false =>
      have HR := hide (difR_no (a := a) (.inr hv1))
      have HV0 := hide hv0
      have HV1 := hide hv1
      clear hv0 hv1
      go_enter Try.func22, Try.ntmps22
      go_wp2_with fail
      refine (rvalid_any A1 n1 c1 a w HX0.out (by omega) true HV0.out).mono ?_
      rintro e w1 ⟨rfl, g1⟩
      have G1 := hide (g1)
      clear g1
      go_wp2_with fail
      refine (rvalid_any A2 n2 c2 b w1 (HX1.out.keep G1.out.below) (by omega) false HV1.out).mono ?_
      rintro e w2 ⟨rfl, g2⟩
      have G2 := hide ((G1.out.trans g2))
      clear g2
      go_wp2_with fail
      go_ret2
      exact Giv.none 1 HR.out rfl G2.out.below
    | true =>
      have HR := hide (difR_ok hv0 hv1)
      have HV0 := hide hv0
      have HV1 := hide hv1
      clear hv0 hv1
      go_enter Try.func22, Try.ntmps22
      go_wp2_with fail
      refine (rvalid_any A1 n1 c1 a w HX0.out (by omega) true HV0.out).mono ?_
      rintro e w1 ⟨rfl, g1⟩
      have G1 := hide (g1)
      clear g1
      go_wp2_with fail
      refine (rvalid_any A2 n2 c2 b w1 (HX1.out.keep G1.out.below) (by omega) true HV1.out).mono ?_
      rintro e w2 ⟨rfl, g2⟩
      have G2 := hide ((G1.out.trans g2))
      clear g2
      go_wp2_with fail
      have hK : kset (fl [⟨A1, n1, c1, a⟩, ⟨A2, n2, c2, b⟩]) = difK a b := by rw [fl_two]; rfl
      have hfl : (fl [⟨A1, n1, c1, a⟩, ⟨A2, n2, c2, b⟩]).length ≤ 900 := by rw [fl_two, List.length_append, List.length_map, List.length_map, HX0.out.1, HX1.out.1]; omega
      have hNK : (difK a b).length ≤ 400 := by
        refine Nat.le_trans (len_kset _) ?_
        rw [List.length_append, List.length_map, List.length_map, HX0.out.1, HX1.out.1]
        omega
      have HCK := hide (keys_any w2.heap.size 2 2 [⟨A1, n1, c1, a⟩, ⟨A2, n2, c2, b⟩] (w2.alloc (.cells #[.slice A1 n1 c1, .slice A2 n2 c2] 22)) (ll_two (newE w2 _ _ rfl) ((HX0.out.keep G2.out.below).keep ((Below.refl _ _).alloc (Nat.le_refl _) _)) ((HX1.out.keep G2.out.below).keep ((Below.refl _ _).alloc (Nat.le_refl _) _))) rfl (by decide) hfl)
      rw [hK] at HCK
      have HKD := hide (show difL a b = mkC (difK a b) (at' a) (at' b) from rfl)
      generalize difK a b = K at *
      clear hK hfl
      refine HCK.out.mono ?_
      rintro e w3 ⟨AK, cK, rfl, ok, bk⟩
      have HKS := hide ok.1
      have B3 := hide (show Below w.heap.size w w3 from Below.next (Below.allocS G2.out.below _) bk)
      have HLK := hide (rfl : K.length = K.length)
      generalize hnk : K.length = NK at *
      clear ok bk HCK HLK
      have HNK := hide hnk
      clear hnk
      have HX0 := hide (HX0.out.keep B3.out)
      have HX1 := hide (HX1.out.keep B3.out)
      have mixed : Try.prog.follows Departure.mixedOrders = true := by kernel_rfl
      go_wp2_with fail
      go_loopw [6, 8] (fun s i wr => ∃ (j m : Nat) (A : Option Addr) (c : Nat) (zs : List Chg), i = .int .i64 (j : Int) ∧ j ≤ NK ∧ s = .slice A m c ∧ m ≤ j ∧ Hid (mkC (K.take j) (at' a) (at' b) = zs ∧ zs.length = m) ∧ Hid (Ow eC wr w3.heap.size A m c zs) ∧ Hid (Below w3.heap.size w3 wr)) (fun _ i _ => NK - (RowKit.intOf i).toNat)
      case atStart => exact ⟨0, 0, none, 0, [], rfl, Nat.zero_le _, rfl, Nat.le_refl _, hide ⟨rfl, rfl⟩, hide (Ow.nil_ _ _), hide (Below.refl _ _)⟩
      case round =>
        obtain ⟨j, m, A, c, zs, rfl, hj, rfl, hmj, HZ, HO, HB⟩ := hrel
        by_cases hlt : j < NK
        · obtain ⟨bk, ok, k, rfl, hl, hk, ck0⟩ := HKS.out.atI hlt
          have KS := hide (fun (W : World) (h : Below w3.heap.size w3 W) => show W.cell? ⟨bk, ok + j, none⟩ = some (.int .i64 k) by rw [h.cell (p := ⟨bk, ok + j, none⟩) hl, show ok + j = ok + j * 1 by omega]; exact ck0)
          have d0 : decide ((j : Int) < (NK : Int)) = true := decide_eq_true (by omega)
          have a1 : (0 : Int) ≤ (j : Int) := by omega
          have a2 : (j : Int) < (NK : Int) := by omega
          obtain ⟨f, hf⟩ : ∃ f, at' a k = f := ⟨_, rfl⟩
          obtain ⟨t, ht⟩ : ∃ t, at' b k = t := ⟨_, rfl⟩
          have HF := hide hf
          have HT := hide ht
          have hz0 := mkC_next hk (at' a) (at' b)
          rw [hf, ht, HZ.out.1] at hz0
          obtain ⟨zN, hzN⟩ : ∃ zN, mkC (K.take (j + 1)) (at' a) (at' b) = zN := ⟨_, rfl⟩
          rw [hzN] at hz0
          have HZQ := hide hzN
          have HZL := hide (show zN.length ≤ j + 1 by rw [hz0, List.length_append, HZ.out.2]; have : (chO1 k f t).toList.length ≤ 1 := (by cases chO1 k f t <;> simp); omega)
          have HZN := hide hz0.symm
          obtain rfl : zs.length = m := HZ.out.2
          have bb0 := HB.out
          clear ck0 hk hf ht hl hzN hz0
          go_wp2_with fail
          go_region_held3 (fun w' => w'.cell? ⟨bk, ok + j, none⟩ = some (.int .i64 k))
            (exact KS.out _ (by ((repeat (first | (with_reducible assumption) | (with_reducible exact Below.refl _ _) | (with_reducible refine Below.drewS ?_) | (with_reducible refine Below.allocS ?_ _) | (with_reducible refine belGr ?_ (by assumption)) | (with_reducible refine Below.next ?_ (by assumption)) | (with_reducible refine Below.trans ?_ (by assumption)))); (first | done | fail))))
            (first
              | (go_at_call_of 49 (Value.slice A1 n1 c1); (with_reducible refine (rat_any A1 n1 c1 a k _ (HX0.out.keep (by ((repeat (first | (with_reducible assumption) | (with_reducible exact Below.refl _ _) | (with_reducible refine Below.drewS ?_) | (with_reducible refine Below.allocS ?_ _) | (with_reducible refine belGr ?_ (by assumption)) | (with_reducible refine Below.next ?_ (by assumption)) | (with_reducible refine Below.trans ?_ (by assumption)))); (first | done | fail)))) (by omega) f HF.out).mono ?_); rintro e u1 ⟨rfl, hg⟩)
              | (go_at_call_of 49 (Value.slice A2 n2 c2); (with_reducible refine (rat_any A2 n2 c2 b k _ (HX1.out.keep (by ((repeat (first | (with_reducible assumption) | (with_reducible exact Below.refl _ _) | (with_reducible refine Below.drewS ?_) | (with_reducible refine Below.allocS ?_ _) | (with_reducible refine belGr ?_ (by assumption)) | (with_reducible refine Below.next ?_ (by assumption)) | (with_reducible refine Below.trans ?_ (by assumption)))); (first | done | fail)))) (by omega) t HT.out).mono ?_); rintro e u2 ⟨rfl, hg2⟩)
              | (go_at_call 35; (with_reducible refine (change_any w3.heap.size c A zs zN k f t _ (HO.out.keep (by ((repeat (first | (with_reducible assumption) | (with_reducible exact Below.refl _ _) | (with_reducible refine Below.drewS ?_) | (with_reducible refine Below.allocS ?_ _) | (with_reducible refine belGr ?_ (by assumption)) | (with_reducible refine Below.next ?_ (by assumption)) | (with_reducible refine Below.trans ?_ (by assumption)))); (first | done | fail)))) (Below.size (B := w3.heap.size) (w := w3) (by ((repeat (first | (with_reducible assumption) | (with_reducible exact Below.refl _ _) | (with_reducible refine Below.drewS ?_) | (with_reducible refine Below.allocS ?_ _) | (with_reducible refine belGr ?_ (by assumption)) | (with_reducible refine Below.next ?_ (by assumption)) | (with_reducible refine Below.trans ?_ (by assumption)))); (first | done | fail)))) (by omega) HZN.out).mono ?_); rintro e u3 ⟨A4, c4, rfl, o4, b4⟩))
          all_goals
            have HO4 := hide o4
            have HB4 := hide (show Below w3.heap.size w3 u3 from Below.trans (by ((repeat (first | (with_reducible assumption) | (with_reducible exact Below.refl _ _) | (with_reducible refine Below.drewS ?_) | (with_reducible refine Below.allocS ?_ _) | (with_reducible refine belGr ?_ (by assumption)) | (with_reducible refine Below.next ?_ (by assumption)) | (with_reducible refine Below.trans ?_ (by assumption)))); (first | done | fail))) b4)
            clear o4 b4
            go_wp2_with fail
            go_roundw
            case rel => exact ⟨j + 1, zN.length, A4, c4, zN, by go_num, by omega, rfl, HZL.out, hide ⟨HZQ.out, rfl⟩, HO4, HB4⟩
            case measure => simp [RowKit.intOf]; omega
        · obtain rfl : j = NK := by omega
          have d0 : decide ((j : Int) < (j : Int)) = false := decide_eq_false (by omega)
          have hz : difL a b = zs := by rw [HKD.out, ← HZ.out.1, List.take_of_length_le (by rw [HNK.out]; exact Nat.le_refl _)]
          have hzl := HZ.out.2
          have hd := HR.out
          rw [hz] at hd
          have HBL := hide (Below.mono HB.out B3.out.size)
          by_cases h64 : m ≤ 64
          · have d1 : decide ((64 : Int) < (m : Int)) = false := decide_eq_false (by omega)
            have HRR := hide (show difR a b = (zs, 0) by rw [hd]; exact full_ok (by rw [hzl]; exact h64))
            have HOZ := hide (HO.out.low B3.out.size)
            subst hzl
            clear hz hd
            go_wp2_with fail
            go_ret2
            unfold Giv
            rw [HRR.out]
            exact ⟨A, c, rfl, HOZ.out, B3.out.trans HBL.out⟩
          · have d1 : decide ((64 : Int) < (m : Int)) = true := decide_eq_true (by omega)
            have HRR := hide (show difR a b = ([], 6) by rw [hd]; exact full_no (by rw [hzl]; exact h64))
            clear hz hd hzl
            go_wp2_with fail
            go_ret2
            exact Giv.none 6 HRR.out rfl (B3.out.trans HBL.out)
end Go.Proofs.Ytadmiecoahohiaa
