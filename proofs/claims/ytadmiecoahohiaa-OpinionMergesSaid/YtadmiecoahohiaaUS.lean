/- Compose, of the reference. -/
import Derived.Test.YtadmiecoahohiaaUR
namespace Go.Proofs.Ytadmiecoahohiaa
open Go Go.RowKit Go.Lib
def cfK (c d : List Chg) (k : Int) : Bool := match hitC c k with
  | some x => cfC1 d x
  | none => false
theorem cfK_hit {c d : List Chg} {k : Int} {x y : Chg} (hx : hitC c k = some x) (hk : x.k = k) (hy : hitC d k = some y) : cfK c d k = decide (x.new ≠ y.old) := by
  unfold cfK
  rw [hx]
  exact cfC1_hit (by rw [hk]; exact hy)
theorem cfK_n1 {c d : List Chg} {k : Int} (hx : hitC c k = none) : cfK c d k = false := by unfold cfK; rw [hx]
theorem cfK_n2 {c d : List Chg} {k : Int} {x : Chg} (hx : hitC c k = some x) (hk : x.k = k) (hy : hitC d k = none) : cfK c d k = false := by
  unfold cfK
  rw [hx]
  exact cfC1_none (by rw [hk]; exact hy)
theorem cfK_no {c d : List Chg} (hc : Srt Chg.k c) (h : ∀ k ∈ coK c d, cfK c d k = false) : cfC c d = false := by
  refine cfC_no fun x hx => ?_
  have h1 := h x.k (mem_coK.2 (.inl ⟨x, hx, rfl⟩))
  unfold cfK at h1
  rw [(hitC_iff hc).2 ⟨hx, rfl⟩] at h1
  exact h1
theorem cfK_yes {c d : List Chg} (_hc : Srt Chg.k c) {k : Int} (h : cfK c d k = true) : cfC c d = true := by
  unfold cfK at h
  cases hh : hitC c k with
  | none => rw [hh] at h; cases h
  | some x =>
    rw [hh] at h
    unfold cfC
    rw [List.any_eq_true]
    exact ⟨x, (find_some (κ := Chg.k) hh).1, h⟩
theorem coO_n2 {c d : List Chg} {k : Int} {x : Chg} (hx : hitC c k = some x) (hy : hitC d k = none) : coO c d k = some x := by unfold coO; rw [hx, hy]
theorem coO_n1 {c d : List Chg} {k : Int} {y : Chg} (hx : hitC c k = none) (hy : hitC d k = some y) : coO c d k = some y := by unfold coO; rw [hx]; exact hy
theorem coO_two {c d : List Chg} {k : Int} {x y : Chg} (hx : hitC c k = some x) (hk : x.k = k) (hy : hitC d k = some y) : coO c d k = chO1 k ⟨x.o, x.h⟩ ⟨y.n, y.s⟩ := by unfold coO; rw [hx, hy, ← hk]; rfl
theorem mapC_next {l : List Chg} {m : Nat} {y : Chg} (h : l[m]? = some y) : (l.take (m + 1)).map Chg.k = (l.take m).map Chg.k ++ [y.k] := by
  rw [take_next h, List.map_append]; rfl

set_option maxHeartbeats 32000000 in
set_option maxRecDepth 100000 in
theorem rcompose_any (A1 : Option Addr) (n1 c1 : Nat) (c : List Chg) (A2 : Option Addr) (n2 c2 : Nat) (d : List Chg) (w : World) (hc : SL eC w A1 n1 c) (hd : SL eC w A2 n2 d) (h1 : n1 ≤ 200) (h2 : n2 ≤ 200) :
    Calls Try.prog 27 #[.slice A1 n1 c1, .slice A2 n2 c2] w (Giv eC w (comR c d)) := by
  have HX0 := hide hc
  have HX1 := hide hd
  clear hc hd
  cases hv0 : vC c with
  | false =>
    have HR := hide (comR_no (d := d) (.inl hv0))
    have HV0 := hide hv0
    clear hv0
    go_enter Try.func27, Try.ntmps27
    go_wp2_with fail
    refine (rvalidC_any A1 n1 c1 c w HX0.out (by omega) false HV0.out).mono ?_
    rintro e w1 ⟨rfl, g1⟩
    have G1 := hide (g1)
    clear g1
    go_wp2_with fail
    go_ret2
    exact Giv.none 1 HR.out rfl G1.out.below
  | true =>
    cases hv1 : vC d with
    | false =>
      have HR := hide (comR_no (c := c) (.inr hv1))
      have HV0 := hide hv0
      have HV1 := hide hv1
      clear hv0 hv1
      go_enter Try.func27, Try.ntmps27
      go_wp2_with fail
      refine (rvalidC_any A1 n1 c1 c w HX0.out (by omega) true HV0.out).mono ?_
      rintro e w1 ⟨rfl, g1⟩
      have G1 := hide (g1)
      clear g1
      go_wp2_with fail
      refine (rvalidC_any A2 n2 c2 d w1 (HX1.out.keep G1.out.below) (by omega) false HV1.out).mono ?_
      rintro e w2 ⟨rfl, g2⟩
      have G2 := hide ((G1.out.trans g2))
      clear g2
      go_wp2_with fail
      go_ret2
      exact Giv.none 1 HR.out rfl G2.out.below
    | true =>
      have HR := hide (comR_ok hv0 hv1)
      have HV0 := hide hv0
      have HV1 := hide hv1
      clear hv0 hv1
      go_enter Try.func27, Try.ntmps27
      go_wp2_with fail
      refine (rvalidC_any A1 n1 c1 c w HX0.out (by omega) true HV0.out).mono ?_
      rintro e w1 ⟨rfl, g1⟩
      have G1 := hide (g1)
      clear g1
      go_wp2_with fail
      refine (rvalidC_any A2 n2 c2 d w1 (HX1.out.keep G1.out.below) (by omega) true HV1.out).mono ?_
      rintro e w2 ⟨rfl, g2⟩
      have G2 := hide ((G1.out.trans g2))
      clear g2
      go_wp2_with fail
      have HX0 := hide (HX0.out.keep G2.out.below)
      have HX1 := hide (HX1.out.keep G2.out.below)
      have hcv := vC_iff.1 HV0.out
      have hdv := vC_iff.1 HV1.out
      have HSC := hide hcv.2.1
      have hn1 : n1 ≤ 64 := by rw [← HX0.out.1]; exact hcv.1
      have hn2 : n2 ≤ 64 := by rw [← HX1.out.1]; exact hdv.1
      have B2 := hide G2.out.below
      have HKB := hide (show ∀ i, (c.map Chg.k ++ (d.take i).map Chg.k).length ≤ 200 from fun i => by rw [List.length_append, List.length_map, List.length_map, HX0.out.1, List.length_take, HX1.out.1]; omega)
      have mixed : Try.prog.follows Departure.mixedOrders = true := by kernel_rfl
      clear hcv hdv
      go_loopw [6, 7] (fun s i wr => ∃ (j m : Nat) (A : Option Addr) (cc : Nat) (U : List Int), i = .int .i64 (j : Int) ∧ j ≤ n1 ∧ s = .slice A m cc ∧ Hid (kset ((c.take j).map Chg.k) = U ∧ U.length = m) ∧ Hid (SK wr A m cc U) ∧ Hid (Below w2.heap.size w2 wr)) (fun _ i _ => n1 - (RowKit.intOf i).toNat)
      case atStart => exact ⟨0, 0, none, 0, [], rfl, Nat.zero_le _, rfl, hide ⟨rfl, rfl⟩, hide (Ow.nil_ w2 w2.heap.size).sk, hide (Below.refl _ _)⟩
      case round =>
        obtain ⟨j, m, A, cc, U, rfl, hj, rfl, HZ, HO, HB⟩ := hrel
        by_cases hlt : j < n1
        · obtain ⟨bk, ok, x, rfl, hl, hk, m0, m1, m2, m3, m4⟩ := (HX0.out.keep HB.out).atC hlt
          have HM := hide (mapC_next hk)
          have d0 : decide ((j : Int) < (n1 : Int)) = true := decide_eq_true (by omega)
          have a1 : (0 : Int) ≤ (j : Int) := by omega
          have a2 : (j : Int) < (n1 : Int) := by omega
          have HPU := hide (show put idK U x.k = kset ((c.take (j + 1)).map Chg.k) by rw [← HZ.out.1, HM.out, kset_snoc])
          have hml : m ≤ 200 := by
            rw [← HZ.out.2, ← HZ.out.1]
            refine Nat.le_trans (len_kset _) ?_
            have h5 : ((c.take j).map Chg.k).length ≤ n1 := (by rw [List.length_map, List.length_take, HX0.out.1]; omega)
            omega
          have HSU := hide (show Srt idK U by rw [← HZ.out.1]; exact srt_kset _)
          clear hk
          go_wp2_with fail
          refine (with_any A m cc U x.k wr HO.out HSU.out (by omega)).mono ?_
          rintro e w7 ⟨A7, c7, rfl, s7, b7⟩
          have HS7 := hide s7
          have HB7 := hide (Below.next HB.out b7)
          have HPL := hide HPU.out.symm
          clear s7 b7 m0 m1 m2 m3 m4
          generalize put idK U x.k = U2 at *
          generalize hu2 : U2.length = mm2 at *
          have HU2 := hide hu2
          clear hu2
          go_wp2_with fail
          go_roundw
          case rel => exact ⟨j + 1, mm2, A7, c7, U2, by go_num, by omega, rfl, hide ⟨HPL.out, HU2.out⟩, HS7, HB7⟩
          case measure => simp [RowKit.intOf]; omega
        · obtain rfl : n1 = j := by omega
          have d0 : decide ((n1 : Int) < (n1 : Int)) = false := decide_eq_false (by omega)
          have hall : c.take n1 = c := List.take_of_length_le (by rw [HX0.out.1]; exact Nat.le_refl _)
          rw [hall] at HZ
          clear hall
          obtain ⟨w8, h8⟩ : ∃ z, z = wr := ⟨_, rfl⟩
          subst h8
          generalize A = AQ at *
          generalize cc = cQ at *
          generalize U = UQ at *
          generalize m = mQ at *
          have HBQ := HB
          have HOQ := HO
          have HZQ := HZ
          clear HB HO HZ
          go_wp2_with fail
          go_loopw [6, 8] (fun s i wr => ∃ (j m : Nat) (A : Option Addr) (cc : Nat) (U : List Int), i = .int .i64 (j : Int) ∧ j ≤ n2 ∧ s = .slice A m cc ∧ Hid (kset (c.map Chg.k ++ (d.take j).map Chg.k) = U ∧ U.length = m) ∧ Hid (SK wr A m cc U) ∧ Hid (Below w2.heap.size w2 wr)) (fun _ i _ => n2 - (RowKit.intOf i).toNat)
          case atStart => exact ⟨0, mQ, AQ, cQ, UQ, rfl, Nat.zero_le _, rfl, hide ⟨by rw [List.take_zero, List.map_nil, List.append_nil]; exact HZQ.out.1, HZQ.out.2⟩, HOQ, HBQ⟩
          case round =>
            obtain ⟨j, m, A, cc, U, rfl, hj, rfl, HZ, HO, HB⟩ := hrel
            by_cases hlt : j < n2
            · obtain ⟨bk, ok, x, rfl, hl, hk, m0, m1, m2, m3, m4⟩ := (HX1.out.keep HB.out).atC hlt
              have HM := hide (mapC_next hk)
              have d0 : decide ((j : Int) < (n2 : Int)) = true := decide_eq_true (by omega)
              have a1 : (0 : Int) ≤ (j : Int) := by omega
              have a2 : (j : Int) < (n2 : Int) := by omega
              have HPU := hide (show put idK U x.k = kset (c.map Chg.k ++ (d.take (j + 1)).map Chg.k) by rw [← HZ.out.1, HM.out, ← List.append_assoc, kset_snoc])
              have hml : m ≤ 200 := by
                rw [← HZ.out.2, ← HZ.out.1]
                refine Nat.le_trans (len_kset _) ?_
                have := HKB.out j
                exact this
              have HSU := hide (show Srt idK U by rw [← HZ.out.1]; exact srt_kset _)
              clear hk
              go_wp2_with fail
              refine (with_any A m cc U x.k wr HO.out HSU.out (by omega)).mono ?_
              rintro e w7 ⟨A7, c7, rfl, s7, b7⟩
              have HS7 := hide s7
              have HB7 := hide (Below.next HB.out b7)
              have HPL := hide HPU.out.symm
              clear s7 b7 m0 m1 m2 m3 m4
              generalize put idK U x.k = U2 at *
              generalize hu2 : U2.length = mm2 at *
              have HU2 := hide hu2
              clear hu2
              go_wp2_with fail
              go_roundw
              case rel => exact ⟨j + 1, mm2, A7, c7, U2, by go_num, by omega, rfl, hide ⟨HPL.out, HU2.out⟩, HS7, HB7⟩
              case measure => simp [RowKit.intOf]; omega
            · obtain rfl : n2 = j := by omega
              have d0 : decide ((n2 : Int) < (n2 : Int)) = false := decide_eq_false (by omega)
              have HNK := hide HZ.out.2
              have HKD := hide (show coK c d = U by rw [← HZ.out.1, List.take_of_length_le (by rw [HX1.out.1]; exact Nat.le_refl _)]; rfl)
              have hnk : m ≤ 200 := by rw [← HZ.out.2, ← HZ.out.1]; exact Nat.le_trans (len_kset _) (HKB.out n2)
              have B3 := hide (Below.next B2.out HB.out)
              have HX0 := hide (HX0.out.keep HB.out)
              have HX1 := hide (HX1.out.keep HB.out)
              have HKS := hide HO.out.1
              obtain ⟨w3, h3⟩ : ∃ z, z = wr := ⟨_, rfl⟩
              subst h3
              clear HB HZ HO
              generalize U = K at *
              generalize m = NK at *
              go_wp2_with fail
              go_loopw [9, 10] (fun s i wr => ∃ (j m : Nat) (A : Option Addr) (cc : Nat) (zs : List Chg), i = .int .i64 (j : Int) ∧ j ≤ NK ∧ s = .slice A m cc ∧ m ≤ j ∧ Hid ((K.take j).filterMap (coO c d) = zs ∧ zs.length = m ∧ ∀ k ∈ K.take j, cfK c d k = false) ∧ Hid (Ow eC wr w3.heap.size A m cc zs) ∧ Hid (Below w3.heap.size w3 wr)) (fun _ i _ => NK - (RowKit.intOf i).toNat)
              case atStart => exact ⟨0, 0, none, 0, [], rfl, Nat.zero_le _, rfl, Nat.le_refl _, hide ⟨rfl, rfl, fun k hk => by cases hk⟩, hide (Ow.nil_ _ _), hide (Below.refl _ _)⟩
              case round =>
                obtain ⟨j, m, A, cc, zs, rfl, hj, rfl, hmj, HZ, HO, HB⟩ := hrel
                by_cases hlt3 : j < NK
                · obtain ⟨bk, ok, k, rfl, hl, hk, ck0⟩ := HKS.out.atI hlt3
                  have HK1 := hide hk
                  have hkm : k ∈ coK c d := by rw [HKD.out]; exact List.mem_of_getElem? hk
                  have HKM := hide hkm
                  have HKC := hide (fun (W : World) (h : Below w3.heap.size w3 W) => show W.cell? ⟨bk, ok + j, none⟩ = some (.int .i64 k) by rw [h.cell (p := ⟨bk, ok + j, none⟩) hl, show ok + j = ok + j * 1 by omega]; exact ck0)
                  have HZN := hide (fm_next (f := coO c d) hk)
                  have d1 : decide ((j : Int) < (NK : Int)) = true := decide_eq_true (by omega)
                  have a1 : (0 : Int) ≤ (j : Int) := by omega
                  have a2 : (j : Int) < (NK : Int) := by omega
                  have bb0 := HB.out
                  clear ck0 hk hkm
                  go_wp2_with fail
                  go_region_held3 (fun w' => w'.cell? ⟨bk, ok + j, none⟩ = some (.int .i64 k))
                    (exact HKC.out _ (by ((repeat (first | (with_reducible assumption) | (with_reducible exact Below.refl _ _) | (with_reducible refine Below.drewS ?_) | (with_reducible refine Below.allocS ?_ _) | (with_reducible refine belGr ?_ (by assumption)) | (with_reducible refine Below.next ?_ (by assumption)) | (with_reducible refine Below.trans ?_ (by assumption)))); (first | done | fail))))
                    (first
                      | (go_at_call_of 53 (Value.slice A1 n1 c1); (with_reducible refine (rfind_any A1 n1 c1 c k _ (HX0.out.keep (by ((repeat (first | (with_reducible assumption) | (with_reducible exact Below.refl _ _) | (with_reducible refine Below.drewS ?_) | (with_reducible refine Below.allocS ?_ _) | (with_reducible refine belGr ?_ (by assumption)) | (with_reducible refine Below.next ?_ (by assumption)) | (with_reducible refine Below.trans ?_ (by assumption)))); (first | done | fail)))) (by omega)).mono ?_); rintro e u1 ⟨v1, rfl, hv1, rfl⟩)
                      | (go_at_call_of 53 (Value.slice A2 n2 c2); (with_reducible refine (rfind_any A2 n2 c2 d k _ (HX1.out.keep (by ((repeat (first | (with_reducible assumption) | (with_reducible exact Below.refl _ _) | (with_reducible refine Below.drewS ?_) | (with_reducible refine Below.allocS ?_ _) | (with_reducible refine belGr ?_ (by assumption)) | (with_reducible refine Below.next ?_ (by assumption)) | (with_reducible refine Below.trans ?_ (by assumption)))); (first | done | fail)))) (by omega)).mono ?_); rintro e u2 ⟨v2, rfl, hv2, rfl⟩))
                  all_goals
                    obtain ⟨wq, hq⟩ : ∃ z, z = wr.drew := ⟨_, rfl⟩
                    have HOq := hide (show Ow eC wq w3.heap.size A m cc zs by rw [hq]; exact HO.out.keep (Below.refl _ _).drew)
                    have HBq := hide (show Below w3.heap.size w3 wq by rw [hq]; exact Below.drewS HB.out)
                    rw [← hq]
                    clear hq bb0
                    rcases hv2 with ⟨rfl, hh2⟩ | ⟨q, y, rfl, hy, hyk, hh2⟩
                    · rcases hv1 with ⟨rfl, hh1⟩ | ⟨i, x, rfl, hx, hxk, hh1⟩
                      · exfalso
                        rcases mem_coK.1 HKM.out with ⟨z, hz, hzk⟩ | ⟨z, hz, hzk⟩
                        · exact hitC_none.1 hh1 z hz hzk
                        · exact hitC_none.1 hh2 z hz hzk
                      · have hin : i < n1 := by rw [← HX0.out.1]; exact (List.getElem?_eq_some_iff.1 hx).1
                        obtain ⟨bc, oc, x', rfl, hlc, hx', m0, m1, m2, m3, m4⟩ := (HX0.out.keep HBq.out).atC hin
                        obtain rfl : x' = x := by rw [hx] at hx'; injection hx' with hx'; exact hx'.symm
                        have HCF := hide (cfK_n2 hh1 hxk hh2)
                        have d2 : decide ((-1 : Int) < 0) = true := by decide
                        have b1 : (0 : Int) ≤ (i : Int) := by omega
                        have b2_ : (i : Int) < (n1 : Int) := by omega
                        have HC1 := hide (coO_n2 hh1 hh2)
                        clear hh1 hh2 hx hx' hxk
                        have HZN := hide (show (K.take (j + 1)).filterMap (coO c d) = zs ++ [x'] by rw [HZN.out, HZ.out.1, HC1.out]; rfl)
                        obtain rfl : zs.length = m := HZ.out.2.1
                        have HR9 := hide (show Ow eC (wq.alloc (.cells #[.int .i64 x'.k, .int .i64 x'.o, .int .i64 x'.n, .bool x'.h, .bool x'.s] 46)) w3.heap.size A zs.length cc zs from HOq.out.keep ((Below.refl _ _).alloc (Nat.le_refl _) _))
                        have HN := hide (litC (x := x') (newE wq #[.int .i64 x'.k, .int .i64 x'.o, .int .i64 x'.n, .bool x'.h, .bool x'.s] 46 rfl))
                        have HB8 := hide (Below.allocS HBq.out (.cells #[.int .i64 x'.k, .int .i64 x'.o, .int .i64 x'.n, .bool x'.h, .bool x'.s] 46))
                        go_wp2_with (at_builtin; refine wpList_app_ow _ rfl _ _ 23 rfl w3.heap.size 46 _ 5 32 Try.underlying23 infoC rfl (by decide) _ _ _ _ rfl HR9.out _ _ _ (eC.enc x') rfl rfl (fun _ => ⟨_, rfl, HN.out⟩) (fun uu hu => eC.one x' uu hu) (by decide) (by omega) HB8.out.size ?_; intro A4 c4 w4 r1 r2 r3)
                        go_roundw
                        case rel =>
                          have h1 := ow_app (e := eC) (x := x') r1
                          exact ⟨j + 1, zs.length + 1, A4, c4, zs ++ [x'], by go_num, by omega, rfl, by omega, hide ⟨HZN.out, by rw [List.length_append]; rfl, all_next HK1.out HZ.out.2.2 HCF.out⟩, hide (by rw [List.length_append] at h1; exact h1), hide (HB8.out.trans (r2.below (fun k hk => (HR9.out.blk k hk).1) HB8.out.size))⟩
                        case measure => simp [RowKit.intOf]; omega
                    · have hqn : q < n2 := by rw [← HX1.out.1]; exact (List.getElem?_eq_some_iff.1 hy).1
                      obtain ⟨bd, od, y', rfl, hld, hy', hcy⟩ := HX1.out.atC hqn
                      obtain rfl : y' = y := by rw [hy] at hy'; injection hy' with hy'; exact hy'.symm
                      have d2 : decide ((q : Int) < 0) = false := decide_eq_false (by omega)
                      have b1 : (0 : Int) ≤ (q : Int) := by omega
                      have b2_ : (q : Int) < (n2 : Int) := by omega
                      have KY := hide (fun (w' : World) (h : Below w3.heap.size w3 w') => show w'.cell? ⟨bd, od + q * 5, none⟩ = some (.int .i64 y'.k) ∧ w'.cell? ⟨bd, od + q * 5 + 1, none⟩ = some (.int .i64 y'.o) ∧ w'.cell? ⟨bd, od + q * 5 + 2, none⟩ = some (.int .i64 y'.n) ∧ w'.cell? ⟨bd, od + q * 5 + 3, none⟩ = some (.bool y'.h) ∧ w'.cell? ⟨bd, od + q * 5 + 4, none⟩ = some (.bool y'.s) by
                        have ex : ∀ p : Addr, p.block < w3.heap.size → w'.cell? p = w3.cell? p := fun p hp => h.cell hp
                        rw [ex ⟨bd, od + q * 5, none⟩ hld, ex ⟨bd, od + q * 5 + 1, none⟩ hld, ex ⟨bd, od + q * 5 + 2, none⟩ hld, ex ⟨bd, od + q * 5 + 3, none⟩ hld, ex ⟨bd, od + q * 5 + 4, none⟩ hld]
                        exact hcy)
                      rcases hv1 with ⟨rfl, hh1⟩ | ⟨i, x, rfl, hx, hxk, hh1⟩
                      · obtain ⟨m0, m1, m2, m3, m4⟩ := KY.out _ HBq.out
                        have HCF := hide (cfK_n1 (d := d) hh1)
                        have d3 : decide ((-1 : Int) < 0) = true := by decide
                        have HC1 := hide (coO_n1 hh1 hh2)
                        clear hh1 hh2 hy hy' hyk hcy
                        have HZN := hide (show (K.take (j + 1)).filterMap (coO c d) = zs ++ [y'] by rw [HZN.out, HZ.out.1, HC1.out]; rfl)
                        obtain rfl : zs.length = m := HZ.out.2.1
                        have HR9 := hide (show Ow eC (wq.alloc (.cells #[.int .i64 y'.k, .int .i64 y'.o, .int .i64 y'.n, .bool y'.h, .bool y'.s] 46)) w3.heap.size A zs.length cc zs from HOq.out.keep ((Below.refl _ _).alloc (Nat.le_refl _) _))
                        have HN := hide (litC (x := y') (newE wq #[.int .i64 y'.k, .int .i64 y'.o, .int .i64 y'.n, .bool y'.h, .bool y'.s] 46 rfl))
                        have HB8 := hide (Below.allocS HBq.out (.cells #[.int .i64 y'.k, .int .i64 y'.o, .int .i64 y'.n, .bool y'.h, .bool y'.s] 46))
                        go_wp2_with (at_builtin; refine wpList_app_ow _ rfl _ _ 23 rfl w3.heap.size 46 _ 5 32 Try.underlying23 infoC rfl (by decide) _ _ _ _ rfl HR9.out _ _ _ (eC.enc y') rfl rfl (fun _ => ⟨_, rfl, HN.out⟩) (fun uu hu => eC.one y' uu hu) (by decide) (by omega) HB8.out.size ?_; intro A4 c4 w4 r1 r2 r3)
                        go_roundw
                        case rel =>
                          have h1 := ow_app (e := eC) (x := y') r1
                          exact ⟨j + 1, zs.length + 1, A4, c4, zs ++ [y'], by go_num, by omega, rfl, by omega, hide ⟨HZN.out, by rw [List.length_append]; rfl, all_next HK1.out HZ.out.2.2 HCF.out⟩, hide (by rw [List.length_append] at h1; exact h1), hide (HB8.out.trans (r2.below (fun k hk => (HR9.out.blk k hk).1) HB8.out.size))⟩
                        case measure => simp [RowKit.intOf]; omega
                      · have hin : i < n1 := by rw [← HX0.out.1]; exact (List.getElem?_eq_some_iff.1 hx).1
                        obtain ⟨bc, oc, x', rfl, hlc, hx', hcx⟩ := HX0.out.atC hin
                        obtain rfl : x' = x := by rw [hx] at hx'; injection hx' with hx'; exact hx'.symm
                        have d3 : decide ((i : Int) < 0) = false := decide_eq_false (by omega)
                        have b3 : (0 : Int) ≤ (i : Int) := by omega
                        have b4 : (i : Int) < (n1 : Int) := by omega
                        have KX := hide (fun (w' : World) (h : Below w3.heap.size w3 w') => show w'.cell? ⟨bc, oc + i * 5, none⟩ = some (.int .i64 x'.k) ∧ w'.cell? ⟨bc, oc + i * 5 + 1, none⟩ = some (.int .i64 x'.o) ∧ w'.cell? ⟨bc, oc + i * 5 + 2, none⟩ = some (.int .i64 x'.n) ∧ w'.cell? ⟨bc, oc + i * 5 + 3, none⟩ = some (.bool x'.h) ∧ w'.cell? ⟨bc, oc + i * 5 + 4, none⟩ = some (.bool x'.s) by
                          have ex : ∀ p : Addr, p.block < w3.heap.size → w'.cell? p = w3.cell? p := fun p hp => h.cell hp
                          rw [ex ⟨bc, oc + i * 5, none⟩ hlc, ex ⟨bc, oc + i * 5 + 1, none⟩ hlc, ex ⟨bc, oc + i * 5 + 2, none⟩ hlc, ex ⟨bc, oc + i * 5 + 3, none⟩ hlc, ex ⟨bc, oc + i * 5 + 4, none⟩ hlc]
                          exact hcx)
                        have KS := hide (fun (w' : World) (h : Below w3.heap.size w3 w') => show w'.cell? ⟨bk, ok + j, none⟩ = some (.int .i64 k) ∧ (w'.cell? ⟨bc, oc + i * 5, none⟩ = some (.int .i64 x'.k) ∧ w'.cell? ⟨bc, oc + i * 5 + 1, none⟩ = some (.int .i64 x'.o) ∧ w'.cell? ⟨bc, oc + i * 5 + 2, none⟩ = some (.int .i64 x'.n) ∧ w'.cell? ⟨bc, oc + i * 5 + 3, none⟩ = some (.bool x'.h) ∧ w'.cell? ⟨bc, oc + i * 5 + 4, none⟩ = some (.bool x'.s)) ∧ w'.cell? ⟨bd, od + q * 5, none⟩ = some (.int .i64 y'.k) ∧ w'.cell? ⟨bd, od + q * 5 + 1, none⟩ = some (.int .i64 y'.o) ∧ w'.cell? ⟨bd, od + q * 5 + 2, none⟩ = some (.int .i64 y'.n) ∧ w'.cell? ⟨bd, od + q * 5 + 3, none⟩ = some (.bool y'.h) ∧ w'.cell? ⟨bd, od + q * 5 + 4, none⟩ = some (.bool y'.s) from ⟨HKC.out w' h, KX.out w' h, KY.out w' h⟩)
                        have HCF := hide (cfK_hit hh1 hxk hh2)
                        have HC2 := hide (coO_two hh1 hxk hh2)
                        have bb0 := HBq.out
                        clear hcx hcy hh1 hh2 hx hx' hy hy' hxk hyk
                        by_cases hxy : (⟨x'.n, x'.s⟩ : Sd) = ⟨y'.o, y'.h⟩
                        · have e0 := fun (w : World) => eqR_run ⟨x'.n, x'.s⟩ ⟨y'.o, y'.h⟩ w true (decide_eq_true hxy)
                          have HCF := hide (show cfK c d k = false by rw [HCF.out]; exact decide_eq_false fun h => h hxy)
                          obtain ⟨zN, hzN⟩ : ∃ zN, (K.take (j + 1)).filterMap (coO c d) = zN := ⟨_, rfl⟩
                          have hz0 := HZN.out
                          rw [hzN, HZ.out.1, HC2.out] at hz0
                          have HZL := hide (show zN.length ≤ j + 1 by rw [hz0, List.length_append, HZ.out.2.1]; have := chO1_len k ⟨x'.o, x'.h⟩ ⟨y'.n, y'.s⟩; omega)
                          have HZQ := hide hzN
                          have HZ2 := hide hz0.symm
                          obtain rfl : zs.length = m := HZ.out.2.1
                          clear hxy hz0 hzN
                          go_wp2_with fail
                          go_region_held3 (fun w' => w'.cell? ⟨bk, ok + j, none⟩ = some (.int .i64 k) ∧ (w'.cell? ⟨bc, oc + i * 5, none⟩ = some (.int .i64 x'.k) ∧ w'.cell? ⟨bc, oc + i * 5 + 1, none⟩ = some (.int .i64 x'.o) ∧ w'.cell? ⟨bc, oc + i * 5 + 2, none⟩ = some (.int .i64 x'.n) ∧ w'.cell? ⟨bc, oc + i * 5 + 3, none⟩ = some (.bool x'.h) ∧ w'.cell? ⟨bc, oc + i * 5 + 4, none⟩ = some (.bool x'.s)) ∧ w'.cell? ⟨bd, od + q * 5, none⟩ = some (.int .i64 y'.k) ∧ w'.cell? ⟨bd, od + q * 5 + 1, none⟩ = some (.int .i64 y'.o) ∧ w'.cell? ⟨bd, od + q * 5 + 2, none⟩ = some (.int .i64 y'.n) ∧ w'.cell? ⟨bd, od + q * 5 + 3, none⟩ = some (.bool y'.h) ∧ w'.cell? ⟨bd, od + q * 5 + 4, none⟩ = some (.bool y'.s))
                            (exact KS.out _ (by ((repeat (first | (with_reducible assumption) | (with_reducible exact Below.refl _ _) | (with_reducible refine Below.drewS ?_) | (with_reducible refine Below.allocS ?_ _) | (with_reducible refine belGr ?_ (by assumption)) | (with_reducible refine Below.next ?_ (by assumption)) | (with_reducible refine Below.trans ?_ (by assumption)))); (first | done | fail))))
                            (first
                              | (go_at_call 36; (with_reducible refine (rnew_any x' _).mono ?_); rintro e u3 ⟨rfl, hg3⟩)
                              | (go_at_call 37; (with_reducible refine (rold_any y' _).mono ?_); rintro e u4 ⟨rfl, hg4⟩))
                          all_goals
                            clear e0
                            have bb1 : Below w3.heap.size w3 u4 := (by ((repeat (first | (with_reducible assumption) | (with_reducible exact Below.refl _ _) | (with_reducible refine Below.drewS ?_) | (with_reducible refine Below.allocS ?_ _) | (with_reducible refine belGr ?_ (by assumption)) | (with_reducible refine Below.next ?_ (by assumption)) | (with_reducible refine Below.trans ?_ (by assumption)))); (first | done | fail)))
                            have HO4 := hide (HOq.out.keep (show Below wq.heap.size wq u4 from (by ((repeat (first | (with_reducible assumption) | (with_reducible exact Below.refl _ _) | (with_reducible refine Below.drewS ?_) | (with_reducible refine Below.allocS ?_ _) | (with_reducible refine belGr ?_ (by assumption)) | (with_reducible refine Below.next ?_ (by assumption)) | (with_reducible refine Below.trans ?_ (by assumption)))); (first | done | fail)))))
                            clear hg3 hg4 bb0
                            go_wp2_with fail
                            go_region_held3 (fun w' => w'.cell? ⟨bk, ok + j, none⟩ = some (.int .i64 k) ∧ (w'.cell? ⟨bc, oc + i * 5, none⟩ = some (.int .i64 x'.k) ∧ w'.cell? ⟨bc, oc + i * 5 + 1, none⟩ = some (.int .i64 x'.o) ∧ w'.cell? ⟨bc, oc + i * 5 + 2, none⟩ = some (.int .i64 x'.n) ∧ w'.cell? ⟨bc, oc + i * 5 + 3, none⟩ = some (.bool x'.h) ∧ w'.cell? ⟨bc, oc + i * 5 + 4, none⟩ = some (.bool x'.s)) ∧ w'.cell? ⟨bd, od + q * 5, none⟩ = some (.int .i64 y'.k) ∧ w'.cell? ⟨bd, od + q * 5 + 1, none⟩ = some (.int .i64 y'.o) ∧ w'.cell? ⟨bd, od + q * 5 + 2, none⟩ = some (.int .i64 y'.n) ∧ w'.cell? ⟨bd, od + q * 5 + 3, none⟩ = some (.bool y'.h) ∧ w'.cell? ⟨bd, od + q * 5 + 4, none⟩ = some (.bool y'.s))
                              (exact KS.out _ (by ((repeat (first | (with_reducible assumption) | (with_reducible exact Below.refl _ _) | (with_reducible refine Below.drewS ?_) | (with_reducible refine Below.allocS ?_ _) | (with_reducible refine belGr ?_ (by assumption)) | (with_reducible refine Below.next ?_ (by assumption)) | (with_reducible refine Below.trans ?_ (by assumption)))); (first | done | fail))))
                              (first
                                | (go_at_call 37; (with_reducible refine (rold_any x' _).mono ?_); rintro e u5 ⟨rfl, hg5⟩)
                                | (go_at_call 36; (with_reducible refine (rnew_any y' _).mono ?_); rintro e u6 ⟨rfl, hg6⟩)
                                | (go_at_call 35; (with_reducible refine (change_any w3.heap.size cc A zs zN k ⟨x'.o, x'.h⟩ ⟨y'.n, y'.s⟩ _ (HO4.out.keep (by ((repeat (first | (with_reducible assumption) | (with_reducible exact Below.refl _ _) | (with_reducible refine Below.drewS ?_) | (with_reducible refine Below.allocS ?_ _) | (with_reducible refine belGr ?_ (by assumption)) | (with_reducible refine Below.next ?_ (by assumption)) | (with_reducible refine Below.trans ?_ (by assumption)))); (first | done | fail)))) (Below.size (B := w3.heap.size) (w := w3) (by ((repeat (first | (with_reducible assumption) | (with_reducible exact Below.refl _ _) | (with_reducible refine Below.drewS ?_) | (with_reducible refine Below.allocS ?_ _) | (with_reducible refine belGr ?_ (by assumption)) | (with_reducible refine Below.next ?_ (by assumption)) | (with_reducible refine Below.trans ?_ (by assumption)))); (first | done | fail)))) (by omega) HZ2.out).mono ?_); rintro e u7 ⟨A4, c4, rfl, o4, b7⟩))
                            all_goals
                              have HO7 := hide o4
                              have HB7 := hide (show Below w3.heap.size w3 u7 from Below.trans (by ((repeat (first | (with_reducible assumption) | (with_reducible exact Below.refl _ _) | (with_reducible refine Below.drewS ?_) | (with_reducible refine Below.allocS ?_ _) | (with_reducible refine belGr ?_ (by assumption)) | (with_reducible refine Below.next ?_ (by assumption)) | (with_reducible refine Below.trans ?_ (by assumption)))); (first | done | fail))) b7)
                              clear o4 b7 hg5 hg6 bb1
                              go_wp2_with fail
                              go_roundw
                              case rel => exact ⟨j + 1, zN.length, A4, c4, zN, by go_num, by omega, rfl, HZL.out, hide ⟨HZQ.out, rfl, all_next HK1.out HZ.out.2.2 HCF.out⟩, HO7, HB7⟩
                              case measure => simp [RowKit.intOf]; omega
                        · have e0 := fun (w : World) => eqR_run ⟨x'.n, x'.s⟩ ⟨y'.o, y'.h⟩ w false (decide_eq_false hxy)
                          have HRR := hide (show comR c d = ([], 10) by rw [HR.out, if_pos (cfK_yes HSC.out (k := k) (by rw [HCF.out]; exact decide_eq_true hxy))])
                          clear hxy
                          go_wp2_with fail
                          go_region_held3 (fun w' => w'.cell? ⟨bk, ok + j, none⟩ = some (.int .i64 k) ∧ (w'.cell? ⟨bc, oc + i * 5, none⟩ = some (.int .i64 x'.k) ∧ w'.cell? ⟨bc, oc + i * 5 + 1, none⟩ = some (.int .i64 x'.o) ∧ w'.cell? ⟨bc, oc + i * 5 + 2, none⟩ = some (.int .i64 x'.n) ∧ w'.cell? ⟨bc, oc + i * 5 + 3, none⟩ = some (.bool x'.h) ∧ w'.cell? ⟨bc, oc + i * 5 + 4, none⟩ = some (.bool x'.s)) ∧ w'.cell? ⟨bd, od + q * 5, none⟩ = some (.int .i64 y'.k) ∧ w'.cell? ⟨bd, od + q * 5 + 1, none⟩ = some (.int .i64 y'.o) ∧ w'.cell? ⟨bd, od + q * 5 + 2, none⟩ = some (.int .i64 y'.n) ∧ w'.cell? ⟨bd, od + q * 5 + 3, none⟩ = some (.bool y'.h) ∧ w'.cell? ⟨bd, od + q * 5 + 4, none⟩ = some (.bool y'.s))
                            (exact KS.out _ (by ((repeat (first | (with_reducible assumption) | (with_reducible exact Below.refl _ _) | (with_reducible refine Below.drewS ?_) | (with_reducible refine Below.allocS ?_ _) | (with_reducible refine belGr ?_ (by assumption)) | (with_reducible refine Below.next ?_ (by assumption)) | (with_reducible refine Below.trans ?_ (by assumption)))); (first | done | fail))))
                            (first
                              | (go_at_call 36; (with_reducible refine (rnew_any x' _).mono ?_); rintro e u3 ⟨rfl, hg3⟩)
                              | (go_at_call 37; (with_reducible refine (rold_any y' _).mono ?_); rintro e u4 ⟨rfl, hg4⟩))
                          all_goals
                            have HB5 := hide (show Below w3.heap.size w3 u4 from (by ((repeat (first | (with_reducible assumption) | (with_reducible exact Below.refl _ _) | (with_reducible refine Below.drewS ?_) | (with_reducible refine Below.allocS ?_ _) | (with_reducible refine belGr ?_ (by assumption)) | (with_reducible refine Below.next ?_ (by assumption)) | (with_reducible refine Below.trans ?_ (by assumption)))); (first | done | fail))))
                            clear e0 hg3 hg4 bb0
                            go_wp2_with fail
                            go_ret2
                            exact Giv.none 10 HRR.out rfl (Below.next B3.out HB5.out)
                · skip
                  obtain rfl : NK = j := by omega
                  have d1 : decide ((NK : Int) < (NK : Int)) = false := decide_eq_false (by omega)
                  have hall : K.take NK = K := List.take_of_length_le (by rw [HNK.out]; exact Nat.le_refl _)
                  have HZ0 := HZ.out
                  rw [hall] at HZ0
                  have hd : comR c d = full (coL c d) := by rw [HR.out, cfK_no HSC.out (by rw [HKD.out]; exact HZ0.2.2)]; rfl
                  have hz : coL c d = zs := by rw [← HZ0.1]; unfold coL; rw [HKD.out]
                  rw [hz] at hd
                  have hzl := HZ0.2.1
                  clear HZ0 hall
                  by_cases h64 : m ≤ 64
                  · have d2 : decide ((64 : Int) < (m : Int)) = false := decide_eq_false (by omega)
                    have HRR := hide (show comR c d = (zs, 0) by rw [hd]; exact full_ok (by rw [hzl]; exact h64))
                    have HOZ := hide (HO.out.low B3.out.size)
                    subst hzl
                    clear hz hd
                    go_wp2_with fail
                    go_ret2
                    unfold Giv
                    rw [HRR.out]
                    exact ⟨A, cc, rfl, HOZ.out, Below.next B3.out HB.out⟩
                  · have d2 : decide ((64 : Int) < (m : Int)) = true := decide_eq_true (by omega)
                    have HRR := hide (show comR c d = ([], 6) by rw [hd]; exact full_no (by rw [hzl]; exact h64))
                    clear hz hd hzl
                    go_wp2_with fail
                    go_ret2
                    exact Giv.none 6 HRR.out rfl (Below.next B3.out HB.out)
end Go.Proofs.Ytadmiecoahohiaa
