/- Compose, of the program. -/
import Derived.Test.YtadmiecoahohiaaUQ
import Derived.Test.YtadmiecoahohiaaUP
namespace Go.Proofs.Ytadmiecoahohiaa
open Go Go.RowKit Go.Lib
theorem tuAl {F : Nat → Prop} {w W : World} (h : Turn F w W) (o : Obj) : Turn F w (W.alloc o) := h.alloc_ o
theorem comR_no {c d : List Chg} (h : vC c = false ∨ vC d = false) : comR c d = ([], 1) := by
  unfold comR
  rcases h with h | h
  · rw [h]; rfl
  · rw [h, Bool.and_false]; rfl
theorem comR_ok {c d : List Chg} (hc : vC c = true) (hd : vC d = true) : comR c d = if cfC c d = true then ([], 10) else full (coL c d) := by unfold comR; rw [hc, hd]; rfl
theorem cfC_yes {c d : List Chg} {j : Nat} {x : Chg} (hx : c[j]? = some x) (h : cfC1 d x = true) : cfC c d = true := by
  unfold cfC
  rw [List.any_eq_true]
  exact ⟨x, List.mem_of_getElem? hx, h⟩
theorem cfC_no {c d : List Chg} (h : ∀ x ∈ c, cfC1 d x = false) : cfC c d = false := by
  unfold cfC
  rw [List.any_eq_false]
  intro x hx h2
  rw [h x hx] at h2
  cases h2
theorem cfC1_hit {d : List Chg} {x y : Chg} (h : hitC d x.k = some y) : cfC1 d x = decide (x.new ≠ y.old) := by unfold cfC1; rw [h]
theorem cfC1_none {d : List Chg} {x : Chg} (h : hitC d x.k = none) : cfC1 d x = false := by unfold cfC1; rw [h]
theorem co1_hit {d : List Chg} {x y : Chg} (h : hitC d x.k = some y) : co1 d x = co2 x y := by unfold co1; rw [h]
theorem co1_none {d : List Chg} {x : Chg} (h : hitC d x.k = none) : co1 d x = some x := by unfold co1; rw [h]

set_option maxHeartbeats 32000000 in
set_option maxRecDepth 100000 in
theorem compose_any (A1 : Option Addr) (n1 c1 : Nat) (c : List Chg) (A2 : Option Addr) (n2 c2 : Nat) (d : List Chg) (w : World) (hc : SL eC w A1 n1 c) (hd : SL eC w A2 n2 d) (h1 : n1 ≤ 200) (h2 : n2 ≤ 200) :
    Calls Try.prog 26 #[.slice A1 n1 c1, .slice A2 n2 c2] w (Giv eC w (comR c d)) := by
  have HX0 := hide hc
  have HX1 := hide hd
  clear hc hd
  cases hv0 : vC c with
  | false =>
    have HR := hide (comR_no (d := d) (.inl hv0))
    have HV0 := hide hv0
    clear hv0
    go_enter Try.func26, Try.ntmps26
    go_wp2_with fail
    refine (validC_any A1 n1 c1 c w HX0.out (by omega) false HV0.out).mono ?_
    rintro e w1 ⟨rfl, g1⟩
    have G1 := hide (g1)
    clear g1
    go_wp2_with fail
    go_ret2
    exact Giv.none 1 HR.out rfl G1.out.below
  | true =>
    cases hv1 : vC d with
    | false =>
      have HR := hide (comR_no (c := c) (.inr hv1))
      have HV0 := hide hv0
      have HV1 := hide hv1
      clear hv0 hv1
      go_enter Try.func26, Try.ntmps26
      go_wp2_with fail
      refine (validC_any A1 n1 c1 c w HX0.out (by omega) true HV0.out).mono ?_
      rintro e w1 ⟨rfl, g1⟩
      have G1 := hide (g1)
      clear g1
      go_wp2_with fail
      refine (validC_any A2 n2 c2 d w1 (HX1.out.keep G1.out.below) (by omega) false HV1.out).mono ?_
      rintro e w2 ⟨rfl, g2⟩
      have G2 := hide ((G1.out.trans g2))
      clear g2
      go_wp2_with fail
      go_ret2
      exact Giv.none 1 HR.out rfl G2.out.below
    | true =>
      have HR := hide (comR_ok hv0 hv1)
      have HV0 := hide hv0
      have HV1 := hide hv1
      clear hv0 hv1
      go_enter Try.func26, Try.ntmps26
      go_wp2_with fail
      refine (validC_any A1 n1 c1 c w HX0.out (by omega) true HV0.out).mono ?_
      rintro e w1 ⟨rfl, g1⟩
      have G1 := hide (g1)
      clear g1
      go_wp2_with fail
      refine (validC_any A2 n2 c2 d w1 (HX1.out.keep G1.out.below) (by omega) true HV1.out).mono ?_
      rintro e w2 ⟨rfl, g2⟩
      have G2 := hide ((G1.out.trans g2))
      clear g2
      go_wp2_with fail
      have HX0 := hide (HX0.out.keep G2.out.below)
      have HX1 := hide (HX1.out.keep G2.out.below)
      have hcv := vC_iff.1 HV0.out
      have hdv := vC_iff.1 HV1.out
      have HSC := hide hcv.2.1
      have HSD := hide hdv.2.1
      have hn1 : n1 ≤ 64 := by rw [← HX0.out.1]; exact hcv.1
      have hn2 : n2 ≤ 64 := by rw [← HX1.out.1]; exact hdv.1
      have B2 := hide G2.out.below
      have mixed : Try.prog.follows Departure.mixedOrders = true := by kernel_rfl
      clear hcv hdv
      go_loopw [6, 25] (fun s i wr => ∃ (j m : Nat) (A : Option Addr) (cc : Nat) (zs : List Chg), i = .int .i64 (j : Int) ∧ j ≤ n1 ∧ s = .slice A m cc ∧ m ≤ j ∧ Hid ((c.take j).filterMap (co1 d) = zs ∧ zs.length = m ∧ ∀ x ∈ c.take j, cfC1 d x = false) ∧ Hid (Ow eC wr w2.heap.size A m cc zs) ∧ Hid (Below w2.heap.size w2 wr)) (fun _ i _ => n1 - (RowKit.intOf i).toNat)
      case atStart => exact ⟨0, 0, none, 0, [], rfl, Nat.zero_le _, rfl, Nat.le_refl _, hide ⟨rfl, rfl, fun x hx => by cases hx⟩, hide (Ow.nil_ _ _), hide (Below.refl _ _)⟩
      case round =>
        obtain ⟨j, m, A, cc, zs, rfl, hj, rfl, hmj, HZ, HO, HB⟩ := hrel
        by_cases hlt : j < n1
        · obtain ⟨bk, ok, x, rfl, hl, hk, m0, m1, m2, m3, m4⟩ := (HX0.out.keep HB.out).atC hlt
          have HK := hide hk
          have d0 : decide ((j : Int) < (n1 : Int)) = true := decide_eq_true (by omega)
          have a1 : (0 : Int) ≤ (j : Int) := by omega
          have a2 : (j : Int) < (n1 : Int) := by omega
          have HZN := hide (fm_next (f := co1 d) hk)
          have HBX := hide (Box.new wr #[.int .i64 x.k, .int .i64 x.o, .int .i64 x.n, .bool x.h, .bool x.s] 46)
          have HB1 := hide (Below.allocS HB.out (.cells #[.int .i64 x.k, .int .i64 x.o, .int .i64 x.n, .bool x.h, .bool x.s] 46))
          have HO1 := hide (HO.out.keep ((Below.refl _ _).alloc (Nat.le_refl _) (.cells #[.int .i64 x.k, .int .i64 x.o, .int .i64 x.n, .bool x.h, .bool x.s] 46)))
          have HFD := hide (fnd_hit (k := x.k) HSD.out)
          have HAG := hide (fun (h : Blk A wr.heap.size) => Nat.lt_irrefl _ (HO.out.blk _ h).2)
          have hwl := HB.out.size
          clear hk
          go_wp2_with fail
          refine (placeC_any A2 n2 c2 d x.k _ (HX1.out.keep HB1.out) HSD.out (by omega)).mono ?_
          rintro e w9 ⟨rfl, g9⟩
          have HB9 := hide (Below.next HB1.out g9.below)
          have HO9 := hide (HO1.out.keep g9.below)
          have HG9 := hide g9
          have hbx := HBX.out.below' g9.below
          have p0 := hbx.at_ 0
          have p1 := hbx.at_ 1
          have p2 := hbx.at_ 2
          have p3 := hbx.at_ 3
          have p4 := hbx.at_ 4
          clear g9 m0 m1 m2 m3 m4 hbx
          simp only [List.getElem?_toArray, List.getElem?_cons_zero, List.getElem?_cons_succ] at p0 p1 p2 p3 p4
          cases hfd : fnd Chg.k x.k d with
          | false =>
            have h3 : hitC d x.k = none := fnd_no HSD.out hfd
            have HZN := hide (show (c.take (j + 1)).filterMap (co1 d) = zs ++ [x] by rw [HZN.out, HZ.out.1, co1_none h3]; rfl)
            have HCF := hide (cfC1_none h3)
            obtain rfl : zs.length = m := HZ.out.2.1
            have HR9 := hide (show Ow eC (w9.alloc (.cells #[.int .i64 x.k, .int .i64 x.o, .int .i64 x.n, .bool x.h, .bool x.s] 46)) w2.heap.size A zs.length cc zs from HO9.out.keep ((Below.refl _ _).alloc (Nat.le_refl _) _))
            have HN := hide (litC (x := x) (newE w9 #[.int .i64 x.k, .int .i64 x.o, .int .i64 x.n, .bool x.h, .bool x.s] 46 rfl))
            have HB8 := hide (Below.allocS HB9.out (.cells #[.int .i64 x.k, .int .i64 x.o, .int .i64 x.n, .bool x.h, .bool x.s] 46))
            clear hfd h3
            go_wp2_with (at_builtin; refine wpList_app_ow _ rfl _ _ 23 rfl w2.heap.size 46 _ 5 32 Try.underlying23 infoC rfl (by decide) _ _ _ _ rfl HR9.out _ _ _ (eC.enc x) rfl rfl (fun _ => ⟨_, rfl, HN.out⟩) (fun uu hu => eC.one x uu hu) (by decide) (by omega) HB8.out.size ?_; intro A4 c4 w4 r1 r2 r3)
            go_roundw
            case rel =>
              have h1 := ow_app (e := eC) (x := x) r1
              exact ⟨j + 1, zs.length + 1, A4, c4, zs ++ [x], by go_num, by omega, rfl, by omega, hide ⟨HZN.out, by rw [List.length_append]; rfl, all_next HK.out HZ.out.2.2 HCF.out⟩, hide (by rw [List.length_append] at h1; exact h1), hide (HB8.out.trans (r2.below (fun k hk => (HR9.out.blk k hk).1) HB8.out.size))⟩
            case measure => simp [RowKit.intOf]; omega
          | true =>
            obtain ⟨y, hy, hyk, hyh⟩ := fnd_yes HSD.out hfd
            have hlt2 : cnt Chg.k x.k d < n2 := by rw [← HX1.out.1]; exact (List.getElem?_eq_some_iff.1 hy).1
            have HH := hide (show hitC d x.k = some y from hyh)
            have HY := hide hy
            have HYK := hide hyk
            clear hfd hyh hyk hy
            generalize cnt Chg.k x.k d = i at *
            obtain ⟨bd, od, y', rfl, hly, hy', hcy⟩ := HX1.out.atC hlt2
            obtain rfl : y' = y := by rw [HY.out] at hy'; injection hy' with hy'; exact hy'.symm
            have b1 : (0 : Int) ≤ (i : Int) := by omega
            have b2_ : (i : Int) < (n2 : Int) := by omega
            have KS := hide (fun (w' : World) (h : Turn (Blk A) (wr.alloc (.cells #[.int .i64 x.k, .int .i64 x.o, .int .i64 x.n, .bool x.h, .bool x.s] 46)) w') => show (w'.cell? ⟨wr.heap.size, 0, none⟩ = some (.int .i64 x.k) ∧ w'.cell? ⟨wr.heap.size, 1, none⟩ = some (.int .i64 x.o) ∧ w'.cell? ⟨wr.heap.size, 2, none⟩ = some (.int .i64 x.n) ∧ w'.cell? ⟨wr.heap.size, 3, none⟩ = some (.bool x.h) ∧ w'.cell? ⟨wr.heap.size, 4, none⟩ = some (.bool x.s)) ∧ w'.cell? ⟨bd, od + i * 5, none⟩ = some (.int .i64 y'.k) ∧ w'.cell? ⟨bd, od + i * 5 + 1, none⟩ = some (.int .i64 y'.o) ∧ w'.cell? ⟨bd, od + i * 5 + 2, none⟩ = some (.int .i64 y'.n) ∧ w'.cell? ⟨bd, od + i * 5 + 3, none⟩ = some (.bool y'.h) ∧ w'.cell? ⟨bd, od + i * 5 + 4, none⟩ = some (.bool y'.s) by
              have hbq := h.box HBX.out HAG.out
              have ey : ∀ q : Addr, q.block < w2.heap.size → w'.cell? q = w2.cell? q := fun q hq =>
                (World.cell?_of_block (a := q) (h.block q.block (Nat.lt_of_lt_of_le hq HB1.out.size) (fun hk => by have := (HO.out.blk _ hk).1; omega))).trans (HB1.out.cell (p := q) hq)
              rw [ey ⟨bd, od + i * 5, none⟩ hly, ey ⟨bd, od + i * 5 + 1, none⟩ hly, ey ⟨bd, od + i * 5 + 2, none⟩ hly, ey ⟨bd, od + i * 5 + 3, none⟩ hly, ey ⟨bd, od + i * 5 + 4, none⟩ hly]
              exact ⟨⟨hbq.at_ 0, hbq.at_ 1, hbq.at_ 2, hbq.at_ 3, hbq.at_ 4⟩, hcy⟩)
            have tt0 : Turn (Blk A) (wr.alloc (.cells #[.int .i64 x.k, .int .i64 x.o, .int .i64 x.n, .bool x.h, .bool x.s] 46)) w9 := tuGr (Turn.refl _ _) HG9.out
            have bb0 := HB9.out
            have ob0 : Below (wr.alloc (.cells #[.int .i64 x.k, .int .i64 x.o, .int .i64 x.n, .bool x.h, .bool x.s] 46)).heap.size (wr.alloc (.cells #[.int .i64 x.k, .int .i64 x.o, .int .i64 x.n, .bool x.h, .bool x.s] 46)) w9 := HG9.out.below
            clear hcy hy'
            by_cases hxy : (⟨x.n, x.s⟩ : Sd) = ⟨y'.o, y'.h⟩
            · have e0 := fun (w : World) => eqP_run ⟨x.n, x.s⟩ ⟨y'.o, y'.h⟩ w true (decide_eq_true hxy)
              have HCF := hide (show cfC1 d x = false by rw [cfC1_hit HH.out]; exact decide_eq_false fun h => h hxy)
              clear hxy
              go_wp2_with fail
              go_region_held3 (fun w' => (w'.cell? ⟨wr.heap.size, 0, none⟩ = some (.int .i64 x.k) ∧ w'.cell? ⟨wr.heap.size, 1, none⟩ = some (.int .i64 x.o) ∧ w'.cell? ⟨wr.heap.size, 2, none⟩ = some (.int .i64 x.n) ∧ w'.cell? ⟨wr.heap.size, 3, none⟩ = some (.bool x.h) ∧ w'.cell? ⟨wr.heap.size, 4, none⟩ = some (.bool x.s)) ∧ w'.cell? ⟨bd, od + i * 5, none⟩ = some (.int .i64 y'.k) ∧ w'.cell? ⟨bd, od + i * 5 + 1, none⟩ = some (.int .i64 y'.o) ∧ w'.cell? ⟨bd, od + i * 5 + 2, none⟩ = some (.int .i64 y'.n) ∧ w'.cell? ⟨bd, od + i * 5 + 3, none⟩ = some (.bool y'.h) ∧ w'.cell? ⟨bd, od + i * 5 + 4, none⟩ = some (.bool y'.s))
                (exact KS.out _ (by ((repeat (first | (with_reducible assumption) | (with_reducible exact Turn.refl _ _) | (with_reducible refine tuDr ?_) | (with_reducible refine tuAl ?_ _) | (with_reducible refine tuGr ?_ (by assumption)) | (with_reducible refine Turn.trans ?_ (by assumption)))); (first | done | fail))))
                (first
                  | (go_at_call_of 33 (Value.agg #[.int .i64 x.k, .int .i64 x.o, .int .i64 x.n, .bool x.h, .bool x.s]); (with_reducible refine (after_any x _).mono ?_); rintro e u1 ⟨rfl, hga11⟩)
                  | (go_at_call_of 33 (Value.agg #[.int .i64 y'.k, .int .i64 y'.o, .int .i64 y'.n, .bool y'.h, .bool y'.s]); (with_reducible refine (after_any y' _).mono ?_); rintro e u2 ⟨rfl, hga12⟩)
                  | (go_at_call_of 34 (Value.agg #[.int .i64 x.k, .int .i64 x.o, .int .i64 x.n, .bool x.h, .bool x.s]); (with_reducible refine (before_any x _).mono ?_); rintro e u1 ⟨rfl, hga13⟩)
                  | (go_at_call_of 34 (Value.agg #[.int .i64 y'.k, .int .i64 y'.o, .int .i64 y'.n, .bool y'.h, .bool y'.s]); (with_reducible refine (before_any y' _).mono ?_); rintro e u2 ⟨rfl, hga14⟩))
              all_goals
                clear e0
                have tt1 : Turn (Blk A) (wr.alloc (.cells #[.int .i64 x.k, .int .i64 x.o, .int .i64 x.n, .bool x.h, .bool x.s] 46)) u2 := (by ((repeat (first | (with_reducible assumption) | (with_reducible exact Turn.refl _ _) | (with_reducible refine tuDr ?_) | (with_reducible refine tuAl ?_ _) | (with_reducible refine tuGr ?_ (by assumption)) | (with_reducible refine Turn.trans ?_ (by assumption)))); (first | done | fail)))
                have bb1 : Below w2.heap.size w2 u2 := (by ((repeat (first | (with_reducible assumption) | (with_reducible exact Below.refl _ _) | (with_reducible refine Below.drewS ?_) | (with_reducible refine Below.allocS ?_ _) | (with_reducible refine belGr ?_ (by assumption)) | (with_reducible refine Below.next ?_ (by assumption)) | (with_reducible refine Below.trans ?_ (by assumption)))); (first | done | fail)))
                have ob1 : Below (wr.alloc (.cells #[.int .i64 x.k, .int .i64 x.o, .int .i64 x.n, .bool x.h, .bool x.s] 46)).heap.size (wr.alloc (.cells #[.int .i64 x.k, .int .i64 x.o, .int .i64 x.n, .bool x.h, .bool x.s] 46)) u2 := (by ((repeat (first | (with_reducible assumption) | (with_reducible exact Below.refl _ _) | (with_reducible refine Below.drewS ?_) | (with_reducible refine Below.allocS ?_ _) | (with_reducible refine belGr ?_ (by assumption)) | (with_reducible refine Below.next ?_ (by assumption)) | (with_reducible refine Below.trans ?_ (by assumption)))); (first | done | fail)))
                clear tt0 bb0 ob0 p0 p1 p2 p3 p4
                by_cases hxo : (⟨x.o, x.h⟩ : Sd) = ⟨y'.n, y'.s⟩
                · have e0 := fun (w : World) => eqP_run ⟨x.o, x.h⟩ ⟨y'.n, y'.s⟩ w true (decide_eq_true hxo)
                  have HZN := hide (show (c.take (j + 1)).filterMap (co1 d) = zs by rw [HZN.out, HZ.out.1, co1_hit HH.out]; unfold co2; rw [if_pos (show x.old = y'.new from hxo)]; exact List.append_nil _)
                  clear hxo
                  go_wp2_with fail
                  go_region_held3 (fun w' => (w'.cell? ⟨wr.heap.size, 0, none⟩ = some (.int .i64 x.k) ∧ w'.cell? ⟨wr.heap.size, 1, none⟩ = some (.int .i64 x.o) ∧ w'.cell? ⟨wr.heap.size, 2, none⟩ = some (.int .i64 x.n) ∧ w'.cell? ⟨wr.heap.size, 3, none⟩ = some (.bool x.h) ∧ w'.cell? ⟨wr.heap.size, 4, none⟩ = some (.bool x.s)) ∧ w'.cell? ⟨bd, od + i * 5, none⟩ = some (.int .i64 y'.k) ∧ w'.cell? ⟨bd, od + i * 5 + 1, none⟩ = some (.int .i64 y'.o) ∧ w'.cell? ⟨bd, od + i * 5 + 2, none⟩ = some (.int .i64 y'.n) ∧ w'.cell? ⟨bd, od + i * 5 + 3, none⟩ = some (.bool y'.h) ∧ w'.cell? ⟨bd, od + i * 5 + 4, none⟩ = some (.bool y'.s))
                    (exact KS.out _ (by ((repeat (first | (with_reducible assumption) | (with_reducible exact Turn.refl _ _) | (with_reducible refine tuDr ?_) | (with_reducible refine tuAl ?_ _) | (with_reducible refine tuGr ?_ (by assumption)) | (with_reducible refine Turn.trans ?_ (by assumption)))); (first | done | fail))))
                    (first
                      | (go_at_call_of 33 (Value.agg #[.int .i64 x.k, .int .i64 x.o, .int .i64 x.n, .bool x.h, .bool x.s]); (with_reducible refine (after_any x _).mono ?_); rintro e u3 ⟨rfl, hgb21⟩)
                      | (go_at_call_of 33 (Value.agg #[.int .i64 y'.k, .int .i64 y'.o, .int .i64 y'.n, .bool y'.h, .bool y'.s]); (with_reducible refine (after_any y' _).mono ?_); rintro e u4 ⟨rfl, hgb22⟩)
                      | (go_at_call_of 34 (Value.agg #[.int .i64 x.k, .int .i64 x.o, .int .i64 x.n, .bool x.h, .bool x.s]); (with_reducible refine (before_any x _).mono ?_); rintro e u3 ⟨rfl, hgb23⟩)
                      | (go_at_call_of 34 (Value.agg #[.int .i64 y'.k, .int .i64 y'.o, .int .i64 y'.n, .bool y'.h, .bool y'.s]); (with_reducible refine (before_any y' _).mono ?_); rintro e u4 ⟨rfl, hgb24⟩))
                  all_goals
                    have HO5 := hide (HO1.out.keep (show Below (wr.alloc (.cells #[.int .i64 x.k, .int .i64 x.o, .int .i64 x.n, .bool x.h, .bool x.s] 46)).heap.size (wr.alloc (.cells #[.int .i64 x.k, .int .i64 x.o, .int .i64 x.n, .bool x.h, .bool x.s] 46)) u4 from (by ((repeat (first | (with_reducible assumption) | (with_reducible exact Below.refl _ _) | (with_reducible refine Below.drewS ?_) | (with_reducible refine Below.allocS ?_ _) | (with_reducible refine belGr ?_ (by assumption)) | (with_reducible refine Below.next ?_ (by assumption)) | (with_reducible refine Below.trans ?_ (by assumption)))); (first | done | fail)))))
                    have HB5 := hide (show Below w2.heap.size w2 u4 from (by ((repeat (first | (with_reducible assumption) | (with_reducible exact Below.refl _ _) | (with_reducible refine Below.drewS ?_) | (with_reducible refine Below.allocS ?_ _) | (with_reducible refine belGr ?_ (by assumption)) | (with_reducible refine Below.next ?_ (by assumption)) | (with_reducible refine Below.trans ?_ (by assumption)))); (first | done | fail))))
                    clear e0 tt1 bb1 ob1
                    go_wp2_with fail
                    go_roundw
                    case rel => exact ⟨j + 1, m, A, cc, zs, by go_num, by omega, rfl, by omega, hide ⟨HZN.out, HZ.out.2.1, all_next HK.out HZ.out.2.2 HCF.out⟩, HO5, HB5⟩
                    case measure => simp [RowKit.intOf]; omega
                · have e0 := fun (w : World) => eqP_run ⟨x.o, x.h⟩ ⟨y'.n, y'.s⟩ w false (decide_eq_false hxo)
                  have HZN := hide (show (c.take (j + 1)).filterMap (co1 d) = zs ++ [chg x.k x.old y'.new] by rw [HZN.out, HZ.out.1, co1_hit HH.out]; unfold co2; rw [if_neg (show ¬ x.old = y'.new from hxo)]; rfl)
                  obtain rfl : zs.length = m := HZ.out.2.1
                  clear hxo
                  go_wp2_with fail
                  go_region_held3 (fun w' => (w'.cell? ⟨wr.heap.size, 0, none⟩ = some (.int .i64 x.k) ∧ w'.cell? ⟨wr.heap.size, 1, none⟩ = some (.int .i64 x.o) ∧ w'.cell? ⟨wr.heap.size, 2, none⟩ = some (.int .i64 x.n) ∧ w'.cell? ⟨wr.heap.size, 3, none⟩ = some (.bool x.h) ∧ w'.cell? ⟨wr.heap.size, 4, none⟩ = some (.bool x.s)) ∧ w'.cell? ⟨bd, od + i * 5, none⟩ = some (.int .i64 y'.k) ∧ w'.cell? ⟨bd, od + i * 5 + 1, none⟩ = some (.int .i64 y'.o) ∧ w'.cell? ⟨bd, od + i * 5 + 2, none⟩ = some (.int .i64 y'.n) ∧ w'.cell? ⟨bd, od + i * 5 + 3, none⟩ = some (.bool y'.h) ∧ w'.cell? ⟨bd, od + i * 5 + 4, none⟩ = some (.bool y'.s))
                    (exact KS.out _ (by ((repeat (first | (with_reducible assumption) | (with_reducible exact Turn.refl _ _) | (with_reducible refine tuDr ?_) | (with_reducible refine tuAl ?_ _) | (with_reducible refine tuGr ?_ (by assumption)) | (with_reducible refine Turn.trans ?_ (by assumption)))); (first | done | fail))))
                    (first
                      | (go_at_call_of 33 (Value.agg #[.int .i64 x.k, .int .i64 x.o, .int .i64 x.n, .bool x.h, .bool x.s]); (with_reducible refine (after_any x _).mono ?_); rintro e u3 ⟨rfl, hgb31⟩)
                      | (go_at_call_of 33 (Value.agg #[.int .i64 y'.k, .int .i64 y'.o, .int .i64 y'.n, .bool y'.h, .bool y'.s]); (with_reducible refine (after_any y' _).mono ?_); rintro e u4 ⟨rfl, hgb32⟩)
                      | (go_at_call_of 34 (Value.agg #[.int .i64 x.k, .int .i64 x.o, .int .i64 x.n, .bool x.h, .bool x.s]); (with_reducible refine (before_any x _).mono ?_); rintro e u3 ⟨rfl, hgb33⟩)
                      | (go_at_call_of 34 (Value.agg #[.int .i64 y'.k, .int .i64 y'.o, .int .i64 y'.n, .bool y'.h, .bool y'.s]); (with_reducible refine (before_any y' _).mono ?_); rintro e u4 ⟨rfl, hgb34⟩))
                  all_goals
                    have tt2 : Turn (Blk A) (wr.alloc (.cells #[.int .i64 x.k, .int .i64 x.o, .int .i64 x.n, .bool x.h, .bool x.s] 46)) u4 := (by ((repeat (first | (with_reducible assumption) | (with_reducible exact Turn.refl _ _) | (with_reducible refine tuDr ?_) | (with_reducible refine tuAl ?_ _) | (with_reducible refine tuGr ?_ (by assumption)) | (with_reducible refine Turn.trans ?_ (by assumption)))); (first | done | fail)))
                    have bb2 : Below w2.heap.size w2 u4 := (by ((repeat (first | (with_reducible assumption) | (with_reducible exact Below.refl _ _) | (with_reducible refine Below.drewS ?_) | (with_reducible refine Below.allocS ?_ _) | (with_reducible refine belGr ?_ (by assumption)) | (with_reducible refine Below.next ?_ (by assumption)) | (with_reducible refine Below.trans ?_ (by assumption)))); (first | done | fail)))
                    have ob2 : Below (wr.alloc (.cells #[.int .i64 x.k, .int .i64 x.o, .int .i64 x.n, .bool x.h, .bool x.s] 46)).heap.size (wr.alloc (.cells #[.int .i64 x.k, .int .i64 x.o, .int .i64 x.n, .bool x.h, .bool x.s] 46)) u4 := (by ((repeat (first | (with_reducible assumption) | (with_reducible exact Below.refl _ _) | (with_reducible refine Below.drewS ?_) | (with_reducible refine Below.allocS ?_ _) | (with_reducible refine belGr ?_ (by assumption)) | (with_reducible refine Below.next ?_ (by assumption)) | (with_reducible refine Below.trans ?_ (by assumption)))); (first | done | fail)))
                    clear e0 tt1 bb1 ob1
                    go_wp2_with fail
                    go_region_held3 (fun w' => (w'.cell? ⟨wr.heap.size, 0, none⟩ = some (.int .i64 x.k) ∧ w'.cell? ⟨wr.heap.size, 1, none⟩ = some (.int .i64 x.o) ∧ w'.cell? ⟨wr.heap.size, 2, none⟩ = some (.int .i64 x.n) ∧ w'.cell? ⟨wr.heap.size, 3, none⟩ = some (.bool x.h) ∧ w'.cell? ⟨wr.heap.size, 4, none⟩ = some (.bool x.s)) ∧ w'.cell? ⟨bd, od + i * 5, none⟩ = some (.int .i64 y'.k) ∧ w'.cell? ⟨bd, od + i * 5 + 1, none⟩ = some (.int .i64 y'.o) ∧ w'.cell? ⟨bd, od + i * 5 + 2, none⟩ = some (.int .i64 y'.n) ∧ w'.cell? ⟨bd, od + i * 5 + 3, none⟩ = some (.bool y'.h) ∧ w'.cell? ⟨bd, od + i * 5 + 4, none⟩ = some (.bool y'.s))
                      (exact KS.out _ (by ((repeat (first | (with_reducible assumption) | (with_reducible exact Turn.refl _ _) | (with_reducible refine tuDr ?_) | (with_reducible refine tuAl ?_ _) | (with_reducible refine tuGr ?_ (by assumption)) | (with_reducible refine Turn.trans ?_ (by assumption)))); (first | done | fail))))
                      (first
                        | (go_at_call_of 33 (Value.agg #[.int .i64 x.k, .int .i64 x.o, .int .i64 x.n, .bool x.h, .bool x.s]); (with_reducible refine (after_any x _).mono ?_); rintro e u6 ⟨rfl, hgb41⟩)
                        | (go_at_call_of 33 (Value.agg #[.int .i64 y'.k, .int .i64 y'.o, .int .i64 y'.n, .bool y'.h, .bool y'.s]); (with_reducible refine (after_any y' _).mono ?_); rintro e u7 ⟨rfl, hgb42⟩)
                        | (go_at_call_of 34 (Value.agg #[.int .i64 x.k, .int .i64 x.o, .int .i64 x.n, .bool x.h, .bool x.s]); (with_reducible refine (before_any x _).mono ?_); rintro e u6 ⟨rfl, hgb43⟩)
                        | (go_at_call_of 34 (Value.agg #[.int .i64 y'.k, .int .i64 y'.o, .int .i64 y'.n, .bool y'.h, .bool y'.s]); (with_reducible refine (before_any y' _).mono ?_); rintro e u7 ⟨rfl, hgb44⟩)
                        | (go_at_call 32; (with_reducible refine (chgOf_any x.k ⟨x.o, x.h⟩ ⟨y'.n, y'.s⟩ _).mono ?_); rintro e u5 ⟨rfl, hg5⟩)
                        | (refine step_app_ow rfl _ _ 23 rfl w2.heap.size 46 _ 5 32 Try.underlying23 infoC rfl (by decide) A zs.length cc (flatE eC zs) (by first | (simp [Act.eval]; done) | fail) ((HO1.out.keep (show Below (wr.alloc (.cells #[.int .i64 x.k, .int .i64 x.o, .int .i64 x.n, .bool x.h, .bool x.s] 46)).heap.size (wr.alloc (.cells #[.int .i64 x.k, .int .i64 x.o, .int .i64 x.n, .bool x.h, .bool x.s] 46)) _ from (by ((repeat (first | (with_reducible assumption) | (with_reducible exact Below.refl _ _) | (with_reducible refine Below.drewS ?_) | (with_reducible refine Below.allocS ?_ _) | (with_reducible refine belGr ?_ (by assumption)) | (with_reducible refine Below.next ?_ (by assumption)) | (with_reducible refine Below.trans ?_ (by assumption)))); (first | done | fail)))))) (some ⟨u5.heap.size, 0, none⟩) 1 1 (eC.enc (chg x.k x.old y'.new)) (by first | (simp [Act.eval]; done) | fail) rfl (fun _ => ⟨_, rfl, litC (x := chg x.k x.old y'.new) (newE u5 #[.int .i64 x.k, .int .i64 x.o, .int .i64 y'.n, .bool x.h, .bool y'.s] 46 rfl)⟩) (fun uu hu => eC.one (chg x.k x.old y'.new) uu hu) (by decide) (by omega) (Below.size (B := w2.heap.size) (w := w2) (by ((repeat (first | (with_reducible assumption) | (with_reducible exact Below.refl _ _) | (with_reducible refine Below.drewS ?_) | (with_reducible refine Below.allocS ?_ _) | (with_reducible refine belGr ?_ (by assumption)) | (with_reducible refine Below.next ?_ (by assumption)) | (with_reducible refine Below.trans ?_ (by assumption)))); (first | done | fail)))) ?_; intro A4 c4 w4 r1 r2 r3))
                    all_goals
                      have h1 := ow_app (e := eC) (x := chg x.k x.old y'.new) r1
                      rw [List.length_append] at h1
                      have HO5 := hide h1
                      have HB5 := hide (show Below w2.heap.size w2 w4 from Below.trans (show Below w2.heap.size w2 _ from (by ((repeat (first | (with_reducible assumption) | (with_reducible exact Below.refl _ _) | (with_reducible refine Below.drewS ?_) | (with_reducible refine Below.allocS ?_ _) | (with_reducible refine belGr ?_ (by assumption)) | (with_reducible refine Below.next ?_ (by assumption)) | (with_reducible refine Below.trans ?_ (by assumption)))); (first | done | fail)))) (r2.below (fun k hk => (HO1.out.blk k hk).1) (Below.size (B := w2.heap.size) (w := w2) (by ((repeat (first | (with_reducible assumption) | (with_reducible exact Below.refl _ _) | (with_reducible refine Below.drewS ?_) | (with_reducible refine Below.allocS ?_ _) | (with_reducible refine belGr ?_ (by assumption)) | (with_reducible refine Below.next ?_ (by assumption)) | (with_reducible refine Below.trans ?_ (by assumption)))); (first | done | fail))))))
                      clear r1 r2 r3 h1 tt2 bb2 ob2
                      go_wp2_with fail
                      go_roundw
                      case rel => exact ⟨j + 1, zs.length + 1, A4, c4, zs ++ [chg x.k x.old y'.new], by go_num, by omega, rfl, by omega, hide ⟨HZN.out, by rw [List.length_append]; rfl, all_next HK.out HZ.out.2.2 HCF.out⟩, HO5, HB5⟩
                      case measure => simp [RowKit.intOf]; omega
            · have e0 := fun (w : World) => eqP_run ⟨x.n, x.s⟩ ⟨y'.o, y'.h⟩ w false (decide_eq_false hxy)
              have HRR := hide (show comR c d = ([], 10) by rw [HR.out, if_pos (cfC_yes HK.out (by rw [cfC1_hit HH.out]; exact decide_eq_true hxy))])
              clear hxy
              go_wp2_with fail
              go_region_held3 (fun w' => (w'.cell? ⟨wr.heap.size, 0, none⟩ = some (.int .i64 x.k) ∧ w'.cell? ⟨wr.heap.size, 1, none⟩ = some (.int .i64 x.o) ∧ w'.cell? ⟨wr.heap.size, 2, none⟩ = some (.int .i64 x.n) ∧ w'.cell? ⟨wr.heap.size, 3, none⟩ = some (.bool x.h) ∧ w'.cell? ⟨wr.heap.size, 4, none⟩ = some (.bool x.s)) ∧ w'.cell? ⟨bd, od + i * 5, none⟩ = some (.int .i64 y'.k) ∧ w'.cell? ⟨bd, od + i * 5 + 1, none⟩ = some (.int .i64 y'.o) ∧ w'.cell? ⟨bd, od + i * 5 + 2, none⟩ = some (.int .i64 y'.n) ∧ w'.cell? ⟨bd, od + i * 5 + 3, none⟩ = some (.bool y'.h) ∧ w'.cell? ⟨bd, od + i * 5 + 4, none⟩ = some (.bool y'.s))
                (exact KS.out _ (by ((repeat (first | (with_reducible assumption) | (with_reducible exact Turn.refl _ _) | (with_reducible refine tuDr ?_) | (with_reducible refine tuAl ?_ _) | (with_reducible refine tuGr ?_ (by assumption)) | (with_reducible refine Turn.trans ?_ (by assumption)))); (first | done | fail))))
                (first
                  | (go_at_call_of 33 (Value.agg #[.int .i64 x.k, .int .i64 x.o, .int .i64 x.n, .bool x.h, .bool x.s]); (with_reducible refine (after_any x _).mono ?_); rintro e u1 ⟨rfl, hga11⟩)
                  | (go_at_call_of 33 (Value.agg #[.int .i64 y'.k, .int .i64 y'.o, .int .i64 y'.n, .bool y'.h, .bool y'.s]); (with_reducible refine (after_any y' _).mono ?_); rintro e u2 ⟨rfl, hga12⟩)
                  | (go_at_call_of 34 (Value.agg #[.int .i64 x.k, .int .i64 x.o, .int .i64 x.n, .bool x.h, .bool x.s]); (with_reducible refine (before_any x _).mono ?_); rintro e u1 ⟨rfl, hga13⟩)
                  | (go_at_call_of 34 (Value.agg #[.int .i64 y'.k, .int .i64 y'.o, .int .i64 y'.n, .bool y'.h, .bool y'.s]); (with_reducible refine (before_any y' _).mono ?_); rintro e u2 ⟨rfl, hga14⟩))
              all_goals
                have HB5 := hide (show Below w2.heap.size w2 u2 from (by ((repeat (first | (with_reducible assumption) | (with_reducible exact Below.refl _ _) | (with_reducible refine Below.drewS ?_) | (with_reducible refine Below.allocS ?_ _) | (with_reducible refine belGr ?_ (by assumption)) | (with_reducible refine Below.next ?_ (by assumption)) | (with_reducible refine Below.trans ?_ (by assumption)))); (first | done | fail))))
                clear e0 tt0 bb0 ob0
                go_wp2_with fail
                go_ret2
                exact Giv.none 10 HRR.out rfl (Below.next B2.out HB5.out)
        · obtain rfl : n1 = j := by omega
          have d0 : decide ((n1 : Int) < (n1 : Int)) = false := decide_eq_false (by omega)
          have hall : c.take n1 = c := List.take_of_length_le (by rw [HX0.out.1]; exact Nat.le_refl _)
          have HZ0 := HZ.out
          rw [hall] at HZ0
          have HR := hide (show comR c d = full (coL c d) by rw [HR.out, cfC_no HZ0.2.2]; rfl)
          have HZ := hide (And.intro HZ0.1 HZ0.2.1)
          clear HZ0 hall
          go_wp2_with fail
          obtain ⟨w8, h8⟩ : ∃ z, z = wr := ⟨_, rfl⟩
          subst h8
          go_loopw [6, 77] (fun s i wr => ∃ (i1 m1 : Nat) (A : Option Addr) (cc : Nat) (ys : List Chg), i = .int .i64 (i1 : Int) ∧ i1 ≤ n2 ∧ s = .slice A m1 cc ∧ m1 ≤ m + i1 ∧ Hid (zs ++ (d.take i1).filter (fun e => (hitC c e.k).isNone) = ys ∧ ys.length = m1) ∧ Hid (Ow eC wr w2.heap.size A m1 cc ys) ∧ Hid (Below w2.heap.size w2 wr)) (fun _ i _ => n2 - (RowKit.intOf i).toNat)
          case atStart => exact ⟨0, m, A, cc, zs, rfl, Nat.zero_le _, rfl, Nat.le_refl _, hide ⟨List.append_nil _, HZ.out.2⟩, HO, HB⟩
          case round =>
            obtain ⟨i1, m1, A, cc, ys, rfl, hi1, rfl, hmi, HY, HO, HB⟩ := hrel
            by_cases hlt2 : i1 < n2
            · obtain ⟨bk, ok, x, rfl, hl, hk, q0, q1, q2, q3, q4⟩ := (HX1.out.keep HB.out).atC hlt2
              have d1 : decide ((i1 : Int) < (n2 : Int)) = true := decide_eq_true (by omega)
              have a1 : (0 : Int) ≤ (i1 : Int) := by omega
              have a2 : (i1 : Int) < (n2 : Int) := by omega
              have HF := hide (filter_next (f := fun e : Chg => (hitC c e.k).isNone) hk)
              have HBX := hide (Box.new wr #[.int .i64 x.k, .int .i64 x.o, .int .i64 x.n, .bool x.h, .bool x.s] 46)
              have HB1 := hide (Below.allocS HB.out (.cells #[.int .i64 x.k, .int .i64 x.o, .int .i64 x.n, .bool x.h, .bool x.s] 46))
              have HO1 := hide (HO.out.keep ((Below.refl _ _).alloc (Nat.le_refl _) (.cells #[.int .i64 x.k, .int .i64 x.o, .int .i64 x.n, .bool x.h, .bool x.s] 46)))
              have HFD := hide (fnd_hit (k := x.k) HSC.out)
              clear hk
              go_wp2_with fail
              refine (placeC_any A1 n1 c1 c x.k _ (HX0.out.keep HB1.out) HSC.out (by omega)).mono ?_
              rintro e w9 ⟨rfl, g9⟩
              have HB9 := hide (Below.next HB1.out g9.below)
              have HO9 := hide (HO1.out.keep g9.below)
              have hbx := HBX.out.below' g9.below
              have p0 := hbx.at_ 0
              have p1 := hbx.at_ 1
              have p2 := hbx.at_ 2
              have p3 := hbx.at_ 3
              have p4 := hbx.at_ 4
              clear g9 q0 q1 q2 q3 q4 hbx
              simp only [List.getElem?_toArray, List.getElem?_cons_zero, List.getElem?_cons_succ] at p0 p1 p2 p3 p4
              cases hfd : fnd Chg.k x.k c with
              | true =>
                have HYN := hide (show zs ++ (d.take (i1 + 1)).filter (fun e => (hitC c e.k).isNone) = ys by
                  have h3 : (hitC c x.k).isNone = false := by
                    have h4 := HFD.out
                    rw [hfd] at h4
                    unfold hitC
                    cases hh : c.find? (fun e => e.k == x.k) with
                    | none => rw [hh] at h4; cases h4
                    | some _ => rfl
                  rw [HF.out, ← List.append_assoc, HY.out.1, h3]
                  exact List.append_nil _)
                clear hfd
                go_wp2_with fail
                go_roundw
                case rel => exact ⟨i1 + 1, m1, A, cc, ys, by go_num, by omega, rfl, by omega, hide ⟨HYN.out, HY.out.2⟩, HO9, HB9⟩
                case measure => simp [RowKit.intOf]; omega
              | false =>
                have HYN := hide (show zs ++ (d.take (i1 + 1)).filter (fun e => (hitC c e.k).isNone) = ys ++ [x] by
                  have h3 : (hitC c x.k).isNone = true := by
                    have h4 := HFD.out
                    rw [hfd] at h4
                    unfold hitC
                    cases hh : c.find? (fun e => e.k == x.k) with
                    | none => rfl
                    | some _ => rw [hh] at h4; cases h4
                  rw [HF.out, ← List.append_assoc, HY.out.1, h3]
                  rfl)
                obtain rfl : ys.length = m1 := HY.out.2
                have HR9 := hide (show Ow eC (w9.alloc (.cells #[.int .i64 x.k, .int .i64 x.o, .int .i64 x.n, .bool x.h, .bool x.s] 46)) w2.heap.size A ys.length cc ys from HO9.out.keep ((Below.refl _ _).alloc (Nat.le_refl _) _))
                have HN := hide (litC (x := x) (newE w9 #[.int .i64 x.k, .int .i64 x.o, .int .i64 x.n, .bool x.h, .bool x.s] 46 rfl))
                have HB8 := hide (Below.allocS HB9.out (.cells #[.int .i64 x.k, .int .i64 x.o, .int .i64 x.n, .bool x.h, .bool x.s] 46))
                clear hfd
                go_wp2_with (at_builtin; refine wpList_app_ow _ rfl _ _ 23 rfl w2.heap.size 46 _ 5 32 Try.underlying23 infoC rfl (by decide) _ _ _ _ rfl HR9.out _ _ _ (eC.enc x) rfl rfl (fun _ => ⟨_, rfl, HN.out⟩) (fun uu hu => eC.one x uu hu) (by decide) (by omega) HB8.out.size ?_; intro A4 c4 w4 r1 r2 r3)
                go_roundw
                case rel =>
                  have h1 := ow_app (e := eC) (x := x) r1
                  exact ⟨i1 + 1, ys.length + 1, A4, c4, ys ++ [x], by go_num, by omega, rfl, by omega, hide ⟨HYN.out, by rw [List.length_append]; rfl⟩, hide (by rw [List.length_append] at h1; exact h1), hide (HB8.out.trans (r2.below (fun k hk => (HR9.out.blk k hk).1) HB8.out.size))⟩
                case measure => simp [RowKit.intOf]; omega
            · obtain rfl : n2 = i1 := by omega
              have d1 : decide ((n2 : Int) < (n2 : Int)) = false := decide_eq_false (by omega)
              have hys : ys = coP c d := by
                rw [← HY.out.1, ← HZ.out.1, List.take_of_length_le (by rw [HX1.out.1]; exact Nat.le_refl _)]
                rfl
              have hfin := co_fin HSC.out HSD.out
              rw [← hys] at hfin
              have HFIN := hide hfin
              have hl1 : (coL c d).length = m1 := by rw [← hfin.1]; exact HY.out.2
              have HL1 := hide hl1
              by_cases h64 : m1 ≤ 64
              · have d2 : decide ((64 : Int) < (m1 : Int)) = false := decide_eq_false (by omega)
                have HRR := hide (show comR c d = (coL c d, 0) by rw [HR.out]; exact full_ok (by rw [hl1]; exact h64))
                clear hys hfin hl1
                go_wp2_with fail
                refine (sortByC_any w2.heap.size m1 cc A ys wr HO.out HB.out.size (by omega)).mono ?_
                rintro e w9 ⟨rfl, xs, hp, hsx, o9, b9⟩
                have HXS := hide (HFIN.out.2 xs hp hsx)
                have HO9 := hide o9
                have HB9 := hide (HB.out.trans b9)
                clear hp hsx o9 b9
                go_wp2_with fail
                go_ret2
                unfold Giv
                rw [HRR.out]
                refine ⟨A, cc, ?_, ?_, Below.next B2.out HB9.out⟩
                · show _ = Ending.returned (.tuple #[.slice A (coL c d).length cc, .int .i64 0])
                  rw [HL1.out]; rfl
                · show Ow eC w9 w.heap.size A (coL c d).length cc (coL c d)
                  rw [HL1.out, ← HXS.out]
                  exact HO9.out.low B2.out.size
              · have d2 : decide ((64 : Int) < (m1 : Int)) = true := decide_eq_true (by omega)
                have HRR := hide (show comR c d = ([], 6) by rw [HR.out]; exact full_no (by rw [hl1]; exact h64))
                clear hys hfin hl1
                go_wp2_with fail
                go_ret2
                exact Giv.none 6 HRR.out rfl (Below.next B2.out HB.out)
end Go.Proofs.Ytadmiecoahohiaa
