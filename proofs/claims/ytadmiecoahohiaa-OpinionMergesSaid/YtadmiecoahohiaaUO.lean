/- Apply, of the program. -/
import Derived.Test.YtadmiecoahohiaaUL
import Derived.Test.YtadmiecoahohiaaUK
import Derived.Test.YtadmiecoahohiaaUE
namespace Go.Proofs.Ytadmiecoahohiaa
open Go Go.RowKit Go.Lib
theorem appR_no {a : List Ent} {c : List Chg} (h : vE a = false ∨ vC c = false) : appR a c = ([], 1) := by
  unfold appR
  rcases h with h | h
  · rw [h]; rfl
  · rw [h, Bool.and_false]; rfl
theorem appR_ok {a : List Ent} {c : List Chg} (ha : vE a = true) (hc : vC c = true) : appR a c = if cfA a c = true then ([], 10) else full (apL a c) := by unfold appR; rw [ha, hc]; rfl
theorem cfA_yes {a : List Ent} {c : List Chg} {j : Nat} {x : Chg} (hx : c[j]? = some x) (h : cfA1 a x = true) : cfA a c = true := by
  unfold cfA
  rw [List.any_eq_true]
  exact ⟨x, List.mem_of_getElem? hx, h⟩
theorem cfA_no {a : List Ent} {c : List Chg} (h : ∀ x ∈ c, cfA1 a x = false) : cfA a c = false := by
  unfold cfA
  rw [List.any_eq_false]
  intro x hx h2
  rw [h x hx] at h2
  cases h2
theorem all_next {α : Type} {P : α → Prop} {l : List α} {j : Nat} {x : α} (h : l[j]? = some x) (h1 : ∀ z ∈ l.take j, P z) (h2 : P x) : ∀ z ∈ l.take (j + 1), P z := by
  rw [take_next h]
  intro z hz
  rcases List.mem_append.1 hz with h | h
  · exact h1 z h
  · rw [List.mem_singleton] at h; rw [h]; exact h2
theorem filter_next {α : Type} {f : α → Bool} {l : List α} {j : Nat} {x : α} (h : l[j]? = some x) : (l.take (j + 1)).filter f = (l.take j).filter f ++ (if f x = true then [x] else []) := by
  rw [take_next h, List.filter_append]
  congr 1
  by_cases hf : f x = true
  · rw [if_pos hf]; simp [hf]
  · rw [if_neg hf]; simp [hf]

set_option maxHeartbeats 16000000 in
set_option maxRecDepth 100000 in
theorem apply_any (A1 : Option Addr) (n1 c1 : Nat) (a : List Ent) (A2 : Option Addr) (n2 c2 : Nat) (c : List Chg) (w : World) (ha : SL eE w A1 n1 a) (hc : SL eC w A2 n2 c) (h1 : n1 ≤ 200) (h2 : n2 ≤ 200) :
    Calls Try.prog 24 #[.slice A1 n1 c1, .slice A2 n2 c2] w (Giv eE w (appR a c)) := by
  have HX0 := hide ha
  have HX1 := hide hc
  clear ha hc
  cases hv0 : vE a with
  | false =>
    have HR := hide (appR_no (c := c) (.inl hv0))
    have HV0 := hide hv0
    clear hv0
    go_enter Try.func24, Try.ntmps24
    go_wp2_with fail
    refine (valid_any A1 n1 c1 a w HX0.out (by omega) false HV0.out).mono ?_
    rintro e w1 ⟨rfl, g1⟩
    have G1 := hide (g1)
    clear g1
    go_wp2_with fail
    go_ret2
    exact Giv.none 1 HR.out rfl G1.out.below
  | true =>
    cases hv1 : vC c with
    | false =>
      have HR := hide (appR_no (a := a) (.inr hv1))
      have HV0 := hide hv0
      have HV1 := hide hv1
      clear hv0 hv1
      go_enter Try.func24, Try.ntmps24
      go_wp2_with fail
      refine (valid_any A1 n1 c1 a w HX0.out (by omega) true HV0.out).mono ?_
      rintro e w1 ⟨rfl, g1⟩
      have G1 := hide (g1)
      clear g1
      go_wp2_with fail
      refine (validC_any A2 n2 c2 c w1 (HX1.out.keep G1.out.below) (by omega) false HV1.out).mono ?_
      rintro e w2 ⟨rfl, g2⟩
      have G2 := hide ((G1.out.trans g2))
      clear g2
      go_wp2_with fail
      go_ret2
      exact Giv.none 1 HR.out rfl G2.out.below
    | true =>
      have HR := hide (appR_ok hv0 hv1)
      have HV0 := hide hv0
      have HV1 := hide hv1
      clear hv0 hv1
      go_enter Try.func24, Try.ntmps24
      go_wp2_with fail
      refine (valid_any A1 n1 c1 a w HX0.out (by omega) true HV0.out).mono ?_
      rintro e w1 ⟨rfl, g1⟩
      have G1 := hide (g1)
      clear g1
      go_wp2_with fail
      refine (validC_any A2 n2 c2 c w1 (HX1.out.keep G1.out.below) (by omega) true HV1.out).mono ?_
      rintro e w2 ⟨rfl, g2⟩
      have G2 := hide ((G1.out.trans g2))
      clear g2
      go_wp2_with fail
      have HX0 := hide (HX0.out.keep G2.out.below)
      have HX1 := hide (HX1.out.keep G2.out.below)
      have hcv := vC_iff.1 HV1.out
      have hav := vE_iff.1 HV0.out
      have HSA := hide hav.2
      have HSC := hide hcv.2.1
      have hn1 : n1 ≤ 64 := by rw [← HX0.out.1]; exact hav.1
      have hn2 : n2 ≤ 64 := by rw [← HX1.out.1]; exact hcv.1
      have B2 := hide G2.out.below
      clear hcv hav
      go_loopw [6, 23] (fun s i wr => ∃ (j m : Nat) (A : Option Addr) (cc : Nat) (zs : List Ent), i = .int .i64 (j : Int) ∧ j ≤ n2 ∧ s = .slice A m cc ∧ m ≤ j ∧ Hid ((c.take j).filterMap ap1 = zs ∧ zs.length = m ∧ ∀ x ∈ c.take j, cfA1 a x = false) ∧ Hid (Ow eE wr w2.heap.size A m cc zs) ∧ Hid (Below w2.heap.size w2 wr)) (fun _ i _ => n2 - (RowKit.intOf i).toNat)
      case atStart => exact ⟨0, 0, none, 0, [], rfl, Nat.zero_le _, rfl, Nat.le_refl _, hide ⟨rfl, rfl, fun x hx => by cases hx⟩, hide (Ow.nil_ _ _), hide (Below.refl _ _)⟩
      case round =>
        obtain ⟨j, m, A, cc, zs, rfl, hj, rfl, hmj, HZ, HO, HB⟩ := hrel
        by_cases hlt : j < n2
        · obtain ⟨bk, ok, x, rfl, hl, hk, m0, m1, m2, m3, m4⟩ := (HX1.out.keep HB.out).atC hlt
          have HK := hide hk
          obtain ⟨sv, hsv⟩ : ∃ sv, x.s = sv := ⟨_, rfl⟩
          have HSV := hide hsv
          rw [hsv] at m4
          clear hsv
          have d0 : decide ((j : Int) < (n2 : Int)) = true := decide_eq_true (by omega)
          have a1 : (0 : Int) ≤ (j : Int) := by omega
          have a2 : (j : Int) < (n2 : Int) := by omega
          obtain ⟨f, hf⟩ : ∃ f, at' a x.k = f := ⟨_, rfl⟩
          have HF := hide hf
          have HCF := hide (show cfA1 a x = decide (f ≠ x.old) by unfold cfA1; rw [hf])
          have HZN := hide (fm_next (f := ap1) hk)
          have HBX := hide (Box.new wr #[.int .i64 x.k, .int .i64 x.o, .int .i64 x.n, .bool x.h, .bool sv] 46)
          have bb0 := Below.allocS HB.out (.cells #[.int .i64 x.k, .int .i64 x.o, .int .i64 x.n, .bool x.h, .bool sv] 46)
          have KS := hide (fun (w' : World) (h : Below (wr.alloc (.cells #[.int .i64 x.k, .int .i64 x.o, .int .i64 x.n, .bool x.h, .bool sv] 46)).heap.size (wr.alloc (.cells #[.int .i64 x.k, .int .i64 x.o, .int .i64 x.n, .bool x.h, .bool sv] 46)) w') => show w'.cell? ⟨wr.heap.size, 0, none⟩ = some (.int .i64 x.k) ∧ w'.cell? ⟨wr.heap.size, 1, none⟩ = some (.int .i64 x.o) ∧ w'.cell? ⟨wr.heap.size, 2, none⟩ = some (.int .i64 x.n) ∧ w'.cell? ⟨wr.heap.size, 3, none⟩ = some (.bool x.h) ∧ w'.cell? ⟨wr.heap.size, 4, none⟩ = some (.bool sv) from ⟨(HBX.out.below' h).at_ 0, (HBX.out.below' h).at_ 1, (HBX.out.below' h).at_ 2, (HBX.out.below' h).at_ 3, (HBX.out.below' h).at_ 4⟩)
          have HO1 := hide (HO.out.keep ((Below.refl _ _).alloc (Nat.le_refl _) (.cells #[.int .i64 x.k, .int .i64 x.o, .int .i64 x.n, .bool x.h, .bool sv] 46)))
          clear hk hf
          by_cases hfx : f = x.old
          · have HCF := hide (show cfA1 a x = false by rw [HCF.out]; exact decide_eq_false fun h => h hfx)
            have e0 := fun (w : World) => eqP_run f ⟨x.o, x.h⟩ w true (decide_eq_true hfx)
            clear hfx
            go_wp2_with fail
            go_region_held3 (fun w' => w'.cell? ⟨wr.heap.size, 0, none⟩ = some (.int .i64 x.k) ∧ w'.cell? ⟨wr.heap.size, 1, none⟩ = some (.int .i64 x.o) ∧ w'.cell? ⟨wr.heap.size, 2, none⟩ = some (.int .i64 x.n) ∧ w'.cell? ⟨wr.heap.size, 3, none⟩ = some (.bool x.h) ∧ w'.cell? ⟨wr.heap.size, 4, none⟩ = some (.bool sv))
              (exact KS.out _ (by ((repeat (first | (with_reducible assumption) | (with_reducible exact Below.refl _ _) | (with_reducible refine Below.drewS ?_) | (with_reducible refine Below.allocS ?_ _) | (with_reducible refine belGr ?_ (by assumption)) | (with_reducible refine Below.next ?_ (by assumption)) | (with_reducible refine Below.trans ?_ (by assumption)))); (first | done | fail))))
              (first
                | (go_at_call 47; (with_reducible refine (side_any A1 n1 c1 a x.k _ (HX0.out.keep (by ((repeat (first | (with_reducible assumption) | (with_reducible exact Below.refl _ _) | (with_reducible refine Below.drewS ?_) | (with_reducible refine Below.allocS ?_ _) | (with_reducible refine belGr ?_ (by assumption)) | (with_reducible refine Below.next ?_ (by assumption)) | (with_reducible refine Below.trans ?_ (by assumption)))); (first | done | fail)))) HSA.out (by omega) f HF.out).mono ?_); rintro e u1 ⟨rfl, hg⟩)
                | (go_at_call 34; (with_reducible refine (before_any ⟨x.k, x.o, x.n, x.h, sv⟩ _).mono ?_); rintro e u2 ⟨rfl, hg2⟩))
            all_goals
              have HB5 := hide (show Below w2.heap.size w2 u2 from (by ((repeat (first | (with_reducible assumption) | (with_reducible exact Below.refl _ _) | (with_reducible refine Below.drewS ?_) | (with_reducible refine Below.allocS ?_ _) | (with_reducible refine belGr ?_ (by assumption)) | (with_reducible refine Below.next ?_ (by assumption)) | (with_reducible refine Below.trans ?_ (by assumption)))); (first | done | fail))))
              have hbx := show Below (wr.alloc (.cells #[.int .i64 x.k, .int .i64 x.o, .int .i64 x.n, .bool x.h, .bool sv] 46)).heap.size (wr.alloc (.cells #[.int .i64 x.k, .int .i64 x.o, .int .i64 x.n, .bool x.h, .bool sv] 46)) u2 from (by ((repeat (first | (with_reducible assumption) | (with_reducible exact Below.refl _ _) | (with_reducible refine Below.drewS ?_) | (with_reducible refine Below.allocS ?_ _) | (with_reducible refine belGr ?_ (by assumption)) | (with_reducible refine Below.next ?_ (by assumption)) | (with_reducible refine Below.trans ?_ (by assumption)))); (first | done | fail)))
              obtain ⟨q0, q1, q2, q3, q4⟩ := KS.out _ hbx
              have HO5 := hide (HO1.out.keep hbx)
              clear hbx e0 hg hg2 bb0 m0 m1 m2 m3 m4
              cases sv with
              | false =>
                have hs := HSV.out
                have HZN := hide (show (c.take (j + 1)).filterMap ap1 = zs by rw [HZN.out, HZ.out.1]; unfold ap1; rw [if_neg (by rw [hs]; decide)]; exact List.append_nil _)
                clear hs
                go_wp2_with fail
                go_roundw
                case rel => exact ⟨j + 1, m, A, cc, zs, by go_num, by omega, rfl, by omega, hide ⟨HZN.out, HZ.out.2.1, all_next HK.out HZ.out.2.2 HCF.out⟩, HO5, HB5⟩
                case measure => simp [RowKit.intOf]; omega
              | true =>
                have hs := HSV.out
                have HZN := hide (show (c.take (j + 1)).filterMap ap1 = zs ++ [⟨x.k, x.n⟩] by rw [HZN.out, HZ.out.1]; unfold ap1; rw [if_pos hs]; rfl)
                obtain rfl : zs.length = m := HZ.out.2.1
                have HR := hide (show Ow eE (u2.alloc (.cells #[.int .i64 x.k, .int .i64 x.n] 43)) w2.heap.size A zs.length cc zs from HO5.out.keep ((Below.refl _ _).alloc (Nat.le_refl _) _))
                have HN := hide (litE (x := ⟨x.k, x.n⟩) (newE u2 #[.int .i64 x.k, .int .i64 x.n] 43 rfl))
                have HB8 := hide (Below.allocS HB5.out (.cells #[.int .i64 x.k, .int .i64 x.n] 43))
                clear hs
                go_wp2_with (at_builtin; refine wpList_app_ow _ rfl _ _ 22 rfl w2.heap.size 43 _ 2 16 Try.underlying22 infoE rfl (by decide) _ _ _ _ rfl HR.out _ _ _ (eE.enc ⟨x.k, x.n⟩) rfl rfl (fun _ => ⟨_, rfl, HN.out⟩) (fun uu hu => eE.one ⟨x.k, x.n⟩ uu hu) (by decide) (by omega) HB8.out.size ?_; intro A4 c4 w4 r1 r2 r3)
                go_roundw
                case rel =>
                  have h1 := ow_app (e := eE) (x := ⟨x.k, x.n⟩) r1
                  exact ⟨j + 1, zs.length + 1, A4, c4, zs ++ [⟨x.k, x.n⟩], by go_num, by omega, rfl, by omega, hide ⟨HZN.out, by rw [List.length_append]; rfl, all_next HK.out HZ.out.2.2 HCF.out⟩, hide (by rw [List.length_append] at h1; exact h1), hide (HB8.out.trans (r2.below (fun k hk => (HR.out.blk k hk).1) HB8.out.size))⟩
                case measure => simp [RowKit.intOf]; omega
          · have HRR := hide (show appR a c = ([], 10) by rw [HR.out, if_pos (cfA_yes HK.out (by rw [HCF.out]; exact decide_eq_true hfx))])
            have e0 := fun (w : World) => eqP_run f ⟨x.o, x.h⟩ w false (decide_eq_false hfx)
            clear hfx
            go_wp2_with fail
            go_region_held3 (fun w' => w'.cell? ⟨wr.heap.size, 0, none⟩ = some (.int .i64 x.k) ∧ w'.cell? ⟨wr.heap.size, 1, none⟩ = some (.int .i64 x.o) ∧ w'.cell? ⟨wr.heap.size, 2, none⟩ = some (.int .i64 x.n) ∧ w'.cell? ⟨wr.heap.size, 3, none⟩ = some (.bool x.h) ∧ w'.cell? ⟨wr.heap.size, 4, none⟩ = some (.bool sv))
              (exact KS.out _ (by ((repeat (first | (with_reducible assumption) | (with_reducible exact Below.refl _ _) | (with_reducible refine Below.drewS ?_) | (with_reducible refine Below.allocS ?_ _) | (with_reducible refine belGr ?_ (by assumption)) | (with_reducible refine Below.next ?_ (by assumption)) | (with_reducible refine Below.trans ?_ (by assumption)))); (first | done | fail))))
              (first
                | (go_at_call 47; (with_reducible refine (side_any A1 n1 c1 a x.k _ (HX0.out.keep (by ((repeat (first | (with_reducible assumption) | (with_reducible exact Below.refl _ _) | (with_reducible refine Below.drewS ?_) | (with_reducible refine Below.allocS ?_ _) | (with_reducible refine belGr ?_ (by assumption)) | (with_reducible refine Below.next ?_ (by assumption)) | (with_reducible refine Below.trans ?_ (by assumption)))); (first | done | fail)))) HSA.out (by omega) f HF.out).mono ?_); rintro e u1 ⟨rfl, hg⟩)
                | (go_at_call 34; (with_reducible refine (before_any ⟨x.k, x.o, x.n, x.h, sv⟩ _).mono ?_); rintro e u2 ⟨rfl, hg2⟩))
            all_goals
              have HB5 := hide (show Below w2.heap.size w2 u2 from (by ((repeat (first | (with_reducible assumption) | (with_reducible exact Below.refl _ _) | (with_reducible refine Below.drewS ?_) | (with_reducible refine Below.allocS ?_ _) | (with_reducible refine belGr ?_ (by assumption)) | (with_reducible refine Below.next ?_ (by assumption)) | (with_reducible refine Below.trans ?_ (by assumption)))); (first | done | fail))))
              clear e0 hg hg2 bb0 m0 m1 m2 m3 m4
              go_wp2_with fail
              go_ret2
              exact Giv.none 10 HRR.out rfl (Below.next B2.out HB5.out)
        · obtain rfl : j = n2 := by omega
          have d0 : decide ((j : Int) < (j : Int)) = false := decide_eq_false (by omega)
          have hall : c.take j = c := List.take_of_length_le (by rw [HX1.out.1]; exact Nat.le_refl _)
          have HZ0 := HZ.out
          rw [hall] at HZ0
          have HR := hide (show appR a c = full (apL a c) by rw [HR.out, cfA_no HZ0.2.2]; rfl)
          have HZ := hide (And.intro HZ0.1 HZ0.2.1)
          clear HZ0 hall
          go_wp2_with fail
          obtain ⟨w8, h8⟩ : ∃ z, z = wr := ⟨_, rfl⟩
          subst h8
          go_loopw [6, 47] (fun s i wr => ∃ (i1 m1 : Nat) (A : Option Addr) (cc : Nat) (ys : List Ent), i = .int .i64 (i1 : Int) ∧ i1 ≤ n1 ∧ s = .slice A m1 cc ∧ m1 ≤ m + i1 ∧ Hid (zs ++ (a.take i1).filter (fun e => (hitC c e.k).isNone) = ys ∧ ys.length = m1) ∧ Hid (Ow eE wr w2.heap.size A m1 cc ys) ∧ Hid (Below w2.heap.size w2 wr)) (fun _ i _ => n1 - (RowKit.intOf i).toNat)
          case atStart => exact ⟨0, m, A, cc, zs, rfl, Nat.zero_le _, rfl, Nat.le_refl _, hide ⟨List.append_nil _, HZ.out.2⟩, HO, HB⟩
          case round =>
            obtain ⟨i1, m1, A, cc, ys, rfl, hi1, rfl, hmi, HY, HO, HB⟩ := hrel
            by_cases hlt2 : i1 < n1
            · obtain ⟨bk, ok, x, rfl, hl, hk, q0, q1⟩ := (HX0.out.keep HB.out).atE hlt2
              have d1 : decide ((i1 : Int) < (n1 : Int)) = true := decide_eq_true (by omega)
              have a1 : (0 : Int) ≤ (i1 : Int) := by omega
              have a2 : (i1 : Int) < (n1 : Int) := by omega
              have HF := hide (filter_next (f := fun e : Ent => (hitC c e.k).isNone) hk)
              have HBX := hide (Box.new wr #[.int .i64 x.k, .int .i64 x.v] 43)
              have HB1 := hide (Below.allocS HB.out (.cells #[.int .i64 x.k, .int .i64 x.v] 43))
              have HO1 := hide (HO.out.keep ((Below.refl _ _).alloc (Nat.le_refl _) (.cells #[.int .i64 x.k, .int .i64 x.v] 43)))
              have HFD := hide (fnd_hit (k := x.k) HSC.out)
              clear hk
              go_wp2_with fail
              refine (placeC_any A2 j c2 c x.k _ (HX1.out.keep HB1.out) HSC.out (by omega)).mono ?_
              rintro e w9 ⟨rfl, g9⟩
              have HB9 := hide (Below.next HB1.out g9.below)
              have HO9 := hide (HO1.out.keep g9.below)
              have hbx := HBX.out.below' g9.below
              have p0 := hbx.at_ 0
              have p1 := hbx.at_ 1
              clear g9 q0 q1 hbx
              simp only [List.getElem?_toArray, List.getElem?_cons_zero, List.getElem?_cons_succ] at p0 p1
              cases hfd : fnd Chg.k x.k c with
              | true =>
                have HYN := hide (show zs ++ (a.take (i1 + 1)).filter (fun e => (hitC c e.k).isNone) = ys by
                  have h3 : (hitC c x.k).isNone = false := by
                    have h4 := HFD.out
                    rw [hfd] at h4
                    unfold hitC
                    cases hh : c.find? (fun e => e.k == x.k) with
                    | none => rw [hh] at h4; cases h4
                    | some _ => rfl
                  rw [HF.out, ← List.append_assoc, HY.out.1, h3]
                  exact List.append_nil _)
                clear hfd
                go_wp2_with fail
                go_roundw
                case rel => exact ⟨i1 + 1, m1, A, cc, ys, by go_num, by omega, rfl, by omega, hide ⟨HYN.out, HY.out.2⟩, HO9, HB9⟩
                case measure => simp [RowKit.intOf]; omega
              | false =>
                have HYN := hide (show zs ++ (a.take (i1 + 1)).filter (fun e => (hitC c e.k).isNone) = ys ++ [x] by
                  have h3 : (hitC c x.k).isNone = true := by
                    have h4 := HFD.out
                    rw [hfd] at h4
                    unfold hitC
                    cases hh : c.find? (fun e => e.k == x.k) with
                    | none => rfl
                    | some _ => rw [hh] at h4; cases h4
                  rw [HF.out, ← List.append_assoc, HY.out.1, h3]
                  rfl)
                obtain rfl : ys.length = m1 := HY.out.2
                have HR9 := hide (show Ow eE (w9.alloc (.cells #[.int .i64 x.k, .int .i64 x.v] 43)) w2.heap.size A ys.length cc ys from HO9.out.keep ((Below.refl _ _).alloc (Nat.le_refl _) _))
                have HN := hide (litE (x := x) (newE w9 #[.int .i64 x.k, .int .i64 x.v] 43 rfl))
                have HB8 := hide (Below.allocS HB9.out (.cells #[.int .i64 x.k, .int .i64 x.v] 43))
                clear hfd
                go_wp2_with (at_builtin; refine wpList_app_ow _ rfl _ _ 22 rfl w2.heap.size 43 _ 2 16 Try.underlying22 infoE rfl (by decide) _ _ _ _ rfl HR9.out _ _ _ (eE.enc x) rfl rfl (fun _ => ⟨_, rfl, HN.out⟩) (fun uu hu => eE.one x uu hu) (by decide) (by omega) HB8.out.size ?_; intro A4 c4 w4 r1 r2 r3)
                go_roundw
                case rel =>
                  have h1 := ow_app (e := eE) (x := x) r1
                  exact ⟨i1 + 1, ys.length + 1, A4, c4, ys ++ [x], by go_num, by omega, rfl, by omega, hide ⟨HYN.out, by rw [List.length_append]; rfl⟩, hide (by rw [List.length_append] at h1; exact h1), hide (HB8.out.trans (r2.below (fun k hk => (HR9.out.blk k hk).1) HB8.out.size))⟩
                case measure => simp [RowKit.intOf]; omega
            · obtain rfl : i1 = n1 := by omega
              have d1 : decide ((i1 : Int) < (i1 : Int)) = false := decide_eq_false (by omega)
              have hys : ys = apP a c := by
                rw [← HY.out.1, ← HZ.out.1, List.take_of_length_le (by rw [HX0.out.1]; exact Nat.le_refl _)]
                rfl
              have hfin := ap_fin HSA.out HSC.out
              rw [← hys] at hfin
              have HFIN := hide hfin
              have hl1 : (apL a c).length = m1 := by rw [← hfin.1]; exact HY.out.2
              have HL1 := hide hl1
              by_cases h64 : m1 ≤ 64
              · have d2 : decide ((64 : Int) < (m1 : Int)) = false := decide_eq_false (by omega)
                have HRR := hide (show appR a c = (apL a c, 0) by rw [HR.out]; exact full_ok (by rw [hl1]; exact h64))
                clear hys hfin hl1
                go_wp2_with fail
                refine (sortByE_any w2.heap.size m1 cc A ys wr HO.out HB.out.size (by omega)).mono ?_
                rintro e w9 ⟨rfl, xs, hp, hsx, o9, b9⟩
                have HXS := hide (HFIN.out.2 xs hp hsx)
                have HO9 := hide o9
                have HB9 := hide (HB.out.trans b9)
                clear hp hsx o9 b9
                go_wp2_with fail
                go_ret2
                unfold Giv
                rw [HRR.out]
                refine ⟨A, cc, ?_, ?_, Below.next B2.out HB9.out⟩
                · show _ = Ending.returned (.tuple #[.slice A (apL a c).length cc, .int .i64 0])
                  rw [HL1.out]; rfl
                · show Ow eE w9 w.heap.size A (apL a c).length cc (apL a c)
                  rw [HL1.out, ← HXS.out]
                  exact HO9.out.low B2.out.size
              · have d2 : decide ((64 : Int) < (m1 : Int)) = true := decide_eq_true (by omega)
                have HRR := hide (show appR a c = ([], 6) by rw [HR.out]; exact full_no (by rw [hl1]; exact h64))
                clear hys hfin hl1
                go_wp2_with fail
                go_ret2
                exact Giv.none 6 HRR.out rfl (Below.next B2.out HB.out)
end Go.Proofs.Ytadmiecoahohiaa
