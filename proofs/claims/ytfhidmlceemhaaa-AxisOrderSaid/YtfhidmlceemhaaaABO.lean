/- AxisOrder returns true for every slice of numbers, every slice of bytes and every number. -/
import Derived.Test.YtfhidmlceemhaaaABF
import Derived.Test.YtfhidmlceemhaaaIB
import Derived.Test.YtfhidmlceemhaaaB8
import Derived.IntWalk
import Derived.BigRegion
namespace Go.Proofs.Ytfhidmlceemhaaa
open Go Go.RowKit Go.Lib
open AM
/-- an empty literal -/
theorem own_lit0 (w : World) (base : Nat) (hb : base ≤ w.heap.size) : OwnI (w.alloc (.cells #[] 3)) base (.slice (some ⟨w.heap.size, 0, none⟩) 0 0) [] :=
  ⟨rfl, .inr ⟨w.heap.size, 0, #[], rfl, hb, heap_alloc_new w _, Nat.le_refl _, by unfold maxLen; omega, rfl, rfl⟩⟩
theorem own_pos10 {w : World} {base : Nat} {v : Value} {xs : List Int} (h : OwnI w base v xs) (hn : 0 < xs.length) : ∃ g c, v = .slice (some ⟨g, 0, none⟩) xs.length c ∧ base ≤ g := by
  rcases h.2 with ⟨_, hl⟩ | ⟨g, c, cur, e, hb, _⟩
  · omega
  · exact ⟨g, c, e, hb⟩
/-- a place of an own row is stored anew -/
theorem OwnI.put {w : World} {base g c n : Nat} {xs : List Int} (h : OwnI w base (.slice (some ⟨g, 0, none⟩) n c) xs) (j : Nat) (x : Int) : OwnI (w.setCell ⟨g, j, none⟩ (.int .i64 x)) base (.slice (some ⟨g, 0, none⟩) n c) (xs.set j x) := by
  have hl : n = xs.length := by
    rcases h.2 with ⟨e, _⟩ | ⟨g', c', cur, e, _⟩
    · cases e
    · injection e
  subst hl
  have := (World.ownsRow.stored h j (.int .i64 x)).1
  unfold OwnI
  rw [List.length_set]
  unfold cellsI at *
  rwa [List.map_set]
theorem OwnI.cell {w : World} {base g c n : Nat} {xs : List Int} (h : OwnI w base (.slice (some ⟨g, 0, none⟩) n c) xs) {j : Nat} {x : Int} (hx : xs[j]? = some x) : w.cell? ⟨g, j, none⟩ = some (.int .i64 x) := by
  have hj : j < xs.length := (List.getElem?_eq_some_iff.1 hx).1
  have hl : n = xs.length := by
    rcases h.2 with ⟨e, _⟩ | ⟨g', c', cur, e, _⟩
    · cases e
    · injection e
  subst hl
  rw [World.ownsRow.cellAt h j (by omega), cellsI_at, hx]
  rfl
theorem OwnI.frozen {w : World} {base g c n : Nat} {xs : List Int} (h : OwnI w base (.slice (some ⟨g, 0, none⟩) n c) xs) (j : Nat) : w.frozen? ⟨g, j, none⟩ = false := by
  have hl : n = xs.length := by
    rcases h.2 with ⟨e, _⟩ | ⟨g', c', cur, e, _⟩
    · cases e
    · injection e
  subst hl
  exact World.ownsRow.frozenAt h j
set_option maxHeartbeats 8000000 in
set_option maxRecDepth 100000 in
theorem ord_all (A : Option Addr) (n c : Nat) (l : List Int) (A2 : Option Addr) (n2 c2 : Nat) (bs : List Nat) (k : Int)  (w : World) (hr : IS w A n l) (hb8 : B8 w A2 n2 bs) (hn2 : n2 ≤ maxLen) :
    Calls Try.prog 10 #[.slice A n c, .slice A2 n2 c2, .int .i64 k] w fun e w' => e = .returned (.bool true) ∧ Below w.heap.size w w' := by
  have HR := hide hr
  have HN := hide hr.1
  have H8 := hide hb8
  have H9 := hide hn2
  clear hr hb8 hn2
  by_cases hf : n ≤ 80
  · have f1 := hide (decide_eq_true hf)
    go_enter Try.func10, Try.ntmps10
    go_wp2_with fail
    refine (awake_yes _).mono ?_
    rintro e w1 ⟨rfl, hb⟩
    have HB := hide hb
    clear hb
    go_wp2_with fail
    refine (few_any A n c _ true f1.out).mono ?_
    rintro e w2 ⟨rfl, rfl⟩
    have F := own_lit0 w1 w.heap.size HB.out.size
    have FB := hide (nxt HB.out ((Below.refl w1.heap.size w1).alloc (Nat.le_refl _) (.cells #[] 3)))
    have FI := hide (HR.out.keep FB.out)
    go_wp2_with (at_builtin; refine wpList_app_i _ rfl _ _ rfl w.heap.size _ [] rfl F _ _ _ l rfl FI.out (by simp; omega) FB.out.size ?_; intro v7 w2 ho hg)

    have F0 := hide (by rw [← List.nil_append l]; exact ho : OwnI w2 w.heap.size v7 l)
    have HB1 := hide (own_below FB.out hg FB.out.size F (Nat.le_refl _))
    clear F FB FI ho hg HB
    obtain ⟨A1, c1, rfl, -⟩ := F0.out.is
    rw [HN.out] at F0 ⊢
    have HML := hide (show l.length ≤ 80 from by rw [HN.out]; exact hf)
    go_wp2_with fail
    go_loopw [8] (fun b wr => ∃ (j : Nat) (us : List Int), j ≤ n ∧ b = .int .i64 (j : Int) ∧ Hid (us.Perm l) ∧ Hid (OwnI wr w.heap.size (.slice A1 n c1) us) ∧ Hid (Below w.heap.size w wr)) (fun b _ => n - (RowKit.intOf b).toNat)
    case atStart => exact ⟨0, l, Nat.zero_le _, rfl, hide (List.Perm.refl _), F0, HB1⟩
    case round =>
      clear F0 HB1
      obtain ⟨j, us, hj, rfl, HPM, HO, HB0⟩ := hrel
      by_cases hlt : j < n ∧ j < n2
      · obtain ⟨hl1, hl2⟩ := hlt
        have d1 : decide ((j : Int) < (n : Int)) = true := decide_eq_true (by omega)
        have d2 : decide ((j : Int) < (n2 : Int)) = true := decide_eq_true (by omega)
        have hul : us.length = n := HPM.out.length_eq.trans HN.out
        obtain ⟨g, c9, he, hg⟩ := own_pos10 HO.out (by omega)
        injection he with he1 he2 he3
        subst he1
        subst he3
        clear he2
        obtain ⟨b, o, u, rfl, hbl, hu, hu256, k0⟩ := (H8.out.keep HB0.out).at_ hl2
        obtain ⟨d, hd⟩ : ∃ d : Nat, d = n - j := ⟨_, rfl⟩
        obtain ⟨r, hr⟩ : ∃ r : Nat, r = u % d := ⟨_, rfl⟩
        have hrd : r < d := by rw [hr]; exact Nat.mod_lt _ (by omega)
        have hrr : (u : Int).tmod (d : Int) = (r : Int) := by rw [hr, ← Int.ofNat_tmod]
        obtain ⟨q, hq⟩ : ∃ q : Nat, q = j + r := ⟨_, rfl⟩
        have hqn : q < n := by omega
        obtain ⟨x, hx⟩ : ∃ x, us[j]? = some x := ⟨_, List.getElem?_eq_getElem (by omega)⟩
        obtain ⟨y, hy⟩ : ∃ y, us[q]? = some y := ⟨_, List.getElem?_eq_getElem (by omega)⟩
        have HSW := hide (swap_permX hx hy)
        have k1 := HO.out.cell hx
        have k2 := HO.out.cell hy
        have f1 := HO.out.frozen j
        have f2 := HO.out.frozen q
        have O1 := hide (HO.out.put j y)
        have f3 := O1.out.frozen q
        have f4 := O1.out.frozen j
        have hgs : g < wr.heap.size := (World.ownsRow.lt HO.out g rfl).2
        obtain ⟨dI, hdI⟩ : ∃ dI : Int, dI = (d : Int) := ⟨_, rfl⟩
        rw [← hdI] at hrr
        obtain ⟨uI, huI⟩ : ∃ uI : Int, uI = (u : Int) := ⟨_, rfl⟩
        rw [← huI] at hrr k0
        have w1 : IntKind.i64.wrap ((n : Int) - (j : Int)) = dI := by rw [IntWalk.i64_in _ (by omega)]; omega
        have hd0 : ¬ dI = 0 := by omega
        have w2 : IntKind.i64.wrap (uI.tmod dI) = (r : Int) := by rw [hrr]; exact IntWalk.i64_in _ (by omega)
        have w3 : IntKind.i64.wrap ((j : Int) + (r : Int)) = (q : Int) := by rw [IntWalk.i64_in _ (by omega)]; omega
        have w4 : IntKind.i64.wrap uI = uI := IntWalk.i64_in _ (by omega)
        have i1 : (0 : Int) ≤ (j : Int) := by omega
        have i2 : (j : Int) < (n : Int) := by omega
        have i3 : (0 : Int) ≤ (q : Int) := by omega
        have i4 : (q : Int) < (n : Int) := by omega
        have i5 : (j : Int) < (n2 : Int) := by omega
        have hz : (us.set j y)[q]? = some y := by
          rw [List.getElem?_set]
          split
          · rw [if_pos (by omega)]
          · exact hy
        have k3 := O1.out.cell hz
        have HO2 := hide (O1.out.put q x)
        have HBS := hide ((HB0.out.setCell (p := ⟨g, j, none⟩) hg (.int .i64 y)).setCell (p := ⟨g, q, none⟩) hg (.int .i64 x))
        have O3 := hide (OwnI.put (w := wr.drew) (HO.out.keep (Below.refl _ _).drew) j y)
        have k4 := O3.out.cell hz
        have f5 := O3.out.frozen q
        clear hx hy hd hr hq hu hz hdI hrd huI
        go_wp2_with fail
        go_region
        all_goals
          go_wp2_with fail
          go_roundw
          case measure => simp [RowKit.intOf]; omega
          case rel =>
            refine ⟨j + 1, (us.set j y).set q x, by omega, by go_num, hide (HSW.out.trans HPM.out), hide ?_, hide ?_⟩
            · first | exact HO2.out.keep (Below.refl _ _).drew | exact HO2.out
            · first | exact HBS.out.drew | exact HBS.out
      · have hg3 : (j < n ∧ ¬ j < n2) ∨ ¬ j < n := by omega
        clear hlt
        have H1 := hide (show IS wr A1 n us from by
          obtain ⟨A9, c9, he, hs⟩ := HO.out.is
          injection he with e1 e2 e3
          rw [← e1, ← e2] at hs
          exact hs)
        obtain ⟨rv, hrv⟩ : ∃ rv, chkSX l = rv := ⟨_, rfl⟩
        have r := hide hrv
        have rT := hide ((perm_chkS HPM.out.symm).trans hrv)
        obtain ⟨dv, hdv⟩ : ∃ dv, chkDX l k = dv := ⟨_, rfl⟩
        have d := hide hdv
        have dT := hide ((perm_chkD HPM.out.symm k).trans hdv)
        clear hrv hdv HO
        rcases hg3 with ⟨hx1, hx2⟩ | hx1
        · have g1 : decide ((j : Int) < (n : Int)) = true := decide_eq_true (by omega)
          have g2 : decide ((j : Int) < (n2 : Int)) = false := decide_eq_false (by omega)
          have g3 : decide (j < n) = true := decide_eq_true hx1
          have g4 : decide (j < n2) = false := decide_eq_false hx2
          have g5 : n2 ≤ j := by omega
          have g6 : ¬ n ≤ j := by omega
          go_wp2_with fail
          refine (arc_any A _ c l _ (HR.out.keep HB0.out)).mono ?_
          rintro e w7 ⟨h1, m1, rfl, p1, q1, hb⟩
          have HB1 := hide (nxt HB0.out hb)
          rw [r.out] at p1 q1 ⊢
          have P1 := hide p1
          have Q1 := hide q1
          replace H1 := hide (H1.out.keep hb)
          clear hb p1 q1 HB0
          go_wp2_with fail
          refine (arc_any A1 _ c1 us _ H1.out).mono ?_
          rintro e w8 ⟨i1, j1, rfl, p1, q1, hb⟩
          have HB2 := hide (nxt HB1.out hb)
          rw [rT.out] at p1 q1 ⊢
          obtain ⟨rfl, rfl⟩ : i1 = h1 ∧ j1 = m1 := by
            by_cases hz : rv = 0
            · exact (perm_arc HPM.out.symm (p1 hz)).uniq (P1.out hz)
            · exact ⟨(q1 hz).1.trans (Q1.out hz).1.symm, (q1 hz).2.trans (Q1.out hz).2.symm⟩
          replace H1 := hide (H1.out.keep hb)
          clear hb p1 q1 P1 Q1 HB1
          go_wp2_with fail

          refine (median_any A _ c l _ (HR.out.keep HB2.out)).mono ?_
          rintro e w9 ⟨h2, m2, rfl, p2, q2, hb⟩
          have HB3 := hide (nxt HB2.out hb)
          rw [r.out] at p2 q2 ⊢
          have P2 := hide p2
          have Q2 := hide q2
          replace H1 := hide (H1.out.keep hb)
          clear hb p2 q2 HB2
          go_wp2_with fail
          refine (median_any A1 _ c1 us _ H1.out).mono ?_
          rintro e w10 ⟨i2, j2, rfl, p2, q2, hb⟩
          have HB4 := hide (nxt HB3.out hb)
          rw [rT.out] at p2 q2 ⊢
          obtain ⟨rfl, rfl⟩ : i2 = h2 ∧ j2 = m2 := by
            by_cases hz : rv = 0
            · exact (perm_med HPM.out.symm (p2 hz)).uniq (P2.out hz)
            · exact ⟨(q2 hz).1.trans (Q2.out hz).1.symm, (q2 hz).2.trans (Q2.out hz).2.symm⟩
          replace H1 := hide (H1.out.keep hb)
          clear hb p2 q2 P2 Q2 HB3
          go_wp2_with fail

          refine (den_any A _ c l k _ (HR.out.keep HB4.out)).mono ?_
          rintro e w11 ⟨h3, m3, rfl, p3, q3, hb⟩
          have HB5 := hide (nxt HB4.out hb)
          rw [d.out] at p3 q3 ⊢
          have P3 := hide p3
          have Q3 := hide q3
          replace H1 := hide (H1.out.keep hb)
          clear hb p3 q3 HB4
          go_wp2_with fail
          refine (den_any A1 _ c1 us k _ H1.out).mono ?_
          rintro e w12 ⟨i3, j3, rfl, p3, q3, hb⟩
          have HB6 := hide (nxt HB5.out hb)
          rw [dT.out] at p3 q3 ⊢
          obtain ⟨rfl, rfl⟩ : i3 = h3 ∧ j3 = m3 := by
            by_cases hz : dv = 0
            · exact (perm_den HPM.out.symm (p3 hz)).uniq (P3.out hz)
            · exact ⟨(q3 hz).1.trans (Q3.out hz).1.symm, (q3 hz).2.trans (Q3.out hz).2.symm⟩
          replace H1 := hide (H1.out.keep hb)
          clear hb p3 q3 P3 Q3 HB5
          go_wp2_with fail

          obtain ⟨v, hv⟩ : ∃ v, fixX l k = v := ⟨_, rfl⟩
          have HV := hide hv
          have HVT := hide ((perm_fix HPM.out.symm k).trans hv)
          clear hv
          refine (fixed_any A _ c l k _ (HR.out.keep HB6.out)).mono ?_
          rintro e w15 ⟨rfl, hb⟩
          have HB7 := hide (nxt HB6.out hb)
          replace H1 := hide (H1.out.keep hb)
          rw [HV.out]
          clear hb HB6
          go_wp2_with fail
          refine (fixed_any A1 _ c1 us k _ H1.out).mono ?_
          rintro e w16 ⟨rfl, hb⟩
          have HB8 := hide (nxt HB7.out hb)
          rw [HVT.out]
          clear hb HB7
          go_wp2_with fail
          go_ret
          exact ⟨by simp, HB8.out⟩
        · obtain rfl : j = n := by omega
          have g1 : decide ((j : Int) < (j : Int)) = false := decide_eq_false (by omega)
          clear hx1 hj
          go_wp2_with fail
          refine (arc_any A _ c l _ (HR.out.keep HB0.out)).mono ?_
          rintro e w7 ⟨h1, m1, rfl, p1, q1, hb⟩
          have HB1 := hide (nxt HB0.out hb)
          rw [r.out] at p1 q1 ⊢
          have P1 := hide p1
          have Q1 := hide q1
          replace H1 := hide (H1.out.keep hb)
          clear hb p1 q1 HB0
          go_wp2_with fail
          refine (arc_any A1 _ c1 us _ H1.out).mono ?_
          rintro e w8 ⟨i1, j1, rfl, p1, q1, hb⟩
          have HB2 := hide (nxt HB1.out hb)
          rw [rT.out] at p1 q1 ⊢
          obtain ⟨rfl, rfl⟩ : i1 = h1 ∧ j1 = m1 := by
            by_cases hz : rv = 0
            · exact (perm_arc HPM.out.symm (p1 hz)).uniq (P1.out hz)
            · exact ⟨(q1 hz).1.trans (Q1.out hz).1.symm, (q1 hz).2.trans (Q1.out hz).2.symm⟩
          replace H1 := hide (H1.out.keep hb)
          clear hb p1 q1 P1 Q1 HB1
          go_wp2_with fail

          refine (median_any A _ c l _ (HR.out.keep HB2.out)).mono ?_
          rintro e w9 ⟨h2, m2, rfl, p2, q2, hb⟩
          have HB3 := hide (nxt HB2.out hb)
          rw [r.out] at p2 q2 ⊢
          have P2 := hide p2
          have Q2 := hide q2
          replace H1 := hide (H1.out.keep hb)
          clear hb p2 q2 HB2
          go_wp2_with fail
          refine (median_any A1 _ c1 us _ H1.out).mono ?_
          rintro e w10 ⟨i2, j2, rfl, p2, q2, hb⟩
          have HB4 := hide (nxt HB3.out hb)
          rw [rT.out] at p2 q2 ⊢
          obtain ⟨rfl, rfl⟩ : i2 = h2 ∧ j2 = m2 := by
            by_cases hz : rv = 0
            · exact (perm_med HPM.out.symm (p2 hz)).uniq (P2.out hz)
            · exact ⟨(q2 hz).1.trans (Q2.out hz).1.symm, (q2 hz).2.trans (Q2.out hz).2.symm⟩
          replace H1 := hide (H1.out.keep hb)
          clear hb p2 q2 P2 Q2 HB3
          go_wp2_with fail

          refine (den_any A _ c l k _ (HR.out.keep HB4.out)).mono ?_
          rintro e w11 ⟨h3, m3, rfl, p3, q3, hb⟩
          have HB5 := hide (nxt HB4.out hb)
          rw [d.out] at p3 q3 ⊢
          have P3 := hide p3
          have Q3 := hide q3
          replace H1 := hide (H1.out.keep hb)
          clear hb p3 q3 HB4
          go_wp2_with fail
          refine (den_any A1 _ c1 us k _ H1.out).mono ?_
          rintro e w12 ⟨i3, j3, rfl, p3, q3, hb⟩
          have HB6 := hide (nxt HB5.out hb)
          rw [dT.out] at p3 q3 ⊢
          obtain ⟨rfl, rfl⟩ : i3 = h3 ∧ j3 = m3 := by
            by_cases hz : dv = 0
            · exact (perm_den HPM.out.symm (p3 hz)).uniq (P3.out hz)
            · exact ⟨(q3 hz).1.trans (Q3.out hz).1.symm, (q3 hz).2.trans (Q3.out hz).2.symm⟩
          replace H1 := hide (H1.out.keep hb)
          clear hb p3 q3 P3 Q3 HB5
          go_wp2_with fail

          obtain ⟨v, hv⟩ : ∃ v, fixX l k = v := ⟨_, rfl⟩
          have HV := hide hv
          have HVT := hide ((perm_fix HPM.out.symm k).trans hv)
          clear hv
          refine (fixed_any A _ c l k _ (HR.out.keep HB6.out)).mono ?_
          rintro e w15 ⟨rfl, hb⟩
          have HB7 := hide (nxt HB6.out hb)
          replace H1 := hide (H1.out.keep hb)
          rw [HV.out]
          clear hb HB6
          go_wp2_with fail
          refine (fixed_any A1 _ c1 us k _ H1.out).mono ?_
          rintro e w16 ⟨rfl, hb⟩
          have HB8 := hide (nxt HB7.out hb)
          rw [HVT.out]
          clear hb HB7
          go_wp2_with fail
          go_ret
          exact ⟨by simp, HB8.out⟩
  · have f1 := hide (decide_eq_false hf)
    clear hf
    go_enter Try.func10, Try.ntmps10
    go_wp2_with fail
    refine (awake_yes _).mono ?_
    rintro e w1 ⟨rfl, hb⟩
    have HB := hide hb
    clear hb
    go_wp2_with fail
    refine (few_any A n c _ false f1.out).mono ?_
    rintro e w2 ⟨rfl, rfl⟩
    go_wp2_with fail
    refine (awake_yes _).mono ?_
    rintro e w3 ⟨rfl, hb⟩
    go_wp2_with fail
    go_ret
    exact ⟨rfl, nxt HB.out hb⟩
end Go.Proofs.Ytfhidmlceemhaaa
