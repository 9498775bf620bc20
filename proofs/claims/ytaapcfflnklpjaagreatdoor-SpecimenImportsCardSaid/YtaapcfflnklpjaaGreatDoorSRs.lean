/- The reference's Sort. -/
import Derived.Test.YtaapcfflnklpjaaGreatDoorSRa
import Derived.Test.YtaapcfflnklpjaaGreatDoorSU
import Derived.Test.YtaapcfflnklpjaaGreatDoorSI
import Derived.Test.YtaapcfflnklpjaaGreatDoorSK
import Derived.Deep.QuietTactic
import Derived.BigQuiet
import Derived.WalkSmall
import Derived.BigRegion
namespace Go.Proofs.YtaapcfflnklpjaaGreatDoor
open Go Go.RowKit Go.Lib
theorem swap_perm {us : List Spc} {k : Nat} {x y : Spc} (h1 : us[k]? = some y) (h2 : us[k - 1]? = some x) : ((us.set k x).set (k - 1) y).Perm us := by
  obtain ⟨hk, rfl⟩ := List.getElem?_eq_some_iff.1 h1
  obtain ⟨hj, rfl⟩ := List.getElem?_eq_some_iff.1 h2
  exact List.set_set_perm hk hj
/-- sorted below i, but for the element at k, which is less than those behind it -/
def Ins (us : List Spc) (i k : Nat) : Prop := ∀ (p q : Nat) (x y : Spc), p < q → q ≤ i → us[p]? = some x → us[q]? = some y → q ≠ k → (p = k ∨ p ≠ k) → x.i < y.i
def Low (us : List Spc) (i : Nat) : Prop := ∀ (p q : Nat) (x y : Spc), p < q → q < i → us[p]? = some x → us[q]? = some y → x.i < y.i
theorem ins_start {us : List Spc} {i : Nat} (h : Low us i) : Ins us i i := fun p q x y hpq hq hx hy hne _ => h p q x y hpq (by omega) hx hy
theorem ins_zero {us : List Spc} {i : Nat} (h : Ins us i 0) : Low us (i + 1) := fun p q x y hpq hq hx hy => h p q x y hpq (by omega) hx hy (by omega) (by omega)
theorem ins_stop {us : List Spc} {i k : Nat} (h : Ins us i k) (hk : 0 < k) (hki : k ≤ i) {a b : Spc} (ha : us[k]? = some a) (hb : us[k - 1]? = some b) (hlt : b.i < a.i) : Low us (i + 1) := by
  intro p q x y hpq hq hx hy
  by_cases hqk : q = k
  · subst hqk
    rw [ha] at hy
    injection hy with hy
    subst hy
    by_cases hpk : p = q - 1
    · subst hpk
      rw [hb] at hx
      injection hx with hx
      subst hx
      exact hlt
    · have := h p (q - 1) x b (by omega) (by omega) hx hb (by omega) (by omega)
      omega
  · exact h p q x y hpq (by omega) hx hy hqk (by omega)
theorem ins_step {us : List Spc} {i k : Nat} (h : Ins us i k) (hk : 0 < k) (hki : k ≤ i) {a b : Spc} (ha : us[k]? = some a) (hb : us[k - 1]? = some b) (hlt : a.i < b.i) : Ins ((us.set k b).set (k - 1) a) i (k - 1) := by
  have hkl : k < us.length := (List.getElem?_eq_some_iff.1 ha).1
  have g1 : ((us.set k b).set (k - 1) a)[k - 1]? = some a := by rw [List.getElem?_set_self (by rw [List.length_set]; omega)]
  have g2 : ((us.set k b).set (k - 1) a)[k]? = some b := by rw [List.getElem?_set_ne (by omega), List.getElem?_set_self hkl]
  have g3 : ∀ j, j ≠ k → j ≠ k - 1 → ((us.set k b).set (k - 1) a)[j]? = us[j]? := fun j h1 h2 => by rw [List.getElem?_set_ne (by omega), List.getElem?_set_ne (by omega)]
  intro p q x y hpq hq hx hy hqk _
  by_cases q1 : q = k
  · subst q1
    rw [g2] at hy
    injection hy with hy
    subst hy
    by_cases p1 : p = q - 1
    · subst p1
      rw [g1] at hx
      injection hx with hx
      subst hx
      exact hlt
    · rw [g3 p (by omega) p1] at hx
      exact h p (q - 1) x b (by omega) (by omega) hx hb (by omega) (by omega)
  · rw [g3 q q1 hqk] at hy
    by_cases p1 : p = k - 1
    · subst p1
      rw [g1] at hx
      injection hx with hx
      subst hx
      exact h k q a y (by omega) hq ha hy q1 (by omega)
    · by_cases p2 : p = k
      · subst p2
        rw [g2] at hx
        injection hx with hx
        subst hx
        exact h (p - 1) q b y (by omega) hq hb hy q1 (by omega)
      · rw [g3 p p2 p1] at hx
        exact h p q x y hpq hq hx hy q1 (by omega)
theorem low_str : ∀ {us : List Spc}, Low us us.length → Str us
  | [], _ => trivial
  | z :: r, h => ⟨fun y hy => by
      obtain ⟨j, hj⟩ := List.getElem?_of_mem hy
      exact h 0 (j + 1) z y (by omega) (by have := (List.getElem?_eq_some_iff.1 hj).1; simp; omega) rfl (by simpa using hj),
    low_str fun p q x y hpq hq hx hy => h (p + 1) (q + 1) x y (by omega) (by simp; omega) (by simpa using hx) (by simpa using hy)⟩
theorem low_srt {ys us : List Spc} (h : Low us us.length) (hp : us.Perm ys) : Srt ys us := ⟨hp, low_str h⟩
theorem nod_lt {ys us : List Spc} (hc : chk ys = 0) (hp : us.Perm ys) {k : Nat} (hk : 0 < k) {a b : Spc} (ha : us[k]? = some a) (hb : us[k - 1]? = some b) (h : ¬ a.i < b.i) : b.i < a.i := by
  have hn : Nod us := by
    have := (chk_ok.1 hc).2.2
    unfold Nod at this ⊢
    exact (hp.map _).nodup_iff.2 this
  have := nod_at.1 hn k (k - 1) a b (by omega) ha hb
  omega
theorem own_any_len {w : World} {base n c : Nat} {A : Option Addr} {us : List Spc} (h : OwnS w base (.slice A n c) us) : n = us.length ∧ SL w A n us := by
  obtain ⟨A', c', e, hs, _⟩ := h.form
  injection e with e1 e2 e3
  subst e1; subst e2
  exact ⟨rfl, hs⟩
theorem OwnS.sl_any {w : World} {base n c : Nat} {A : Option Addr} {us : List Spc} (h : OwnS w base (.slice A n c) us) : SL w A n us := (own_any_len h).2
set_option maxHeartbeats 2000000 in
theorem rsort_err (A : Option Addr) (n c : Nat) (ys : List Spc) (w : World) (hr : SL w A n ys) (h : chk ys ≠ 0) :
    Calls Tryz.prog 20 #[.slice A n c] w (GivesSort ys w) := by
  have HR := hide hr
  have HH := hide h
  have hl : chk ys = 6 ∨ chk ys = 1 ∨ chk ys = 8 := by rcases chk_cases ys with h' | h'; exact absurd h' h; exact h'
  obtain ⟨r, hrr⟩ : ∃ r, chk ys = r := ⟨_, rfl⟩
  rw [hrr] at hl
  have H := hide hrr
  clear hr h hrr
  rcases hl with rfl | rfl | rfl
  all_goals
    go_enter Tryz.func20, Tryz.ntmps20
    go_wp2_with fail
    refine (rcheck_any A n c ys _ HR.out _ H.out).mono ?_
    rintro e w1 ⟨rfl, hb⟩
    go_wp2_with fail
    go_ret2
    exact ⟨none, 0, 0, [], by rw [H.out]; rfl, SL.nil_ _ _, fun h => absurd h HH.out, fun _ => rfl, hb⟩
set_option maxHeartbeats 8000000 in
set_option maxRecDepth 100000 in
theorem rsort_ok (A : Option Addr) (n c : Nat) (ys : List Spc) (w : World) (hr : SL w A n ys) (h : chk ys = 0) :
    Calls Tryz.prog 20 #[.slice A n c] w (GivesSort ys w) := by
  have HR := hide hr
  have H := hide h
  have hn64 : n ≤ 64 := by have := (chk_ok.1 h).1; rw [hr.1] at this; exact this
  have HYL := hide hr.1
  clear hr h
  go_enter Tryz.func20, Tryz.ntmps20
  go_wp2_with fail
  refine (rcheck_any A n c ys _ HR.out 0 H.out).mono ?_
  rintro e w1 ⟨rfl, hb⟩
  have HB := hide hb
  clear hb
  go_wp2_with (at_builtin; refine wpList_app_s _ rfl _ _ rfl w1.heap.size _ [] rfl (OwnS.empty_ w1 (Nat.le_refl _)) A n c ys rfl (HR.out.keep (HB.out.alloc HB.out.size _)) (by simp; omega) (by simp) ?_; intro v3 w3 hrow3 hbel3)
  rw [List.nil_append] at hrow3
  obtain ⟨A3, c3, rfl, hs3, hc3⟩ := hrow3.form
  have hz3 := hs3.1
  have HO := hide hrow3
  have HB3 := hide (((Below.refl w1.heap.size w1).alloc (Nat.le_refl _) (.cells #[] 23)).trans hbel3)
  obtain ⟨m, hm⟩ : ∃ m, ys.length = m := ⟨_, rfl⟩
  obtain rfl : m = n := by rw [← hm]; exact HYL.out
  rw [hm] at HO ⊢
  clear hs3 hrow3 hbel3 hz3 hm hc3
  go_wp2_with fail
  go_loopw [6] (fun a wr => ∃ (i : Nat) (us : List Spc), a = .int .i64 (i : Int) ∧ 1 ≤ i ∧ (i ≤ m ∨ i = 1) ∧ Hid (us.Perm ys) ∧ Hid (Low us i) ∧ Hid (OwnS wr w1.heap.size (.slice A3 m c3) us) ∧ Hid (Below w1.heap.size w1 wr)) (fun a _ => m - (RowKit.intOf a).toNat)
  case atStart => exact ⟨1, ys, rfl, Nat.le_refl _, .inr rfl, hide (List.Perm.refl _), hide (fun p q _ _ h1 h2 => absurd h1 (by omega)), HO, HB3⟩
  case round =>
    clear HO HB3
    obtain ⟨i, us, rfl, hi1, hi, HP, HLo, HO, HBR⟩ := hrel
    by_cases hlt : i < m
    · obtain ⟨g, rfl, hg⟩ : ∃ g, A3 = some ⟨g, 0, none⟩ ∧ w1.heap.size ≤ g := by
        have hl := (own_any_len HO.out).1
        rcases HO.out.2 with ⟨e, _⟩ | ⟨g, _, _, e, hg, _⟩
        · injection e with _ e; omega
        · injection e with e _ _
          exact ⟨g, e, hg⟩
      have d0 : decide ((i : Int) < (m : Int)) = true := decide_eq_true (by omega)
      obtain ⟨W, hW⟩ : ∃ x, x = wr := ⟨_, rfl⟩
      subst hW
      go_wp2_with fail
      go_loopw [7] (fun a wr => ∃ (k : Nat) (us : List Spc), a = .int .i64 (k : Int) ∧ k ≤ i ∧ Hid (us.Perm ys) ∧ Hid (Ins us i k) ∧ Hid (OwnS wr w1.heap.size (.slice (some ⟨g, 0, none⟩) m c3) us) ∧ Hid (Below w1.heap.size w1 wr)) (fun a _ => (RowKit.intOf a).toNat)
      case atStart => exact ⟨i, us, rfl, Nat.le_refl _, HP, hide (ins_start HLo.out), HO, HBR⟩
      case round =>
        clear HO HBR HP HLo
        obtain ⟨k, vs, rfl, hk, HP, HI, HO, HBR⟩ := hrel
        by_cases hk0 : k = 0
        · subst hk0
          have HL := hide (ins_zero HI.out)
          go_wp2_with fail
          go_quiet (fail)
          go_wp2_with fail
          go_roundw
          case rel => exact ⟨i + 1, vs, by go_num, by omega, .inl (by omega), HP, HL, hide (OwnS.keep HO.out (below_drewN (Below.refl _ _) _)), hide (below_drewN HBR.out _)⟩
          case measure => simp [RowKit.intOf]; omega
        · have hvl : vs.length = m := HP.out.length_eq.trans HYL.out
          obtain ⟨a, ha⟩ : ∃ a, vs[k]? = some a := ⟨_, List.getElem?_eq_getElem (by omega)⟩
          obtain ⟨b, hb⟩ : ∃ a, vs[k - 1]? = some a := ⟨_, List.getElem?_eq_getElem (by omega)⟩
          have hs := OwnS.sl HO.out
          obtain ⟨k0, k1, k2, k3, k4, k5, k6⟩ := cells_to (hs.cells_ ha) (show 0 + k * 7 = k * 7 by omega)
          obtain ⟨m0, m1, m2, m3, m4, m5, m6⟩ := cells_to (hs.cells_ hb) (show 0 + (k - 1) * 7 = (k - 1) * 7 by omega)
          have HA := hide ha
          have HBB := hide hb
          have HVL := hide hvl
          have d1 : decide ((0 : Int) < (k : Int)) = true := decide_eq_true (by omega)
          have d1n : decide (0 < k) = true := decide_eq_true (by omega)
          have i0 : (0 : Int) ≤ (k : Int) := by omega
          have i5 : (k : Int) < (m : Int) := by omega
          have i1 : IntKind.i64.wrap ((k : Int) - 1) = (k : Int) - 1 := IntWalk.i64_in _ (by omega)
          have i2 : (0 : Int) ≤ (k : Int) - 1 := by omega
          have i3 : (k : Int) - 1 < (m : Int) := by omega
          have i4 : ((k : Int) - 1).toNat = k - 1 := by omega
          clear hs ha hb hvl
          by_cases hab : a.i < b.i
          · have d2 : decide (a.i < b.i) = true := decide_eq_true hab
            have HAB := hide hab
            clear hab
            go_wp2_with fail
            go_quiet (fail)
            clear k0 k1 k2 k3 k4 k5 k6 m0 m1 m2 m3 m4 m5 m6 d2
            have hOz := OwnS.keep HO.out (below_drewN (Below.refl wr.heap.size wr) nq)
            have HB1 := hide (below_drewN HBR.out nq)
            generalize wr.drewN nq = wz at *
            have HO1 := hide (show OwnS wz w1.heap.size (.slice (some ⟨g, 0, none⟩) m c3) vs from hOz)
            clear hOz
            skip
            have hs := OwnS.sl HO1.out
            obtain ⟨k0, k1, k2, k3, k4, k5, k6⟩ := cells_to (hs.cells_ HA.out) (show 0 + k * 7 = k * 7 by omega)
            obtain ⟨m0, m1, m2, m3, m4, m5, m6⟩ := cells_to (hs.cells_ HBB.out) (show 0 + (k - 1) * 7 = (k - 1) * 7 by omega)
            have f0 := own_frozen HO1.out (k * 7)
            have f1 := own_frozen HO1.out (k * 7 + 1)
            have f2 := own_frozen HO1.out (k * 7 + 2)
            have f3 := own_frozen HO1.out (k * 7 + 3)
            have f4 := own_frozen HO1.out (k * 7 + 4)
            have f5 := own_frozen HO1.out (k * 7 + 5)
            have f6 := own_frozen HO1.out (k * 7 + 6)
            have g0 := own_frozen HO1.out ((k - 1) * 7)
            have g1 := own_frozen HO1.out ((k - 1) * 7 + 1)
            have g2 := own_frozen HO1.out ((k - 1) * 7 + 2)
            have g3 := own_frozen HO1.out ((k - 1) * 7 + 3)
            have g4 := own_frozen HO1.out ((k - 1) * 7 + 4)
            have g5 := own_frozen HO1.out ((k - 1) * 7 + 5)
            have g6 := own_frozen HO1.out ((k - 1) * 7 + 6)
            have hgw : g < wz.heap.size := (World.ownsRow.lt HO1.out g rfl).2
            clear hs
            go_wp2_with fail
            go_region
            all_goals
              go_wp2_with fail
              go_roundw
              case rel =>
                have hv := HVL.out
                have hO := OwnS.put (OwnS.put HO1.out (show k < vs.length by omega) b) (show k - 1 < (vs.set k b).length by rw [List.length_set]; omega) a
                have hB := put_below (put_below HB1.out hg (k := k) b) hg (k := k - 1) a
                refine ⟨k - 1, (vs.set k b).set (k - 1) a, by first | go_num | exact congrArg (Value.int .i64) (by omega), by omega, hide ((swap_perm HA.out HBB.out).trans HP.out), hide (ins_step HI.out (by omega) hk HA.out HBB.out HAB.out), hide ?_, hide ?_⟩
                · exact OwnS.keep hO ((Below.refl _ _).drew)
                · exact hB.drew
              case measure => simp [RowKit.intOf]; omega
          · have d2 : decide (a.i < b.i) = false := decide_eq_false hab
            have HL := hide (ins_stop HI.out (by omega) hk HA.out HBB.out (nod_lt H.out HP.out (by omega) HA.out HBB.out hab))
            clear hab
            go_wp2_with fail
            go_quiet (fail)
            go_wp2_with fail
            go_roundw
            case rel => exact ⟨i + 1, vs, by go_num, by omega, .inl (by omega), HP, HL, hide (OwnS.keep HO.out (below_drewN (Below.refl _ _) _)), hide (below_drewN HBR.out _)⟩
            case measure => simp [RowKit.intOf]; omega
    · have hl := HP.out.length_eq.trans HYL.out
      have d0 : decide ((i : Int) < (m : Int)) = false := decide_eq_false (by omega)
      have hs := OwnS.sl_any HO.out
      have HL := hide (show Low us us.length from fun p q x y hpq hq hx hy => HLo.out p q x y hpq (by omega) hx hy)
      have HS := hide hs
      clear hl hs
      go_wp2_with fail
      go_ret2
      exact ⟨A3, m, c3, us, by rw [H.out]; rfl, HS.out, fun _ => low_srt HL.out HP.out, fun h => absurd H.out h, nxt HB.out HBR.out⟩
theorem rsort_any (A : Option Addr) (n c : Nat) (ys : List Spc) (w : World) (hr : SL w A n ys) :
    Calls Tryz.prog 20 #[.slice A n c] w (GivesSort ys w) := by
  by_cases h : chk ys = 0
  · exact rsort_ok A n c ys w hr h
  · exact rsort_err A n c ys w hr h
end Go.Proofs.YtaapcfflnklpjaaGreatDoor
