/- The reference's Cover: the walk. -/
import Derived.Test.YtihadabaehcmiaaDoorYRCov
namespace Go.Proofs.YtihadabaehcmiaaDoor
open Go Go.RowKit Go.Lib

set_option maxHeartbeats 1000000 in
theorem rcover_full (A : Option Addr) (n c : Nat) (w : World) (hm : 64 < n) (hn : n ≤ maxLen) :
    Calls Tryd.prog 30 #[.slice A n c] w fun e w' => e = .returned (.tuple #[.slice none 0 0, .int .i64 6]) ∧ w = w' := by
  unfold maxLen at hn
  have d64 : decide ((64 : Int) < (n : Int)) = true := decide_eq_true (by omega)
  go_enter Tryd.func30, Tryd.ntmps30
  go_wp2_with fail
  go_ret2
  exact ⟨rfl, rfl⟩
theorem good_of {ys : List (Int × Int)} {n : Nat} (hl : ys.length = n) (h : ∀ (i : Nat) (y : Int × Int), i < n → ys[i]? = some y → yB y.1 y.2 = true) : badY ys = false := by
  unfold badY
  rw [List.any_eq_false]
  intro y hy
  obtain ⟨j, hj, e⟩ := List.getElem_of_mem hy
  rw [h j y (by omega) (by rw [← e]; exact List.getElem?_eq_getElem hj)]
  decide
theorem good_at {ys : List (Int × Int)} (h : badY ys = false) {j : Nat} {y : Int × Int} (hy : ys[j]? = some y) : yB y.1 y.2 = true := by
  unfold badY at h
  rw [List.any_eq_false] at h
  have := h y (List.mem_of_getElem? hy)
  simpa using this
set_option maxHeartbeats 2000000 in
theorem rcover_bad (A : Option Addr) (n c : Nat) (ys : List (Int × Int)) (w : World) (hr : YL w A n ys) (hm : n ≤ 64) (hv : badY ys = true) :
    Calls Tryd.prog 30 #[.slice A n c] w fun e w' => e = .returned (.tuple #[.slice none 0 0, .int .i64 1]) ∧ Below w.heap.size w w' := by
  have d64 : decide ((64 : Int) < (n : Int)) = false := decide_eq_false (by omega)
  have HV := hide hv
  have HR := hide hr
  clear hv hr
  go_enter Tryd.func30, Tryd.ntmps30
  go_wp2_with fail
  go_loopw [4] (fun t wr => ∃ j : Nat, j ≤ n ∧ t = .int .i64 j ∧ (∀ (i : Nat) (y : Int × Int), i < j → ys[i]? = some y → yB y.1 y.2 = true) ∧ Below w.heap.size w wr) (fun t _ => n - (intOf t).toNat)
  case atStart => exact ⟨0, Nat.zero_le _, rfl, fun _ _ h => by omega, Below.refl _ _⟩
  case round =>
    obtain ⟨j, hj, rfl, hs, hB⟩ := hrel
    have HS := hide hs
    have HB := hide hB
    clear hs hB
    by_cases hlt : j < n
    · obtain ⟨b, o, y, rfl, hbl, h1, c1, c2⟩ := (HR.out.keep HB.out).at_ hlt
      have G := hide h1
      clear h1
      rcases Bool.eq_false_or_eq_true (yB y.1 y.2) with hy | hy
      · have HY := hide hy
        have on : ∀ (i : Nat) (z : Int × Int), i < j + 1 → ys[i]? = some z → yB z.1 z.2 = true := fun i z hi hz => by
          by_cases e : i = j
          · subst e
            have := G.out
            rw [hz] at this
            injection this with this
            rw [this]
            exact HY.out
          · exact HS.out i z (by omega) hz
        have ON := hide on
        clear on hy
        go_wp2_with fail
        refine (rvalid_any _ _ _ true HY.out).mono ?_
        rintro e w1 ⟨rfl, hb1⟩
        have B1 := HB.out.trans (hb1.mono HB.out.size)
        clear hb1
        go_wp2_with fail
        go_roundw
        case rel => exact ⟨j + 1, hlt, by go_num, ON.out, B1⟩
        case measure => simp [intOf]; omega
      · have HY := hide hy
        clear hy
        go_wp2_with fail
        refine (rvalid_any _ _ _ false HY.out).mono ?_
        rintro e w1 ⟨rfl, hb1⟩
        have B1 := HB.out.trans (hb1.mono HB.out.size)
        clear hb1
        go_wp2_with fail
        go_ret2
        exact ⟨rfl, B1⟩
    · exfalso
      obtain rfl : j = n := by omega
      have := good_of HR.out.1 HS.out
      rw [HV.out] at this
      cases this

def RCIn (w : World) (ys : List (Int × Int)) (v i : Value) (wr : World) : Prop :=
  ∃ (k : Int) (cov : List (Int × Int)), -9999 ≤ k ∧ k ≤ 10000 ∧ i = .int .i64 k ∧ OwnY wr w.heap.size v cov ∧ (cov = [] → v = .slice none 0 0) ∧ (cov.length : Int) ≤ k + 9999 ∧ CovR ys k cov ∧ Below w.heap.size w wr
theorem own_ge {h n c g B : Nat} (hB : B ≤ h) (e : (Value.slice (some ⟨h, 0, none⟩) n c).ownBlock = some g) : B ≤ g := by
  simp [Value.ownBlock] at e
  omega
theorem own_shape {w : World} {base : Nat} {v : Value} {c : List (Int × Int)} {z : Int × Int} (h : OwnY w base v (c ++ [z])) : ∃ g d, v = .slice (some ⟨g, 0, none⟩) (c.length + 1) d ∧ base ≤ g ∧ g < w.heap.size := by
  rcases h.2 with ⟨_, e⟩ | ⟨g, d, cur, e, hb, r⟩
  · simp at e
  · refine ⟨g, d, by rw [e]; simp, hb, ?_⟩
    have := World.ownsRow.lt h g (by rw [e]; rfl)
    exact this.2
theorem rstep_new {w : World} {ys : List (Int × Int)} {k : Int} {cov : List (Int × Int)} {h : Option Nat} {m : Nat} {wr W' w5 : World} {v' : Value} (hk0 : -9999 ≤ k) (hk : k ≤ 9999) (hcv : CovR ys k cov) (hon : onB ys k = true) (hl : ∀ x ∈ cov, x.2 + 1 < k)
    (hB : Below w.heap.size w wr) (hB' : Below wr.heap.size wr W') (hm : m = cov.length + 1) (hlc : (cov.length : Int) ≤ k + 9999) (ho : w5.ownsRow w.heap.size 23 2 v' m (flatY cov ++ encY (k, k))) (hgr : W'.grownBy w5 h) (hwB : ∀ g, h = some g → w.heap.size ≤ g) : RCIn w ys v' (.int .i64 (k + 1)) w5 := by
  subst hm
  refine ⟨k + 1, cov ++ [(k, k)], by omega, by omega, rfl, ?_, fun e => by simp at e, by simp; omega, covR_new hcv hon hl, ?_⟩
  · unfold OwnY
    rw [flatY_app, List.length_append]
    exact ho
  · have hBW := hB.trans (hB'.mono hB.size)
    rcases h with _ | g
    · exact hBW.trans ⟨hgr.os, hgr.tape, hgr.output, hgr.size, fun i hi => hgr.block i (Nat.lt_of_lt_of_le hi hBW.size) (by simp)⟩
    · exact below_only hBW hgr hBW.size (hwB g rfl)
theorem rstep_join {w : World} {ys : List (Int × Int)} {k : Int} {c0 : List (Int × Int)} {z : Int × Int} {h cc : Nat} {wr w5 : World} (hk0 : -9999 ≤ k) (hk : k ≤ 9999) (hcv : CovR ys k (c0 ++ [z])) (hon : onB ys k = true) (hz : z.2 = k - 1)
    (hB : Below w.heap.size w wr) (hlc : ((c0 ++ [z]).length : Int) ≤ k + 9999) (ho : OwnY wr w.heap.size (.slice (some ⟨h, 0, none⟩) (c0.length + 1) cc) (c0 ++ [z])) (hwB : w.heap.size ≤ h) (hw : Below (wr.setCell ⟨h, c0.length * 2 + 1, none⟩ (.int .i64 k)).heap.size (wr.setCell ⟨h, c0.length * 2 + 1, none⟩ (.int .i64 k)) w5) : RCIn w ys (.slice (some ⟨h, 0, none⟩) (c0.length + 1) cc) (.int .i64 (k + 1)) w5 := by
  have ho2 : wr.ownsRow w.heap.size 23 2 (.slice (some ⟨h, 0, none⟩) (c0.length + 1) cc) (c0.length + 1) (flatY (c0 ++ [z])) := by
    unfold OwnY at ho
    rw [List.length_append] at ho
    exact ho
  have hs := World.ownsRow.stored ho2 (c0.length * 2 + 1) (.int .i64 k)
  rw [flatY_set] at hs
  refine ⟨k + 1, c0 ++ [(z.1, k)], by omega, by omega, rfl, ?_, fun e => by simp at e, by simp at hlc ⊢; omega, covR_join hcv hon hz, ?_⟩
  · have h1 := own_keep hs.1 hw
    unfold OwnY
    rw [List.length_append]
    exact h1
  · exact (below_only hB hs.2 hB.size hwB).trans (hw.mono (Nat.le_trans hB.size hs.2.size))
def RCovOk (w : World) (ys : List (Int × Int)) (e : Ending) (w' : World) : Prop := ∃ v' cov, e = .returned (.tuple #[v', .int .i64 0]) ∧ OwnY w' w.heap.size v' cov ∧ CovR ys 10000 cov ∧ Below w.heap.size w w'
set_option maxHeartbeats 4000000 in
set_option maxRecDepth 100000 in
theorem rcover_ok (A : Option Addr) (n c : Nat) (ys : List (Int × Int)) (w : World) (hr : YL w A n ys) (hm : n ≤ 64) (hv : badY ys = false) :
    Calls Tryd.prog 30 #[.slice A n c] w (RCovOk w ys) := by
  have d64 : decide ((64 : Int) < (n : Int)) = false := decide_eq_false (by omega)
  have HV := hide hv
  have HR := hide hr
  clear hv hr
  go_enter Tryd.func30, Tryd.ntmps30
  go_wp2_with fail
  go_loopw [4] (fun t wr => ∃ j : Nat, j ≤ n ∧ t = .int .i64 j ∧ Below w.heap.size w wr) (fun t _ => n - (intOf t).toNat)
  case atStart => exact ⟨0, Nat.zero_le _, rfl, Below.refl _ _⟩
  case round =>
    obtain ⟨j, hj, rfl, hB⟩ := hrel
    have HB := hide hB
    clear hB
    by_cases hlt : j < n
    · obtain ⟨b, o, y, rfl, hbl, h1, c1, c2⟩ := (HR.out.keep HB.out).at_ hlt
      have HY := hide (good_at HV.out h1)
      clear h1
      go_wp2_with fail
      refine (rvalid_any _ _ _ true HY.out).mono ?_
      rintro e w1 ⟨rfl, hb1⟩
      have B1 := HB.out.trans (hb1.mono HB.out.size)
      clear hb1
      go_wp2_with fail
      go_roundw
      case rel => exact ⟨j + 1, hlt, by go_num, B1⟩
      case measure => simp [intOf]; omega
    · obtain rfl : j = n := by omega
      obtain ⟨i0, hi, hz0, hz1, hz2⟩ := info_parts infoY
      have Hz0 := hide hz0
      have Hz1 := hide hz1
      have Hz2 := hide hz2
      have Hi := hide hi
      clear hz0 hz1 hz2 hi
      obtain ⟨wo, rfl⟩ : ∃ wo : World, wo = wr := ⟨_, rfl⟩
      go_wp2_with fail
      go_loopw [5, 6] (fun v i wr => RCIn w ys v i wr) (fun _ i _ => (10000 - intOf i).toNat)
      case atStart => exact ⟨-9999, [], by omega, by omega, rfl, World.ownsRow_nil _ _ _ _, fun _ => rfl, by simp, covR_nil HV.out, HB.out⟩
      case round =>
        obtain ⟨k, cov, hk0, hk1, rfl, ho, hnil, hlc, hcv, hB⟩ := hrel
        have HO := hide ho
        have HC := hide hcv
        have HBr := hide hB
        have HN := hide hnil
        have hBs := hB.size
        clear ho hcv hB hnil
        by_cases hk : k ≤ 9999
        · have dk : decide (k ≤ 9999) = true := decide_eq_true hk
          go_wp2_with fail
          rcases Bool.eq_false_or_eq_true (onB ys k) with hon | hon
          · have HON := hide hon
            clear hon
            refine (in_v A j c ys k _ (HR.out.keep HBr.out) (by unfold maxLen; omega) true HON.out).mono ?_
            rintro e w1 ⟨rfl, rfl⟩
            rcases List.eq_nil_or_concat cov with rfl | ⟨c0, z, hcz⟩
            · obtain rfl := HN.out rfl
              go_wp2_with (at_builtin; refine wpList_append_own _ rfl _ _ 42 rfl w.heap.size 23 i0 _ 2 16 Tryd.underlying42 Hi.out Hz0.out Hz1.out Hz2.out rfl (by decide) _ 0 (flatY []) rfl (own_keep HO.out ((Below.refl _ _).alloc (Nat.le_refl _) _)) _ 1 1 (encY (k, k)) rfl rfl ?c1 ?c2 ?c3 ?c4 ?c5 ?_)
              case c1 => exact enc_new (k, k) rfl rfl
              case c2 => exact enc_one _
              case c3 => unfold maxLen; omega
              case c4 => omega
              case c5 => simp; omega
              intro v' w5 ho5 hgr5 _
              go_wp2_with fail
              go_roundw
              case rel => exact rstep_new hk0 hk HC.out HON.out (fun x hx => by cases hx) HBr.out ((Below.refl _ _).alloc (Nat.le_refl _) _) rfl hlc ho5 hgr5 (fun g hg => by cases hg)
              case measure => simp [intOf]; omega
            · rw [List.concat_eq_append] at hcz
              subst hcz
              obtain ⟨h, cc, rfl, hwh, hhl⟩ := own_shape HO.out
              have HO1 := hide (show OwnY wr w.heap.size (.slice (some ⟨h, 0, none⟩) (c0 ++ [z]).length cc) (c0 ++ [z]) from by have := HO.out; rw [List.length_append]; exact this)
              obtain ⟨q1, q2, q3⟩ := HO1.out.at_ (j := c0.length) (y := z) (by simp)
              have hlc2 : (c0.length : Int) + 1 ≤ k + 9999 := by simpa using hlc
              have hc0 : c0.length < 20000 := by omega
              have dl : decide ((0 : Int) < (c0.length : Int) + 1) = true := decide_eq_true (by omega)
              have HLC := hide hlc
              clear hlc HN
              by_cases hz : z.2 = k - 1
              · have dz : (z.2 == k - 1) = true := beq_iff_eq.2 hz
                have HZ := hide hz
                clear hz
                go_wp2_with fail
                go_roundw
                case rel => exact rstep_join hk0 hk HC.out HON.out HZ.out HBr.out HLC.out HO.out hwh (by first | with_reducible exact Below.refl _ _ | exact below_drewN (Below.refl _ _) _)
                case measure => simp [intOf]; omega
              · have dz : (z.2 == k - 1) = false := beq_eq_false_iff_ne.2 hz
                have HZ := hide hz
                have HO2 := hide (show wr.ownsRow w.heap.size 23 2 (.slice (some ⟨h, 0, none⟩) (c0.length + 1) cc) (c0.length + 1) (flatY (c0 ++ [z])) from by have := HO.out; unfold OwnY at this; rw [List.length_append] at this; exact this)
                clear hz
                go_wp2_with (at_builtin; refine wpList_append_own _ rfl _ _ 42 rfl w.heap.size 23 i0 _ 2 16 Tryd.underlying42 Hi.out Hz0.out Hz1.out Hz2.out rfl (by decide) _ (c0.length + 1) (flatY (c0 ++ [z])) rfl (own_keep HO2.out ((Below.refl _ _).alloc (Nat.le_refl _) _)) _ 1 1 (encY (k, k)) rfl rfl ?c1 ?c2 ?c3 ?c4 ?c5 ?_)
                case c1 => exact enc_new (k, k) rfl rfl
                case c2 => exact enc_one _
                case c3 => unfold maxLen; omega
                case c4 => omega
                case c5 => simp; omega
                intro v' w5 ho5 hgr5 _
                go_wp2_with fail
                go_roundw
                case rel => exact rstep_new hk0 hk HC.out HON.out (covR_last HC.out HZ.out) HBr.out ((Below.refl _ _).alloc (Nat.le_refl _) _) (by simp) HLC.out ho5 hgr5 (fun g hg => own_ge hwh hg)
                case measure => simp [intOf]; omega
          · have HON := hide hon
            clear hon
            refine (in_v A j c ys k _ (HR.out.keep HBr.out) (by unfold maxLen; omega) false HON.out).mono ?_
            rintro e w1 ⟨rfl, rfl⟩
            go_wp2_with fail
            go_roundw
            case rel => exact ⟨k + 1, cov, by omega, by omega, rfl, HO.out, HN.out, by omega, covR_skip HC.out HON.out, HBr.out⟩
            case measure => simp [intOf]; omega
        · obtain rfl : k = 10000 := by omega
          go_wp2_with fail
          go_ret2
          exact ⟨_, cov, rfl, HO.out, HC.out, HBr.out⟩
/-- what the reference's Cover leaves -/
def RCovPost (w : World) (ys : List (Int × Int)) (e : Ending) (w' : World) : Prop :=
  ∃ (A : Option Addr) (n c : Nat) (cov : List (Int × Int)) (er : Int), e = .returned (.tuple #[.slice A n c, .int .i64 er]) ∧ YL w' A n cov ∧ n ≤ maxLen ∧ Below w.heap.size w w' ∧
    ((64 < ys.length ∧ er = 6 ∧ cov = []) ∨ (ys.length ≤ 64 ∧ badY ys = true ∧ er = 1 ∧ cov = []) ∨ (ys.length ≤ 64 ∧ badY ys = false ∧ er = 0 ∧ SepL cov ∧ ∀ m, On cov m ↔ On ys m))
theorem rcover_any (A : Option Addr) (n c : Nat) (ys : List (Int × Int)) (w : World) (hr : YL w A n ys) (hn : n ≤ maxLen) :
    Calls Tryd.prog 30 #[.slice A n c] w (RCovPost w ys) := by
  have hl := hr.1
  by_cases h64 : 64 < n
  · refine (rcover_full A n c w h64 hn).mono ?_
    rintro e w' ⟨rfl, rfl⟩
    exact ⟨_, _, _, [], 6, rfl, yl_nil _ _, by simp [maxLen], Below.refl _ _, Or.inl ⟨by omega, rfl, rfl⟩⟩
  · rcases Bool.eq_false_or_eq_true (badY ys) with hb | hb
    · refine (rcover_bad A n c ys w hr (by omega) hb).mono ?_
      rintro e w' ⟨rfl, hB⟩
      exact ⟨_, _, _, [], 1, rfl, yl_nil _ _, by simp [maxLen], hB, Or.inr (Or.inl ⟨by omega, hb, rfl, rfl⟩)⟩
    · refine (rcover_ok A n c ys w hr (by omega) hb).mono ?_
      rintro e w' ⟨v', cov, rfl, ho, hcv, hB⟩
      obtain ⟨X, d, rfl, h1, h2, hy⟩ := own_yl ho
      exact ⟨_, _, _, cov, 0, rfl, hy, Nat.le_trans h1 h2, hB, Or.inr (Or.inr ⟨by omega, hb, rfl, hcv.sep, covR_end hcv hb⟩)⟩
end Go.Proofs.YtihadabaehcmiaaDoor
