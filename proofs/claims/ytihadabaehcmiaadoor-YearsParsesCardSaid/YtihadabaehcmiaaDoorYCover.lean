/- years.Cover. -/
import Derived.Test.YtihadabaehcmiaaDoorYSort
import Derived.Test.YtihadabaehcmiaaDoorYMath
import Derived.Deep.RegionLaw
import Derived.RegionTactic
import Derived.ChangeAlike
import Derived.BigRegion
import Derived.Deep.DeepMust
namespace Go.Proofs.YtihadabaehcmiaaDoor
open Go Go.RowKit Go.Lib

theorem ret_pair {v : Value} {n : Int} {e : Ending} (h : e = .returned (.tuple #[v, .int .i64 n])) : e = .returned (.tuple #[v, .int .i64 n]) := h
theorem YL.grown {w w' : World} {g b : Nat} {n : Nat} {ys : List (Int × Int)} (h : YL w (some ⟨g, 0, none⟩) n ys) (hg : w.grownBy w' (some b)) (hne : g ≠ b) : YL w' (some ⟨g, 0, none⟩) n ys :=
  ⟨h.1, fun hn => by
    obtain ⟨b', o, e, hl, hc⟩ := h.2 hn
    injection e with e
    injection e with e1 e2
    subst e1
    subst e2
    exact ⟨_, _, rfl, Nat.lt_of_lt_of_le hl hg.size, fun j u hu => hg.cell (a := ⟨g, 0 + j, none⟩) (hc j u hu) (by simpa using hne)⟩⟩
theorem YL.lt_ {w : World} {g n : Nat} {ys : List (Int × Int)} (h : YL w (some ⟨g, 0, none⟩) n ys) : 0 < n → g < w.heap.size := fun hn => by
  obtain ⟨b, o, e, hl, _⟩ := h.2 hn
  injection e with e
  injection e with e1
  rw [e1]
  exact hl
theorem OwnY.at_ {w : World} {base g n c : Nat} {ys : List (Int × Int)} (h : OwnY w base (.slice (some ⟨g, 0, none⟩) n c) ys) {j : Nat} {y : Int × Int} (hj : ys[j]? = some y) : w.cell? ⟨g, j * 2, none⟩ = some (.int .i64 y.1) ∧ w.cell? ⟨g, j * 2 + 1, none⟩ = some (.int .i64 y.2) ∧ w.frozen? ⟨g, j * 2 + 1, none⟩ = false := by
  have hl := (List.getElem?_eq_some_iff.1 hj).1
  have hn : n = ys.length := by
    rcases h.2 with ⟨e, _⟩ | ⟨_, _, _, e, _⟩
    · cases e
    · injection e
  subst hn
  have := flatY_at ys j y hj
  have c1 := World.ownsRow.cellAt h (j * 2) (by omega)
  have c2 := World.ownsRow.cellAt h (j * 2 + 1) (by omega)
  exact ⟨c1.trans this.1, c2.trans this.2, World.ownsRow.frozenAt h _⟩

theorem OwnY.keep {w w' : World} {base : Nat} {v : Value} {ys : List (Int × Int)} (h : OwnY w base v ys) (hb : Below w.heap.size w w') : OwnY w' base v ys :=
  World.ownsRow.kept (row := none) h ⟨hb.os, hb.tape, hb.output, hb.size, fun i hi _ => hb.block i hi⟩ (by cases hv : v.ownBlock <;> simp)
theorem own_keep {w w' : World} {base size n : Nat} {e : TypeId} {v : Value} {xs : List Value} (h : w.ownsRow base e size v n xs) (hb : Below w.heap.size w w') : w'.ownsRow base e size v n xs :=
  World.ownsRow.kept (row := none) h ⟨hb.os, hb.tape, hb.output, hb.size, fun i hi _ => hb.block i hi⟩ (by cases hv : v.ownBlock <;> simp)
theorem enc_one (y : Int × Int) : ∀ u ∈ encY y, u.oneCell' = true := fun u hu => by
  simp [encY] at hu
  rcases hu with rfl | rfl <;> rfl
theorem add_at (g j : Nat) : (⟨g, 0, none⟩ : Addr).add j = ⟨g, j, none⟩ := by
  unfold Addr.add
  split
  · rename_i h; subst h; rfl
  · simp
theorem enc_new {W w : World} {g : Nat} {t : TypeId} (y : Int × Int) (hh : W.heap = (w.alloc (.cells #[.int .i64 y.1, .int .i64 y.2] t)).heap) (hg : g = w.heap.size) : ∀ j u, (encY y)[j]? = some u → W.cell? ((⟨g, 0, none⟩ : Addr).add j) = some u := by
  subst hg
  intro j u hu
  rw [add_at]
  have hb := Box.new w #[.int .i64 y.1, .int .i64 y.2] t
  have := hb.at_ j
  unfold World.cell? at this ⊢
  rw [hh]
  rw [this]
  simpa [encY] using hu
/-- what holds at the head of a round: k years of zs are covered by cov -/
def CovIn (B : Nat) (w0 : World) (g : Nat) (n : Nat) (zs : List (Int × Int)) (v i : Value) (wr : World) : Prop :=
  ∃ (k : Nat) (cov : List (Int × Int)) (h c : Nat), k ≤ n ∧ i = .int .i64 k ∧ v = .slice (some ⟨h, 0, none⟩) cov.length c ∧ g < h ∧ OwnY wr B v cov ∧ cov.length ≤ k ∧ CovI (zs.take k) cov ∧ YL wr (some ⟨g, 0, none⟩) n zs ∧ Below w0.heap.size w0 wr

theorem step_new {B : Nat} {w0 : World} {g n : Nat} {zs : List (Int × Int)} {k : Nat} {cov : List (Int × Int)} {h m : Nat} {wr W' w5 : World} {v' : Value} {y : Int × Int} (hk : k < n) (hy : zs[k]? = some y) (hcv : CovI (zs.take k) cov) (hv : -9999 ≤ y.1 ∧ y.1 ≤ y.2 ∧ y.2 ≤ 9999) (hl : ∀ x ∈ cov, x.2 + 1 < y.1)
    (hz : YL wr (some ⟨g, 0, none⟩) n zs) (hB : Below w0.heap.size w0 wr) (hB' : Below wr.heap.size wr W') (hm : m = cov.length + 1) (hlc : cov.length ≤ k) (ho : w5.ownsRow B 23 2 v' m (flatY cov ++ encY y)) (hgr : W'.grownBy w5 (some h)) (hgB : g < B) (hgh : g < h) (hwB : w0.heap.size ≤ h) (hv' : v' ≠ .slice none 0 0) : CovIn B w0 g n zs v' (.int .i64 ((k : Int) + 1)) w5 := by
  subst hm
  obtain ⟨h', c', cur, e, hb, -, -, -, -, -⟩ := ho.2.resolve_left fun ⟨x, _⟩ => hv' x
  subst e
  have ht := take_snoc zs k y hy
  refine ⟨k + 1, cov ++ [y], h', c', hk, by go_num, by simp, by omega, ?_, by simp; omega, by rw [ht]; exact cov_new hcv y hv hl, ?_, ?_⟩
  · unfold OwnY
    rw [flatY_app, List.length_append]
    exact ho
  · exact (hz.keep hB').grown hgr (by omega)
  · exact below_only (hB.trans (hB'.mono hB.size)) hgr (by have := hB.size; have := hB'.size; omega) hwB

theorem flatY_set (c : List (Int × Int)) (z : Int × Int) (b : Int) : (flatY (c ++ [z])).set (c.length * 2 + 1) (.int .i64 b) = flatY (c ++ [(z.1, b)]) := by
  rw [flatY_app, flatY_app, List.set_append, if_neg (by rw [flatY_len]; omega), flatY_len, show c.length * 2 + 1 - c.length * 2 = 1 from by omega]
  rfl
theorem own_base {w : World} {b b' : Nat} {v : Value} {ys : List (Int × Int)} (h : OwnY w b v ys) (hb : b' ≤ b) : OwnY w b' v ys := by
  refine ⟨h.1, ?_⟩
  rcases h.2 with h | ⟨g, c, cur, e, hg, r⟩
  · exact Or.inl h
  · exact Or.inr ⟨g, c, cur, e, Nat.le_trans hb hg, r⟩
theorem cov_perm {zs ys cov : List (Int × Int)} (h : CovI zs cov) (hp : zs.Perm ys) : CovI ys cov :=
  ⟨h.sep, fun m => (h.on m).trans (on_perm hp m), (fun x hx => by obtain ⟨u, hu, e⟩ := h.src x hx; exact ⟨u, hp.mem_iff.1 hu, e⟩), h.bnd⟩
theorem asc_last {zs : List (Int × Int)} {k : Nat} {c0 : List (Int × Int)} {z y : Int × Int} (ha : Asc zs) (hy : zs[k]? = some y) (hcv : CovI (zs.take k) (c0 ++ [z])) : z.1 ≤ y.1 := by
  obtain ⟨u, hu, e⟩ := hcv.src z (by simp)
  obtain ⟨i, hi, e2⟩ := List.getElem_of_mem hu
  have hik : i < k := by simp at hi; omega
  have h1 : zs[i]? = some u := by
    have := List.getElem?_eq_getElem hi
    rw [e2, List.getElem?_take_of_lt hik] at this
    exact this
  have := ha i k u y hik h1 hy
  omega
theorem step_join {B : Nat} {w0 : World} {g n : Nat} {zs : List (Int × Int)} {k : Nat} {c0 : List (Int × Int)} {z : Int × Int} {h cc : Nat} {wr w5 : World} {y : Int × Int} {b : Int} (hk : k < n) (hy : zs[k]? = some y) (ha : Asc zs) (hcv : CovI (zs.take k) (c0 ++ [z])) (hv : -9999 ≤ y.1 ∧ y.1 ≤ y.2 ∧ y.2 ≤ 9999) (hj : y.1 ≤ z.2 + 1) (hb : b = max z.2 y.2)
    (hz : YL wr (some ⟨g, 0, none⟩) n zs) (hB : Below w0.heap.size w0 wr) (hlc : (c0 ++ [z]).length ≤ k) (ho : OwnY wr B (.slice (some ⟨h, 0, none⟩) (c0 ++ [z]).length cc) (c0 ++ [z])) (hgh : g < h) (hwB : w0.heap.size ≤ h) (hw : Below (wr.setCell ⟨h, c0.length * 2 + 1, none⟩ (.int .i64 b)).heap.size (wr.setCell ⟨h, c0.length * 2 + 1, none⟩ (.int .i64 b)) w5) : CovIn B w0 g n zs (.slice (some ⟨h, 0, none⟩) (c0.length + 1) cc) (.int .i64 ((k : Int) + 1)) w5 := by
  have ht := take_snoc zs k y hy
  have hs := World.ownsRow.stored ho (c0.length * 2 + 1) (.int .i64 b)
  rw [flatY_set] at hs
  refine ⟨k + 1, c0 ++ [(z.1, b)], h, cc, hk, by go_num, by simp, hgh, ?_, by simp at hlc ⊢; omega, by rw [ht]; exact cov_join hcv y hv (asc_last ha hy hcv) hj b hb, (hz.grown hs.2 (by omega)).keep hw, ?_⟩
  · have h1 := own_keep hs.1 hw
    unfold OwnY
    rw [List.length_append] at h1 ⊢
    exact h1
  · exact (below_only hB hs.2 hB.size hwB).trans (hw.mono (Nat.le_trans hB.size hs.2.size))

set_option maxHeartbeats 4000000 in
set_option maxRecDepth 100000 in
theorem cover_yes (A : Option Addr) (n c : Nat) (ys : List (Int × Int)) (w : World) (hr : YL w A n ys) (hn : 0 < n) (hm : n ≤ 64) (hv : badY ys = false) :
    Calls Tryd.prog 29 #[.slice A n c] w fun e w' => ∃ v' cov, e = .returned (.tuple #[v', .int .i64 0]) ∧ OwnY w' w.heap.size v' cov ∧ cov.length ≤ n ∧ CovI ys cov ∧ Below w.heap.size w w' := by
  have d64 : decide ((64 : Int) < (n : Int)) = false := decide_eq_false (by omega)
  have HV := hide hv
  have hyb : ∀ y ∈ ys, -9999 ≤ y.1 ∧ y.1 ≤ y.2 ∧ y.2 ≤ 9999 := by
    intro y hy
    unfold badY at hv
    rw [List.any_eq_false] at hv
    have := hv y hy
    simp at this
    exact yB_true.1 this
  have HYB := hide hyb
  clear hv hyb
  go_enter Tryd.func29, Tryd.ntmps29
  go_wp2_with fail
  refine (contains_v A n c ys _ hr hn (by unfold maxLen; omega) false HV.out).mono ?_
  rintro e w1 ⟨rfl, hb1⟩
  have hr1 := hr.keep hb1
  clear hr
  go_wp2_with fail
  refine (clone_any A n c ys _ hr1 hn (by omega)).mono ?_
  rintro e w2 ⟨g, d, rfl, hg, ho2, hnd, hdm, hb2⟩
  clear hr1
  have hly : ys.length = n := by
    rcases ho2.2 with ⟨e, _⟩ | ⟨_, _, _, e, _⟩
    · cases e
    · injection e with _ e _; exact e.symm
  subst hly
  have hs1 := hb1.size
  go_wp2_with fail
  refine (sort_any g d ys _ _ ho2 (fun y hy => by have := HYB.out y hy; omega) (by omega)).mono ?_
  rintro e w3 ⟨rfl, zs, hp, ha, hz, hgr⟩
  have hB3 : Below w.heap.size w w3 := below_only (hb1.trans (hb2.mono hs1)) hgr (by have := hb2.size; omega) (by omega)
  have HP := hide hp
  have HA := hide ha
  clear hp ha hb1 hb2
  obtain ⟨i0, hi, hz0, hz1, hz2⟩ := info_parts infoY
  have Hz0 := hide hz0
  have Hz1 := hide hz1
  have Hz2 := hide hz2
  have Hi := hide hi
  clear hz0 hz1 hz2 hi
  go_wp2_with (at_make; refine wpList_make_own _ rfl _ _ 42 rfl w3.heap.size 23 i0 _ 2 Tryd.underlying42 Hi.out Hz0.out Hz1.out .i64 .i64 _ ys.length rfl rfl rfl (by rw [Hz2.out]; omega) (by unfold maxLen; omega) (Nat.le_refl _) ?_; intro w4 ho4 hg4)
  have hgl : g < w3.heap.size := Nat.lt_of_lt_of_le (World.ownsRow.lt ho2 g rfl).2 hgr.size
  have hz4 : YL w4 (some ⟨g, 0, none⟩) ys.length zs := hz.keep ⟨hg4.os, hg4.tape, hg4.output, hg4.size, fun k hk => hg4.block k hk (by simp)⟩
  have hB4 : Below w.heap.size w w4 := hB3.trans ⟨hg4.os, hg4.tape, hg4.output, hg4.size, fun k hk => hg4.block k (Nat.lt_of_lt_of_le hk hB3.size) (by simp)⟩
  have HHG := hide hgl
  have hB3s := hB3.size
  clear ho2 hz hgr hg4 hB3 hgl
  go_loopw [5, 23] (fun v i wr => CovIn w3.heap.size w g ys.length zs v i wr) (fun _ i _ => ys.length - (intOf i).toNat)
  case atStart => exact ⟨0, [], _, _, Nat.zero_le _, rfl, rfl, HHG.out, ho4, Nat.le_refl _, cov_nil, hz4, hB4⟩
  case round =>
    obtain ⟨k, cov, h, cc, hk, rfl, rfl, hgh, ho, hlc, hcv, hzr, hB⟩ := hrel
    by_cases hlt : k < ys.length
    · obtain ⟨b, o, y, e, hbl, hy, c1, c2⟩ := hzr.at_ hlt
      injection e with e
      injection e with e1 e2
      subst e1
      subst e2
      simp only [Nat.zero_add] at c1 c2
      have hyk := HYB.out y (HP.out.mem_iff.1 (List.mem_of_getElem? hy))
      obtain ⟨y1, y2, y3⟩ := hyk
      have hzk := hzr.lt_
      have hts := take_snoc zs k y hy
      have HTS := hide hts
      have HCV := hide hcv
      have HZR := hide hzr
      have HO := hide ho
      have HBB := hide hB
      have hBs := hB.size
      have hhl := (World.ownsRow.lt ho h rfl).2
      have hw3 : w3.heap.size ≤ wr.heap.size := by have := (World.ownsRow.lt ho h rfl).1; omega
      have hwh : w.heap.size ≤ h := by have := (World.ownsRow.lt ho h rfl).1; omega
      have hgw : g < wr.heap.size := by omega
      clear hts hcv hzr ho hB
      rcases List.eq_nil_or_concat cov with rfl | ⟨c0, z, hcz⟩
      · go_wp2_with fail
        go_region
        go_wp2_with (at_builtin; refine wpList_append_own _ rfl _ _ 42 rfl w3.heap.size 23 i0 _ 2 16 Tryd.underlying42 Hi.out Hz0.out Hz1.out Hz2.out rfl (by decide) _ 0 (flatY []) rfl (HO.out.keep (by first | exact (below_drewN ((Below.refl _ _).alloc (Nat.le_refl _) _) _).alloc (by simp) _ | exact ((Below.refl _ _).alloc (Nat.le_refl _) _).alloc (by simp) _ | exact (((Below.refl _ _).alloc (Nat.le_refl _) _).drew).alloc (by simp) _)) _ 1 1 (encY y) rfl rfl ?c1 ?c2 ?c3 ?c4 ?c5 ?_)
        case c1 => exact enc_new y rfl (by simp)
        case c2 => exact enc_one y
        case c3 => unfold maxLen; simp <;> omega
        case c4 => simp <;> omega
        case c5 => simp; omega
        intro v' w5 ho5 hgr5 _
        go_wp2_with fail
        go_roundw
        case rel => exact step_new hlt hy HCV.out ⟨y1, y2, y3⟩ (fun x hx => by cases hx) HZR.out HBB.out (by first | exact (below_drewN ((Below.refl _ _).alloc (Nat.le_refl _) _) _).alloc (by simp) _ | exact ((Below.refl _ _).alloc (Nat.le_refl _) _).alloc (by simp) _ | exact (((Below.refl _ _).alloc (Nat.le_refl _) _).alloc (by simp) _).drew | exact (((Below.refl _ _).alloc (Nat.le_refl _) _).drew).alloc (by simp) _) rfl (Nat.zero_le _) ho5 hgr5 HHG.out hgh (by omega) (by assumption)
        case measure => simp [intOf]; omega
      · rw [List.concat_eq_append] at hcz
        subst hcz
        have hc0 : c0.length < 64 := by simp at hlc; omega
        obtain ⟨q1, q2, q3⟩ := HO.out.at_ (j := c0.length) (y := z) (by simp)
        have hbz := HCV.out.bnd z (by simp)
        obtain ⟨b1, b2⟩ := hbz
        have hsz := sep_le HCV.out.sep z (by simp)
        by_cases hj : y.1 ≤ z.2 + 1
        · have dj : decide (y.1 ≤ z.2 + 1) = true := decide_eq_true hj
          go_wp2_with fail
          go_region
          go_wp2_with fail
          go_region
          go_wp2_with fail
          go_roundw
          case rel => exact step_join hlt hy HA.out HCV.out ⟨y1, y2, y3⟩ hj rfl HZR.out HBB.out hlc HO.out hgh (by omega) (((Below.refl _ _).alloc (Nat.le_refl _) _).drew.drew)
          case measure => simp [intOf]; omega
        · have dj : decide (y.1 ≤ z.2 + 1) = false := decide_eq_false hj
          have HO2 := hide (show wr.ownsRow w3.heap.size 23 2 (.slice (some ⟨h, 0, none⟩) (c0.length + 1) cc) (c0.length + 1) (flatY (c0 ++ [z])) from by have := HO.out; unfold OwnY at this; rw [List.length_append] at this; exact this)
          go_wp2_with fail
          go_region
          go_wp2_with (at_builtin; refine wpList_append_own _ rfl _ _ 42 rfl w3.heap.size 23 i0 _ 2 16 Tryd.underlying42 Hi.out Hz0.out Hz1.out Hz2.out rfl (by decide) _ (c0.length + 1) (flatY (c0 ++ [z])) rfl (own_keep HO2.out (by first | exact (below_drewN ((Below.refl _ _).alloc (Nat.le_refl _) _) _).alloc (by simp) _ | exact ((Below.refl _ _).alloc (Nat.le_refl _) _).alloc (by simp) _ | exact (((Below.refl _ _).alloc (Nat.le_refl _) _).alloc (by simp) _).drew | exact (((Below.refl _ _).alloc (Nat.le_refl _) _).drew).alloc (by simp) _)) _ 1 1 (encY y) rfl rfl ?c1 ?c2 ?c3 ?c4 ?c5 ?_)
          case c1 => exact enc_new y rfl (by simp)
          case c2 => exact enc_one y
          case c3 => unfold maxLen; omega
          case c4 => omega
          case c5 => simp; omega
          intro v' w5 ho5 hgr5 _
          go_wp2_with fail
          go_roundw
          case rel => exact step_new hlt hy HCV.out ⟨y1, y2, y3⟩ (fun x hx => by have := (sep_app _ _).1 HCV.out.sep; rcases List.mem_append.1 hx with hx | hx; (have := this.2.1 x hx; omega); (rw [List.mem_singleton] at hx; subst hx; omega)) HZR.out HBB.out (by first | exact (below_drewN ((Below.refl _ _).alloc (Nat.le_refl _) _) _).alloc (by simp) _ | exact ((Below.refl _ _).alloc (Nat.le_refl _) _).alloc (by simp) _ | exact (((Below.refl _ _).alloc (Nat.le_refl _) _).alloc (by simp) _).drew | exact (((Below.refl _ _).alloc (Nat.le_refl _) _).drew).alloc (by simp) _) (by simp) hlc ho5 hgr5 HHG.out hgh (by omega) (by assumption)
          case measure => simp [intOf]; omega
    · obtain rfl : k = ys.length := by omega
      have HCV := hide hcv
      have HZR := hide hzr
      have HO := hide ho
      have HBB := hide hB
      have hw3 : w.heap.size ≤ w3.heap.size := hB3s
      clear hcv hzr ho hB
      go_wp2_with fail
      go_ret2
      have hzl := HZR.out.1
      have hcv := HCV.out
      rw [← hzl, List.take_length] at hcv
      exact ⟨_, cov, rfl, own_base HO.out hw3, hlc, cov_perm hcv HP.out, HBB.out⟩
end Go.Proofs.YtihadabaehcmiaaDoor
