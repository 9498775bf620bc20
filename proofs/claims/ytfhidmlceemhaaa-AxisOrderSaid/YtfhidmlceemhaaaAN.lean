/- Mathematics of die axes: turned lists, other orders, the middle of an arc. -/
import Derived.Test.YtfhidmlceemhaaaAM
namespace Go.Proofs.Ytfhidmlceemhaaa
open Go Go.RowKit Go.Lib
namespace AM
/-- all hours turned -/
def rotX (l : List Int) (n : Int) : List Int := l.map (fun x => (x + n) % 12)
theorem rotX_len (l : List Int) (n : Int) : (rotX l n).length = l.length := by unfold rotX; rw [List.length_map]
theorem rotX_all (l : List Int) (n : Int) : (rotX l n).all hrX = true := by
  rw [List.all_eq_true]
  intro x hx
  unfold rotX at hx
  obtain ⟨y, _, rfl⟩ := List.mem_map.1 hx
  exact hrX_iff.2 (by omega)
theorem rotX_chk {l : List Int} (h : chkX l = 0) (n : Int) : chkX (rotX l n) = 0 := chkX_ok.2 ⟨by rw [rotX_len]; exact (chkX_ok.1 h).1, rotX_all l n⟩
theorem rotX_chkS {l : List Int} (h : chkX l = 0) (n : Int) : chkSX (rotX l n) = chkSX l := by
  unfold chkSX
  rw [h, rotX_chk h n]
  by_cases hl : l = []
  · subst hl; rfl
  · rw [if_neg hl, if_neg]
    intro e
    exact hl (List.eq_nil_of_length_eq_zero (by rw [← rotX_len l n, e]; rfl))
theorem rotX_chkD {l : List Int} (h : chkX l = 0) (n k : Int) : chkDX (rotX l n) k = chkDX l k := by
  unfold chkDX
  rw [h, rotX_chk h n]
theorem rotX_ins (l : List Int) (n j k : Int) : insX (rotX l n) ((j + n) % 12) k = insX l j k := by
  unfold insX rotX
  rw [List.countP_map]
  congr 1
  funext x
  show decide (((x + n) % 12 - (j + n) % 12) % 12 < k) = _
  rw [show ((x + n) % 12 - (j + n) % 12) % 12 = (x - j) % 12 by omega]
theorem rotX_ins' (l : List Int) (n j k : Int) (hj : 0 ≤ j ∧ j < 12) : insX (rotX l n) j k = insX l ((j - n) % 12) k := by
  rw [← rotX_ins l n ((j - n) % 12) k]
  rw [show ((j - n) % 12 + n) % 12 = j by omega]
/-- a number as an hour -/
theorem hour_nat (a : Int) : ∃ m : Nat, m < 12 ∧ a % 12 = (m : Int) := ⟨(a % 12).toNat, by omega, by omega⟩
theorem rot_arc {l : List Int} {n : Int} {h a h' b : Nat} (p : ArcP l h a) (q : ArcP (rotX l n) h' b) : a = b := by
  obtain ⟨a1, a2, a3, a4, a5, a6, a7⟩ := p
  obtain ⟨b1, b2, b3, b4, b5, b6, b7⟩ := q
  obtain ⟨m, hm, em⟩ := hour_nat ((h : Int) + n)
  obtain ⟨m', hm', em'⟩ := hour_nat ((h' : Int) - n)
  rcases Nat.lt_trichotomy a b with hlt | he | hgt
  · refine absurd ?_ (b7 a m a1 hlt hm)
    rw [← em, rotX_ins, rotX_len]; exact a4
  · exact he
  · refine absurd ?_ (a7 b m' b1 hgt hm')
    rw [← em', ← rotX_ins' l n h' b (by omega), ← rotX_len l n]; exact b4
theorem rot_den {l : List Int} {n : Int} {k h a h' b : Nat} (p : DenP l k h a) (q : DenP (rotX l n) k h' b) : a = b := by
  obtain ⟨m, hm, em⟩ := hour_nat ((h : Int) + n)
  obtain ⟨m', hm', em'⟩ := hour_nat ((h' : Int) - n)
  have h1 := (q.2.2 m hm).1
  have h2 := (p.2.2 m' hm').1
  have e1 := p.2.1
  have e2 := q.2.1
  simp only at h1 h2 e1 e2
  rw [← em, rotX_ins, ← e1] at h1
  rw [← em', ← rotX_ins' l n h' k (by have := q.1; omega), ← e2] at h2
  omega
theorem dsX_rot {h x n : Int} (h1 : 0 ≤ h ∧ h < 12) (h2 : 0 ≤ x ∧ x < 12) : dsX ((h + n) % 12) ((x + n) % 12) = dsX h x := by
  rw [dsX_mod ⟨h1, h2⟩, dsX_mod ⟨by omega, by omega⟩]
  rw [show ((h + n) % 12 - (x + n) % 12) % 12 = (h - x) % 12 by omega]
theorem rot_sd {h m : Nat} (hh : h < 12) {n : Int} (em : ((h : Int) + n) % 12 = (m : Int)) : ∀ (l : List Int), l.all hrX = true → sdX (rotX l n) m = sdX l h
  | [], _ => rfl
  | x :: l, hl => by
    rw [List.all_cons, Bool.and_eq_true, hrX_iff] at hl
    show sdX ((x + n) % 12 :: rotX l n) m = _
    rw [sdX_cons, sdX_cons, rot_sd hh em l hl.2, ← em, dsX_rot (by omega) hl.1]
theorem rot_med {l : List Int} (hl : l.all hrX = true) {n : Int} {h a h' b : Nat} (p : MedP l h a) (q : MedP (rotX l n) h' b) : a = b := by
  obtain ⟨m, hm, em⟩ := hour_nat ((h : Int) + n)
  obtain ⟨m', hm', em'⟩ := hour_nat ((h' : Int) - n)
  have h1 := (q.2.2 m hm).1
  have h2 := (p.2.2 m' hm').1
  have e1 := p.2.1
  have e2 := q.2.1
  rw [rot_sd p.1 em l hl, ← e1] at h1
  rw [← rot_sd (m := h') hm' (n := n) (by have := q.1; omega) l hl, ← e2] at h2
  omega
theorem rot_near {h m : Nat} (hh : h < 12) {n : Int} (em : ((h : Int) + n) % 12 = (m : Int)) (t : Int) : ∀ (l : List Int), l.all hrX = true → nearX (rotX l n) m t = nearX l h t
  | [], _ => rfl
  | x :: l, hl => by
    rw [List.all_cons, Bool.and_eq_true, hrX_iff] at hl
    have ih := rot_near hh em t l hl.2
    unfold nearX at ih ⊢
    show List.all ((x + n) % 12 :: rotX l n) _ = _
    rw [List.all_cons, List.all_cons, ih, ← em, dsX_rot (by omega) hl.1]
theorem fixX_iff {l : List Int} {t : Int} : fixX l t = true ↔ (chkSX l = 0 ∧ 0 ≤ t ∧ t ≤ 6) ∧ ∃ h, h < 12 ∧ nearX l h t = true := by
  unfold fixX
  rw [Bool.and_eq_true, decide_eq_true_iff, List.any_eq_true]
  constructor
  · rintro ⟨h1, h, hm, h2⟩; exact ⟨h1, h, List.mem_range.1 hm, h2⟩
  · rintro ⟨h1, h, hm, h2⟩; exact ⟨h1, h, List.mem_range.2 hm, h2⟩
theorem rot_fix {l : List Int} (hc : chkX l = 0) (n t : Int) : fixX (rotX l n) t = fixX l t := by
  have hl := (chkX_ok.1 hc).2
  rw [Bool.eq_iff_iff, fixX_iff, fixX_iff, rotX_chkS hc]
  constructor
  · rintro ⟨h1, h, hh, h2⟩
    obtain ⟨m, hm, em⟩ := hour_nat ((h : Int) - n)
    refine ⟨h1, m, hm, ?_⟩
    rwa [← rot_near hm (n := n) (m := h) (by omega) t l hl]
  · rintro ⟨h1, h, hh, h2⟩
    obtain ⟨m, hm, em⟩ := hour_nat ((h : Int) + n)
    refine ⟨h1, m, hm, ?_⟩
    rwa [rot_near hh em t l hl]
theorem rot_ct {o m : Nat} (ho : o < 12) {n : Int} (em : ((o : Int) + n) % 12 = (m : Int)) : ∀ (l : List Int), l.all hrX = true → ctX (rotX l n) m = ctX l o
  | [], _ => rfl
  | x :: l, hl => by
    rw [List.all_cons, Bool.and_eq_true, hrX_iff] at hl
    show ctX ((x + n) % 12 :: rotX l n) m = _
    rw [ctX_cons, ctX_cons, rot_ct ho em l hl.2]
    by_cases h : x = (o : Int)
    · rw [if_pos h, if_pos (by omega)]
    · rw [if_neg h, if_neg (by omega)]
theorem rot_back {n : Int} : ∀ (l : List Int), l.all hrX = true → rotX (rotX l n) (-(n % 12)) = l
  | [], _ => rfl
  | x :: l, hl => by
    rw [List.all_cons, Bool.and_eq_true, hrX_iff] at hl
    show ((x + n) % 12 + -(n % 12)) % 12 :: rotX (rotX l n) (-(n % 12)) = _
    rw [rot_back l hl.2]
    congr 1
    omega
/-- an order of the same elements -/
theorem perm_chk {l m : List Int} (p : l.Perm m) : chkX m = chkX l := by
  unfold chkX
  rw [p.length_eq]
  have : l.all hrX = m.all hrX := by
    rw [Bool.eq_iff_iff, List.all_eq_true, List.all_eq_true]
    exact ⟨fun h x hx => h x (p.mem_iff.2 hx), fun h x hx => h x (p.mem_iff.1 hx)⟩
  rw [this]
theorem perm_chkS {l m : List Int} (p : l.Perm m) : chkSX m = chkSX l := by
  unfold chkSX
  rw [perm_chk p]
  by_cases hl : l = []
  · subst hl
    have e := List.Perm.nil_eq p
    subst e
    rfl
  · rw [if_neg hl, if_neg]
    intro e
    subst e
    exact hl (List.Perm.eq_nil p)
theorem perm_chkD {l m : List Int} (p : l.Perm m) (k : Int) : chkDX m k = chkDX l k := by
  unfold chkDX
  rw [perm_chk p]
theorem perm_ins {l m : List Int} (p : l.Perm m) (h k : Int) : insX m h k = insX l h k := by
  unfold insX
  exact (p.countP_eq _).symm
theorem perm_sd {l m : List Int} (p : l.Perm m) (h : Nat) : sdX m h = sdX l h := by
  unfold sdX
  exact ((p.map _).sum_nat).symm
theorem perm_near {l m : List Int} (p : l.Perm m) (h : Nat) (t : Int) : nearX m h t = nearX l h t := by
  unfold nearX
  rw [Bool.eq_iff_iff, List.all_eq_true, List.all_eq_true]
  exact ⟨fun h x hx => h x (p.mem_iff.1 hx), fun h x hx => h x (p.mem_iff.2 hx)⟩
theorem perm_fix {l m : List Int} (p : l.Perm m) (t : Int) : fixX m t = fixX l t := by
  unfold fixX
  rw [perm_chkS p]
  congr 2
  funext h
  exact perm_near p h t
theorem perm_arc {l m : List Int} (p : l.Perm m) {h a : Nat} (q : ArcP m h a) : ArcP l h a := by
  unfold ArcP at *
  simp only [perm_ins p, ← p.length_eq] at q
  exact q
theorem perm_den {l m : List Int} (p : l.Perm m) {k h a : Nat} (q : DenP m k h a) : DenP l k h a := MaxP.congr q fun _ _ => perm_ins p _ _
theorem perm_med {l m : List Int} (p : l.Perm m) {h a : Nat} (q : MedP m h a) : MedP l h a := MinP.congr q fun _ _ => perm_sd p _
/-- the middle of an arc -/
theorem arc_fix {l : List Int} (hc : chkSX l = 0) {h k : Nat} (p : ArcP l h k) {t : Int} (h0 : 0 ≤ t) (h6 : t ≤ 6) : fixX l t = decide ((k : Int) ≤ 2 * t + 1) := by
  have hl := (chkX_ok.1 (chkSX_ok.1 hc).2).2
  rw [List.all_eq_true] at hl
  obtain ⟨a1, a2, a3, a4, a5, a6, a7⟩ := p
  rw [Bool.eq_iff_iff, fixX_iff, decide_eq_true_iff]
  constructor
  · rintro ⟨_, c, hc12, hn⟩
    rcases Int.le_total 11 (2 * t) with h11 | h11
    · omega
    · refine Int.not_lt.1 fun hlt => ?_
      obtain ⟨m, hm, em⟩ := hour_nat ((c : Int) - t)
      obtain ⟨q, hq⟩ : ∃ q : Nat, (q : Int) = 2 * t + 1 := ⟨(2 * t + 1).toNat, by omega⟩
      refine a7 q m (by omega) (by omega) hm (insX_all.2 fun x hx => ?_)
      unfold nearX at hn
      rw [List.all_eq_true] at hn
      have h1 := hn x hx
      have h2 := hrX_iff.1 (hl x hx)
      rw [decide_eq_true_iff, dsX_mod ⟨by omega, h2⟩] at h1
      omega
  · intro hle
    refine ⟨⟨hc, h0, h6⟩, ?_⟩
    obtain ⟨m, hm, em⟩ := hour_nat ((h : Int) + t)
    refine ⟨m, hm, ?_⟩
    unfold nearX
    rw [List.all_eq_true]
    intro x hx
    have h1 := insX_all.1 a4 x hx
    have h2 := hrX_iff.1 (hl x hx)
    rw [decide_eq_true_iff, dsX_mod ⟨by omega, h2⟩]
    omega
/-- what the densest of an arc's hours, and of one hour less, are -/
theorem arc_most {l : List Int} {h k h' m : Nat} (p : ArcP l h k) (q : DenP l k h' m) : m = l.length := by
  obtain ⟨a1, a2, a3, a4, a5, a6, a7⟩ := p
  have h1 := (q.2.2 h a3).1
  have h2 := q.2.1
  simp only at h1 h2
  rw [a4] at h1
  have := insX_le l (h' : Int) (k : Int)
  omega
theorem arc_less {l : List Int} {h k h' m : Nat} (p : ArcP l h k) (hk : 1 < k) (q : DenP l (k - 1) h' m) : m ≠ l.length := by
  obtain ⟨a1, a2, a3, a4, a5, a6, a7⟩ := p
  have h2 := q.2.1
  simp only at h2
  rw [h2]
  exact a7 (k - 1) h' (by omega) (by omega) q.1
theorem swap_permX {us : List Int} {i j : Nat} {x y : Int} (hi : us[i]? = some x) (hj : us[j]? = some y) : ((us.set i y).set j x).Perm us := by
  obtain ⟨hi', e1⟩ := List.getElem?_eq_some_iff.1 hi
  obtain ⟨hj', e2⟩ := List.getElem?_eq_some_iff.1 hj
  subst e1
  subst e2
  exact List.set_set_perm hi' hj'
end AM
end Go.Proofs.Ytfhidmlceemhaaa
