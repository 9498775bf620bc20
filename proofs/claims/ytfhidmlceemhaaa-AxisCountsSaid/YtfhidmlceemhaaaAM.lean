/- Mathematics of die axes: hours, counts, arcs, medians. -/
import Derived.Test.YtfhidmlceemhaaaIA
namespace Go.Proofs.Ytfhidmlceemhaaa
open Go Go.RowKit Go.Lib
namespace AM
/-- an hour -/
def hrX (x : Int) : Bool := decide (0 ≤ x) && decide (x < 12)
theorem hrX_iff {x : Int} : hrX x = true ↔ 0 ≤ x ∧ x < 12 := by unfold hrX; simp
theorem hrX_not {x : Int} : hrX x = false ↔ ¬ (0 ≤ x ∧ x < 12) := by rw [← hrX_iff]; simp
/-- the error of a list -/
def chkX (l : List Int) : Int := if 64 < l.length then 6 else if l.all hrX then 0 else 1
theorem chkX_full {l : List Int} (h : 64 < l.length) : chkX l = 6 := if_pos h
theorem chkX_arg {l : List Int} (h : l.length ≤ 64) (h2 : l.all hrX = false) : chkX l = 1 := by unfold chkX; rw [if_neg (by omega), h2]; rfl
theorem chkX_ok {l : List Int} : chkX l = 0 ↔ l.length ≤ 64 ∧ l.all hrX = true := by
  unfold chkX
  by_cases h : 64 < l.length
  · rw [if_pos h]; exact ⟨fun h => absurd h (by decide), fun h' => by omega⟩
  · rw [if_neg h]
    by_cases h2 : l.all hrX = true
    · rw [if_pos h2]; exact ⟨fun _ => ⟨by omega, h2⟩, fun _ => rfl⟩
    · rw [if_neg h2]; exact ⟨fun h => absurd h (by decide), fun h' => absurd h'.2 h2⟩
theorem chkX_cases (l : List Int) : chkX l = 0 ∨ chkX l = 6 ∨ chkX l = 1 := by
  unfold chkX
  split
  · exact .inr (.inl rfl)
  · split
    · exact .inl rfl
    · exact .inr (.inr rfl)
/-- the error of a list that must not be empty -/
def chkSX (l : List Int) : Int := if l = [] then 7 else chkX l
theorem chkSX_nil : chkSX [] = 7 := rfl
theorem chkSX_ne {l : List Int} (h : l ≠ []) : chkSX l = chkX l := if_neg h
theorem chkSX_ok {l : List Int} : chkSX l = 0 ↔ l ≠ [] ∧ chkX l = 0 := by
  unfold chkSX
  split
  · rename_i h; exact ⟨fun h => absurd h (by decide), fun h' => absurd h h'.1⟩
  · rename_i h; exact ⟨fun h' => ⟨h, h'⟩, fun h' => h'.2⟩
/-- the error of Densest -/
def chkDX (l : List Int) (k : Int) : Int := if chkX l = 0 then (if 1 ≤ k ∧ k ≤ 12 then 0 else 2) else chkX l
theorem all_at {l : List Int} (h : l.all hrX = true) {j : Nat} {x : Int} (hx : l[j]? = some x) : 0 ≤ x ∧ x < 12 := by
  rw [List.all_eq_true] at h
  exact hrX_iff.1 (h x (List.mem_of_getElem? hx))
theorem all_not {l : List Int} {j : Nat} {x : Int} (hx : l[j]? = some x) (h : ¬ (0 ≤ x ∧ x < 12)) : l.all hrX = false := by
  rw [List.all_eq_false]
  exact ⟨x, List.mem_of_getElem? hx, by rw [hrX_not.2 h]; decide⟩
theorem all_of {l : List Int} (h : ∀ (j : Nat) (x : Int), l[j]? = some x → 0 ≤ x ∧ x < 12) : l.all hrX = true := by
  rw [List.all_eq_true]
  intro x hx
  obtain ⟨j, hj⟩ := List.getElem?_of_mem hx
  exact hrX_iff.2 (h j x hj)
theorem take_next {α : Type} {l : List α} {k : Nat} {x : α} (h : l[k]? = some x) : l.take (k + 1) = l.take k ++ [x] := by
  rw [List.take_add_one, h]; rfl
/-- how often an hour occurs -/
def ctX (l : List Int) (h : Nat) : Nat := l.countP (fun x => x == (h : Int))
theorem ctX_le (l : List Int) (h : Nat) : ctX l h ≤ l.length := List.countP_le_length
theorem ctX_nil (h : Nat) : ctX [] h = 0 := rfl
theorem ctX_snoc (l : List Int) (x : Int) (h : Nat) : ctX (l ++ [x]) h = ctX l h + (if x = (h : Int) then 1 else 0) := by
  unfold ctX
  rw [List.countP_append, List.countP_singleton]
  simp
theorem ctX_cons (l : List Int) (x : Int) (h : Nat) : ctX (x :: l) h = ctX l h + (if x = (h : Int) then 1 else 0) := by
  unfold ctX
  rw [List.countP_cons]
  simp
/-- how many elements are within k hours from h on -/
def insX (l : List Int) (h k : Int) : Nat := l.countP (fun x => decide ((x - h) % 12 < k))
theorem insX_le (l : List Int) (h k : Int) : insX l h k ≤ l.length := List.countP_le_length
theorem insX_nil (h k : Int) : insX [] h k = 0 := rfl
theorem insX_snoc (l : List Int) (x h k : Int) : insX (l ++ [x]) h k = insX l h k + (if (x - h) % 12 < k then 1 else 0) := by
  unfold insX
  rw [List.countP_append, List.countP_singleton]
  simp
theorem insX_cons (l : List Int) (x h k : Int) : insX (x :: l) h k = insX l h k + (if (x - h) % 12 < k then 1 else 0) := by
  unfold insX
  rw [List.countP_cons]
  simp
theorem insX_all {l : List Int} {h k : Int} : insX l h k = l.length ↔ ∀ x ∈ l, (x - h) % 12 < k := by
  unfold insX
  rw [List.countP_eq_length]
  simp
theorem insX_twelve (l : List Int) (h k : Int) (hk : 12 ≤ k) : insX l h k = l.length := insX_all.2 fun x _ => by omega
/-- a sum of the first n -/
def sumX (f : Nat → Nat) : Nat → Nat
  | 0 => 0
  | n + 1 => sumX f n + f n
theorem sumX_add (f g : Nat → Nat) : ∀ n, sumX (fun i => f i + g i) n = sumX f n + sumX g n
  | 0 => rfl
  | n + 1 => by simp only [sumX, sumX_add f g n]; omega
theorem sumX_congr {f g : Nat → Nat} : ∀ {n}, (∀ i, i < n → f i = g i) → sumX f n = sumX g n
  | 0, _ => rfl
  | n + 1, h => by simp only [sumX]; rw [sumX_congr fun i hi => h i (by omega), h n (by omega)]
theorem sumX_zero : ∀ n, sumX (fun _ => 0) n = 0
  | 0 => rfl
  | n + 1 => by simp only [sumX, sumX_zero n]
theorem sumX_le {f : Nat → Nat} {b : Nat} (h : ∀ i, f i ≤ b) : ∀ n, sumX f n ≤ n * b
  | 0 => by simp [sumX]
  | n + 1 => by simp only [sumX]; have := sumX_le h n; have := h n; rw [Nat.succ_mul]; omega
/-- the same of counts -/
def insF (f : Nat → Nat) (h n : Nat) : Nat := sumX (fun i => f ((h + i) % 12)) n
theorem insF_zero (f : Nat → Nat) (h : Nat) : insF f h 0 = 0 := rfl
theorem insF_succ (f : Nat → Nat) (h n : Nat) : insF f h (n + 1) = insF f h n + f ((h + n) % 12) := rfl
theorem insF_one (x : Int) (h0 : 0 ≤ x) (h1 : x < 12) (h : Nat) : ∀ n, n ≤ 12 → sumX (fun i => if x = (((h + i) % 12 : Nat) : Int) then 1 else 0) n = if (x - h) % 12 < (n : Int) then 1 else 0
  | 0, _ => by rw [if_neg (by omega)]; rfl
  | n + 1, hn => by
    simp only [sumX]
    rw [insF_one x h0 h1 h n (by omega)]
    by_cases ha : (x - h) % 12 < (n : Int)
    · rw [if_pos ha, if_neg (by omega), if_pos (by omega)]
    · rw [if_neg ha]
      by_cases hb : x = (((h + n) % 12 : Nat) : Int)
      · rw [if_pos hb, if_pos (by omega)]
      · rw [if_neg hb, if_neg (by omega)]
theorem insF_ct (h : Nat) (n : Nat) (hn : n ≤ 12) : ∀ (l : List Int), l.all hrX = true → insF (ctX l) h n = insX l h n
  | [], _ => sumX_zero n
  | x :: l, hl => by
    rw [List.all_cons, Bool.and_eq_true, hrX_iff] at hl
    rw [insX_cons, ← insF_ct h n hn l hl.2]
    unfold insF
    rw [← insF_one x hl.1.1 hl.1.2 h n hn, ← sumX_add]
    exact sumX_congr fun i _ => ctX_cons l x _
/-- distances of hours -/
def dsN (a b : Nat) : Nat := min (max a b - min a b) (12 - (max a b - min a b))
def dsX (a b : Int) : Int := if hrX a && hrX b then min (max a b - min a b) (12 - (max a b - min a b)) else -1
theorem dsX_no {a b : Int} (h : ¬ ((0 ≤ a ∧ a < 12) ∧ 0 ≤ b ∧ b < 12)) : dsX a b = -1 := by
  unfold dsX
  rw [if_neg]
  rw [Bool.and_eq_true, hrX_iff, hrX_iff]
  exact h
theorem dsX_yes {a b : Int} (h : (0 ≤ a ∧ a < 12) ∧ 0 ≤ b ∧ b < 12) : dsX a b = min (max a b - min a b) (12 - (max a b - min a b)) := by
  unfold dsX
  rw [if_pos]
  rw [Bool.and_eq_true, hrX_iff, hrX_iff]
  exact h
theorem dsX_nat {a b : Nat} (ha : a < 12) (hb : b < 12) : dsX a b = (dsN a b : Int) := by
  rw [dsX_yes (by omega)]
  unfold dsN
  omega
theorem dsX_mod {a b : Int} (h : (0 ≤ a ∧ a < 12) ∧ 0 ≤ b ∧ b < 12) : dsX a b = min ((a - b) % 12) (12 - (a - b) % 12) := by
  rw [dsX_yes h]
  omega
theorem dsN_le (a b : Nat) : dsN a b ≤ 6 := by unfold dsN; omega
theorem dsX_range {a b : Int} (h : (0 ≤ a ∧ a < 12) ∧ 0 ≤ b ∧ b < 12) : 0 ≤ dsX a b ∧ dsX a b ≤ 6 := by rw [dsX_yes h]; omega
theorem dsX_comm (a b : Int) : dsX a b = dsX b a := by
  by_cases h : (0 ≤ a ∧ a < 12) ∧ 0 ≤ b ∧ b < 12
  · rw [dsX_yes h, dsX_yes ⟨h.2, h.1⟩]; omega
  · rw [dsX_no h, dsX_no fun h' => h ⟨h'.2, h'.1⟩]
theorem dsX_tri {a b c : Int} (ha : 0 ≤ a ∧ a < 12) (hb : 0 ≤ b ∧ b < 12) (hc : 0 ≤ c ∧ c < 12) : dsX a c ≤ dsX a b + dsX b c := by
  rw [dsX_yes ⟨ha, hb⟩, dsX_yes ⟨hb, hc⟩, dsX_yes ⟨ha, hc⟩]; omega
theorem dsX_zero {a b : Int} (ha : 0 ≤ a ∧ a < 12) (hb : 0 ≤ b ∧ b < 12) : dsX a b = 0 ↔ a = b := by
  rw [dsX_yes ⟨ha, hb⟩]; omega
/-- the sum of distances -/
def sdX (l : List Int) (h : Nat) : Nat := (l.map (fun x => (dsX h x).toNat)).sum
theorem sdX_nil (h : Nat) : sdX [] h = 0 := rfl
theorem sdX_cons (l : List Int) (x : Int) (h : Nat) : sdX (x :: l) h = (dsX h x).toNat + sdX l h := by simp [sdX]
theorem sdX_snoc (l : List Int) (x : Int) (h : Nat) : sdX (l ++ [x]) h = sdX l h + (dsX h x).toNat := by simp [sdX]
theorem sdX_le {h : Nat} (hh : h < 12) : ∀ (l : List Int), l.all hrX = true → sdX l h ≤ 6 * l.length
  | [], _ => by simp [sdX]
  | x :: l, hl => by
    rw [List.all_cons, Bool.and_eq_true, hrX_iff] at hl
    have := sdX_le hh l hl.2
    have := dsX_range (a := h) (b := x) ⟨by omega, hl.1⟩
    rw [sdX_cons, List.length_cons]
    omega
theorem sd_one (x : Int) (h0 : 0 ≤ x) (h1 : x < 12) (h : Nat) : sumX (fun j => (if x = (j : Int) then 1 else 0) * dsN h j) 12 = dsN h x.toNat := by
  obtain ⟨n, rfl⟩ : ∃ n : Nat, x = n := ⟨x.toNat, by omega⟩
  have hn : n < 12 := by omega
  simp only [sumX, Int.toNat_natCast]
  have : n = 0 ∨ n = 1 ∨ n = 2 ∨ n = 3 ∨ n = 4 ∨ n = 5 ∨ n = 6 ∨ n = 7 ∨ n = 8 ∨ n = 9 ∨ n = 10 ∨ n = 11 := by omega
  rcases this with rfl | rfl | rfl | rfl | rfl | rfl | rfl | rfl | rfl | rfl | rfl | rfl <;> simp
theorem sdF_ct {h : Nat} (hh : h < 12) : ∀ (l : List Int), l.all hrX = true → sumX (fun j => ctX l j * dsN h j) 12 = sdX l h
  | [], _ => by simp [ctX_nil, sdX_nil, sumX]
  | x :: l, hl => by
    rw [List.all_cons, Bool.and_eq_true, hrX_iff] at hl
    rw [sdX_cons, ← sdF_ct hh l hl.2, show (dsX h x).toNat = dsN h x.toNat by
      obtain ⟨n, rfl⟩ : ∃ n : Nat, x = n := ⟨x.toNat, by omega⟩
      rw [dsX_nat hh (by omega)]; simp]
    rw [← sd_one x hl.1.1 hl.1.2 h, Nat.add_comm, ← sumX_add]
    exact sumX_congr fun i _ => by rw [ctX_cons, Nat.add_mul]
/-- within a distance of an hour -/
def nearX (l : List Int) (h : Nat) (t : Int) : Bool := l.all fun x => decide (dsX h x ≤ t)
def fixX (l : List Int) (t : Int) : Bool := decide (chkSX l = 0 ∧ 0 ≤ t ∧ t ≤ 6) && (List.range 12).any fun h => nearX l h t
theorem ct_pos {l : List Int} {j : Nat} : 0 < ctX l j ↔ (j : Int) ∈ l := by
  unfold ctX
  rw [List.countP_pos_iff]
  constructor
  · rintro ⟨x, hx, he⟩
    rw [beq_iff_eq] at he
    rwa [← he]
  · intro h
    exact ⟨_, h, by simp⟩
theorem near_ct {l : List Int} (hl : l.all hrX = true) {h : Nat} (hh : h < 12) {t : Nat} : (∀ j, j < 12 → 0 < ctX l j → dsN h j ≤ t) ↔ nearX l h t = true := by
  unfold nearX
  rw [List.all_eq_true]
  rw [List.all_eq_true] at hl
  constructor
  · intro H x hx
    have hx' := hrX_iff.1 (hl x hx)
    obtain ⟨n, rfl⟩ : ∃ n : Nat, x = n := ⟨x.toNat, by omega⟩
    have := H n (by omega) (ct_pos.2 hx)
    rw [decide_eq_true_iff, dsX_nat hh (by omega)]
    omega
  · intro H j hj hc
    have := H j (ct_pos.1 hc)
    rw [decide_eq_true_iff, dsX_nat hh hj] at this
    omega
/-- the first of the greatest -/
def MaxP (g : Nat → Nat) (n h m : Nat) : Prop := h < n ∧ m = g h ∧ ∀ j, j < n → g j ≤ m ∧ (j < h → g j < m)
def MinP (g : Nat → Nat) (n h m : Nat) : Prop := h < n ∧ m = g h ∧ ∀ j, j < n → m ≤ g j ∧ (j < h → m < g j)
theorem MaxP.uniq {g : Nat → Nat} {n h m h' m' : Nat} (a : MaxP g n h m) (b : MaxP g n h' m') : h = h' ∧ m = m' := by
  have h1 := (a.2.2 h' b.1)
  have h2 := (b.2.2 h a.1)
  have e1 := a.2.1
  have e2 := b.2.1
  have : h = h' := by
    rcases Nat.lt_trichotomy h h' with hlt | he | hgt
    · have := h2.2 hlt; omega
    · exact he
    · have := h1.2 hgt; omega
  subst this
  exact ⟨rfl, by rw [e1, e2]⟩
theorem MinP.uniq {g : Nat → Nat} {n h m h' m' : Nat} (a : MinP g n h m) (b : MinP g n h' m') : h = h' ∧ m = m' := by
  have h1 := (a.2.2 h' b.1)
  have h2 := (b.2.2 h a.1)
  have e1 := a.2.1
  have e2 := b.2.1
  have : h = h' := by
    rcases Nat.lt_trichotomy h h' with hlt | he | hgt
    · have := h2.2 hlt; omega
    · exact he
    · have := h1.2 hgt; omega
  subst this
  exact ⟨rfl, by rw [e1, e2]⟩
theorem MaxP.first (g : Nat → Nat) : MaxP g 1 0 (g 0) := ⟨by omega, rfl, fun j hj => by obtain rfl : j = 0 := (by omega); exact ⟨Nat.le_refl _, fun h => by omega⟩⟩
theorem MaxP.more {g : Nat → Nat} {n h m : Nat} (a : MaxP g n h m) (hg : m < g n) : MaxP g (n + 1) n (g n) := ⟨by omega, rfl, fun j hj => by
  by_cases hjn : j = n
  · subst hjn; exact ⟨Nat.le_refl _, fun h => by omega⟩
  · have := (a.2.2 j (by omega)).1
    exact ⟨by omega, fun _ => by omega⟩⟩
theorem MaxP.stay {g : Nat → Nat} {n h m : Nat} (a : MaxP g n h m) (hg : ¬ m < g n) : MaxP g (n + 1) h m := ⟨by have := a.1; omega, a.2.1, fun j hj => by
  by_cases hjn : j = n
  · subst hjn; exact ⟨by omega, fun h => by have := a.1; omega⟩
  · exact a.2.2 j (by omega)⟩
theorem MinP.first (g : Nat → Nat) : MinP g 1 0 (g 0) := ⟨by omega, rfl, fun j hj => by obtain rfl : j = 0 := (by omega); exact ⟨Nat.le_refl _, fun h => by omega⟩⟩
theorem MinP.more {g : Nat → Nat} {n h m : Nat} (a : MinP g n h m) (hg : g n < m) : MinP g (n + 1) n (g n) := ⟨by omega, rfl, fun j hj => by
  by_cases hjn : j = n
  · subst hjn; exact ⟨Nat.le_refl _, fun h => by omega⟩
  · have := (a.2.2 j (by omega)).1
    exact ⟨by omega, fun _ => by omega⟩⟩
theorem MinP.stay {g : Nat → Nat} {n h m : Nat} (a : MinP g n h m) (hg : ¬ g n < m) : MinP g (n + 1) h m := ⟨by have := a.1; omega, a.2.1, fun j hj => by
  by_cases hjn : j = n
  · subst hjn; exact ⟨by omega, fun h => by have := a.1; omega⟩
  · exact a.2.2 j (by omega)⟩
theorem MaxP.congr {g f : Nat → Nat} {n h m : Nat} (a : MaxP g n h m) (e : ∀ j, j < n → g j = f j) : MaxP f n h m :=
  ⟨a.1, by rw [a.2.1, e h a.1], fun j hj => by rw [← e j hj]; exact a.2.2 j hj⟩
theorem MinP.congr {g f : Nat → Nat} {n h m : Nat} (a : MinP g n h m) (e : ∀ j, j < n → g j = f j) : MinP f n h m :=
  ⟨a.1, by rw [a.2.1, e h a.1], fun j hj => by rw [← e j hj]; exact a.2.2 j hj⟩
/-- the densest k hours; the median -/
def DenP (l : List Int) (k : Nat) (h m : Nat) : Prop := MaxP (fun j => insX l j k) 12 h m
def MedP (l : List Int) (h m : Nat) : Prop := MinP (sdX l) 12 h m
/-- the shortest arc -/
def ArcP (l : List Int) (h n : Nat) : Prop :=
  1 ≤ n ∧ n ≤ 12 ∧ h < 12 ∧ insX l h n = l.length ∧ (n = 12 → h = 0) ∧ (n < 12 → ∀ j, j < h → insX l j n ≠ l.length) ∧ ∀ m j : Nat, 1 ≤ m → m < n → j < 12 → insX l j m ≠ l.length
theorem ArcP.uniq {l : List Int} {h n h' n' : Nat} (a : ArcP l h n) (b : ArcP l h' n') : h = h' ∧ n = n' := by
  obtain ⟨a1, a2, a3, a4, a5, a6, a7⟩ := a
  obtain ⟨b1, b2, b3, b4, b5, b6, b7⟩ := b
  have hn : n = n' := by
    rcases Nat.lt_trichotomy n n' with hlt | he | hgt
    · exact absurd a4 (b7 n h a1 hlt a3)
    · exact he
    · exact absurd b4 (a7 n' h' b1 hgt b3)
  subst hn
  refine ⟨?_, rfl⟩
  by_cases h12 : n = 12
  · rw [a5 h12, b5 h12]
  · rcases Nat.lt_trichotomy h h' with hlt | he | hgt
    · exact absurd a4 (b6 (by omega) h hlt)
    · exact he
    · exact absurd b4 (a6 (by omega) h' hgt)
theorem den_arc {l : List Int} {n h m : Nat} (hn1 : 1 ≤ n) (hn : n < 12) (hd : DenP l n h m) (he : m = l.length) (hp : ∀ m j : Nat, 1 ≤ m → m < n → j < 12 → insX l j m ≠ l.length) : ArcP l h n :=
  ⟨hn1, by omega, hd.1, by rw [← he]; exact hd.2.1.symm, by omega, fun _ j hj => by have := (hd.2.2 j (by have := hd.1; omega)).2 hj; simp only at this; omega, hp⟩
theorem den_none {l : List Int} {n h m : Nat} (hd : DenP l n h m) (he : m ≠ l.length) : ∀ j : Nat, j < 12 → insX l j n ≠ l.length := fun j hj e => by
  have h1 := (hd.2.2 j hj).1
  have h2 : insX l h n ≤ l.length := insX_le _ _ _
  have h3 := hd.2.1
  simp only at h1 h3
  omega
theorem arc_last {l : List Int} (hp : ∀ m j : Nat, 1 ≤ m → m < 12 → j < 12 → insX l j m ≠ l.length) : ArcP l 0 12 :=
  ⟨by omega, by omega, by omega, insX_twelve l _ _ (by decide), fun _ => rfl, fun h => by omega, hp⟩
end AM
end Go.Proofs.Ytfhidmlceemhaaa
