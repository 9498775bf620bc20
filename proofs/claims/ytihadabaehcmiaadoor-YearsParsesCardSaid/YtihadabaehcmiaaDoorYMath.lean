/- Covers, the mathematics: separate years in ascending order are determined by what they contain. -/
namespace Go.Proofs.YtihadabaehcmiaaDoor

def InY (m : Int) (y : Int × Int) : Prop := y.1 ≤ m ∧ m ≤ y.2
def On (ys : List (Int × Int)) (m : Int) : Prop := ∃ y ∈ ys, InY m y
/-- ascending, with a year between each two -/
def SepL : List (Int × Int) → Prop
  | [] => True
  | x :: r => x.1 ≤ x.2 ∧ (∀ y ∈ r, x.2 + 1 < y.1) ∧ SepL r
theorem sep_le : ∀ {c : List (Int × Int)}, SepL c → ∀ x ∈ c, x.1 ≤ x.2
  | [], _, x, hx => by cases hx
  | y :: r, h, x, hx => by
    rcases List.mem_cons.1 hx with rfl | hx
    · exact h.1
    · exact sep_le h.2.2 x hx
theorem sep_head {x : Int × Int} {r : List (Int × Int)} (h : SepL (x :: r)) : ∀ z ∈ x :: r, x.1 ≤ z.1 := by
  intro z hz
  rcases List.mem_cons.1 hz with rfl | hz
  · exact Int.le_refl _
  · have := h.2.1 z hz
    have := h.1
    omega
theorem on_head {x : Int × Int} {r : List (Int × Int)} (h : SepL (x :: r)) : On (x :: r) x.1 := ⟨x, List.mem_cons_self, Int.le_refl _, h.1⟩
theorem sep_uniq : ∀ (c d : List (Int × Int)), SepL c → SepL d → (∀ m, On c m ↔ On d m) → c = d
  | [], [], _, _, _ => rfl
  | [], y :: s, _, hd, h => by
    obtain ⟨z, hz, _⟩ := (h y.1).2 (on_head hd)
    cases hz
  | x :: r, [], hc, _, h => by
    obtain ⟨z, hz, _⟩ := (h x.1).1 (on_head hc)
    cases hz
  | x :: r, y :: s, hc, hd, h => by
    have e1 : x.1 = y.1 := by
      obtain ⟨z, hz, hz1⟩ := (h x.1).1 (on_head hc)
      obtain ⟨u, hu, hu1⟩ := (h y.1).2 (on_head hd)
      have := sep_head hd z hz
      have := sep_head hc u hu
      have := hz1.1
      have := hu1.1
      omega
    have e2 : x.2 = y.2 := by
      rcases Int.lt_trichotomy x.2 y.2 with g | g | g
      · exfalso
        obtain ⟨z, hz, hz1⟩ := (h (x.2 + 1)).2 ⟨y, List.mem_cons_self, by have := hc.1; omega, by omega⟩
        rcases List.mem_cons.1 hz with rfl | hz
        · have := hz1.2; omega
        · have := hc.2.1 z hz; have := hz1.1; omega
      · exact g
      · exfalso
        obtain ⟨z, hz, hz1⟩ := (h (y.2 + 1)).1 ⟨x, List.mem_cons_self, by have := hd.1; omega, by omega⟩
        rcases List.mem_cons.1 hz with rfl | hz
        · have := hz1.2; omega
        · have := hd.2.1 z hz; have := hz1.1; omega
    have e3 : r = s := by
      refine sep_uniq r s hc.2.2 hd.2.2 fun m => ⟨fun ⟨z, hz, hz1⟩ => ?_, fun ⟨z, hz, hz1⟩ => ?_⟩
      · obtain ⟨u, hu, hu1⟩ := (h m).1 ⟨z, List.mem_cons_of_mem _ hz, hz1⟩
        rcases List.mem_cons.1 hu with rfl | hu
        · have := hc.2.1 z hz; have := hz1.1; have := hu1.2; omega
        · exact ⟨u, hu, hu1⟩
      · obtain ⟨u, hu, hu1⟩ := (h m).2 ⟨z, List.mem_cons_of_mem _ hz, hz1⟩
        rcases List.mem_cons.1 hu with rfl | hu
        · have := hd.2.1 z hz; have := hz1.1; have := hu1.2; omega
        · exact ⟨u, hu, hu1⟩
    rw [e3, show x = y from Prod.ext e1 e2]
theorem sep_app : ∀ (c : List (Int × Int)) (z : Int × Int), SepL (c ++ [z]) ↔ SepL c ∧ (∀ x ∈ c, x.2 + 1 < z.1) ∧ z.1 ≤ z.2
  | [], z => by simp [SepL]
  | x :: r, z => by
    have ih := sep_app r z
    simp only [List.cons_append, SepL, ih, List.mem_append, List.mem_cons, forall_eq_or_imp]
    constructor
    · rintro ⟨h1, h2, h3, h4, h5⟩
      exact ⟨⟨h1, fun y hy => h2 y (Or.inl hy), h3⟩, ⟨h2 z (Or.inr (Or.inl rfl)), h4⟩, h5⟩
    · rintro ⟨⟨h1, h2, h3⟩, ⟨h4, h5⟩, h6⟩
      refine ⟨h1, fun y hy => ?_, h3, h5, h6⟩
      rcases hy with hy | rfl | hy
      · exact h2 y hy
      · exact h4
      · cases hy
theorem on_app (c : List (Int × Int)) (z : Int × Int) (m : Int) : On (c ++ [z]) m ↔ On c m ∨ InY m z := by
  unfold On
  constructor
  · rintro ⟨y, hy, h⟩
    rcases List.mem_append.1 hy with hy | hy
    · exact Or.inl ⟨y, hy, h⟩
    · rw [List.mem_singleton] at hy; subst hy; exact Or.inr h
  · rintro (⟨y, hy, h⟩ | h)
    · exact ⟨y, List.mem_append_left _ hy, h⟩
    · exact ⟨z, by simp, h⟩
theorem on_perm {c d : List (Int × Int)} (h : c.Perm d) (m : Int) : On c m ↔ On d m :=
  ⟨fun ⟨y, hy, k⟩ => ⟨y, h.mem_iff.1 hy, k⟩, fun ⟨y, hy, k⟩ => ⟨y, h.mem_iff.2 hy, k⟩⟩

/-- what a cover of the first years is -/
structure CovI (t cov : List (Int × Int)) : Prop where
  sep : SepL cov
  on : ∀ m, On cov m ↔ On t m
  src : ∀ x ∈ cov, ∃ u ∈ t, x.1 = u.1
  bnd : ∀ x ∈ cov, -9999 ≤ x.1 ∧ x.2 ≤ 9999
theorem cov_nil : CovI [] [] := ⟨trivial, fun _ => Iff.rfl, (fun _ h => by cases h), (fun _ h => by cases h)⟩
theorem cov_new {t cov : List (Int × Int)} (h : CovI t cov) (y : Int × Int) (hv : -9999 ≤ y.1 ∧ y.1 ≤ y.2 ∧ y.2 ≤ 9999) (hl : ∀ x ∈ cov, x.2 + 1 < y.1) : CovI (t ++ [y]) (cov ++ [y]) := by
  refine ⟨(sep_app _ _).2 ⟨h.sep, hl, hv.2.1⟩, fun m => ?_, fun x hx => ?_, fun x hx => ?_⟩
  · rw [on_app, on_app, h.on m]
  · rcases List.mem_append.1 hx with hx | hx
    · obtain ⟨u, hu, e⟩ := h.src x hx
      exact ⟨u, List.mem_append_left _ hu, e⟩
    · rw [List.mem_singleton] at hx; subst hx; exact ⟨x, by simp, rfl⟩
  · rcases List.mem_append.1 hx with hx | hx
    · exact h.bnd x hx
    · rw [List.mem_singleton] at hx; subst hx; exact ⟨hv.1, hv.2.2⟩
theorem cov_join {t c : List (Int × Int)} {z : Int × Int} (h : CovI t (c ++ [z])) (y : Int × Int) (hv : -9999 ≤ y.1 ∧ y.1 ≤ y.2 ∧ y.2 ≤ 9999) (h1 : z.1 ≤ y.1) (h2 : y.1 ≤ z.2 + 1) (b : Int) (hb : b = max z.2 y.2) : CovI (t ++ [y]) (c ++ [(z.1, b)]) := by
  have hs := (sep_app _ _).1 h.sep
  have hbz := h.bnd z (by simp)
  refine ⟨(sep_app _ _).2 ⟨hs.1, hs.2.1, by have := hs.2.2; show z.1 ≤ b; omega⟩, fun m => ?_, fun x hx => ?_, fun x hx => ?_⟩
  · rw [on_app, on_app, ← h.on m, on_app]
    have := hs.2.2
    constructor
    · rintro (k | ⟨k1, k2⟩)
      · exact Or.inl (Or.inl k)
      · replace k1 : z.1 ≤ m := k1
        replace k2 : m ≤ b := k2
        by_cases g : m ≤ z.2
        · exact Or.inl (Or.inr ⟨k1, g⟩)
        · exact Or.inr ⟨by omega, by omega⟩
    · rintro ((k | ⟨k1, k2⟩) | ⟨k1, k2⟩)
      · exact Or.inl k
      · exact Or.inr ⟨k1, by show m ≤ b; omega⟩
      · exact Or.inr ⟨by show z.1 ≤ m; omega, by show m ≤ b; omega⟩
  · rcases List.mem_append.1 hx with hx | hx
    · obtain ⟨u, hu, e⟩ := h.src x (List.mem_append_left _ hx)
      exact ⟨u, List.mem_append_left _ hu, e⟩
    · rw [List.mem_singleton] at hx; subst hx
      obtain ⟨u, hu, e⟩ := h.src z (by simp)
      exact ⟨u, List.mem_append_left _ hu, e⟩
  · rcases List.mem_append.1 hx with hx | hx
    · exact h.bnd x (List.mem_append_left _ hx)
    · rw [List.mem_singleton] at hx; subst hx; exact ⟨hbz.1, by show b ≤ 9999; omega⟩
end Go.Proofs.YtihadabaehcmiaaDoor
