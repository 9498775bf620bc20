/- Slices of naturals: as they read, and as a call's own rows; append and make. -/
import Derived.Test.YtjmiaodjapclbaaDoorNatN
import Derived.Test.YtjmiaodjapclbaaDoorRNat
import Derived.Laws.MakeOwn
import Derived.Laws.AppendOwn
namespace Go.Proofs.YtjmiaodjapclbaaDoor
open Go Go.RowKit

/-- every cell is a slice -/
def AllS (cs : Array Value) : Prop := ∀ (j : Nat) (v : Value), cs[j]? = some v → ∃ S m c, v = .slice S m c
theorem AllS.noInt {cs : Array Value} (h : AllS cs) : NoInt cs := by
  intro k j x e
  obtain ⟨S, m, c, e2⟩ := h j _ e
  cases e2
/-- what has grown: nothing below a bound has turned, and every natural reads as before -/
def Grow (B : Nat) (w w' : World) : Prop := Below B w w' ∧ w.heap.size ≤ w'.heap.size ∧ ∀ A n c u, Cn w A n c u → Cn w' A n c u
theorem Grow.of {w w' : World} (h : Below w.heap.size w w') {B : Nat} (hB : B ≤ w.heap.size) : Grow B w w' := ⟨h.mono hB, h.size, fun _ _ _ _ hc => hc.below h⟩
theorem Grow.refl (B : Nat) (w : World) : Grow B w w := ⟨Below.refl _ _, Nat.le_refl _, fun _ _ _ _ h => h⟩
theorem Grow.trans {B : Nat} {a b c : World} (h : Grow B a b) (k : Grow B b c) : Grow B a c := ⟨h.1.trans k.1, Nat.le_trans h.2.1 k.2.1, fun A n d u x => k.2.2 A n d u (h.2.2 A n d u x)⟩
theorem Grow.mono {B B' : Nat} {a b : World} (h : Grow B a b) (hB : B' ≤ B) : Grow B' a b := ⟨h.1.mono hB, h.2.1, h.2.2⟩

/-- a slice of n naturals that reads as us -/
def NL (w : World) (A : Option Addr) (n : Nat) (us : List Nat) : Prop :=
  us.length = n ∧ (0 < n → ∃ b o, A = some ⟨b, o, none⟩ ∧ b < w.heap.size ∧ ∀ j u, us[j]? = some u → ∃ S m c, w.cell? ⟨b, o + j, none⟩ = some (.slice S m c) ∧ Cn w S m c u)
section
variable {w w' : World} {A : Option Addr} {n B : Nat} {us : List Nat}
theorem NL.len (h : NL w A n us) : us.length = n := h.1
theorem NL.at_ (h : NL w A n us) {j : Nat} (hj : j < n) : ∃ b o u S m c, A = some ⟨b, o, none⟩ ∧ b < w.heap.size ∧ us[j]? = some u ∧ w.cell? ⟨b, o + j, none⟩ = some (.slice S m c) ∧ Cn w S m c u := by
  obtain ⟨b, o, e, hb, hc⟩ := h.2 (by omega)
  have hl : j < us.length := by rw [h.1]; exact hj
  obtain ⟨S, m, c, h1, h2⟩ := hc j _ (List.getElem?_eq_getElem hl)
  exact ⟨b, o, _, S, m, c, e, hb, List.getElem?_eq_getElem hl, h1, h2⟩
/-- the same, the address known already -/
theorem NL.cell {b o j : Nat} (h : NL w (some ⟨b, o, none⟩) n us) (hj : j < n) : ∃ u S m c, b < w.heap.size ∧ us[j]? = some u ∧ w.cell? ⟨b, o + j, none⟩ = some (.slice S m c) ∧ Cn w S m c u := by
  obtain ⟨b', o', u, S, m, c, e, h1, h2, h3, h4⟩ := h.at_ hj
  injection e with e; injection e with e1 e2; subst e1; subst e2
  exact ⟨u, S, m, c, h1, h2, h3, h4⟩
theorem NL.below (h : NL w A n us) (hb : Below w.heap.size w w') : NL w' A n us :=
  ⟨h.1, fun hn => by
    obtain ⟨b, o, e, hl, hc⟩ := h.2 hn
    refine ⟨b, o, e, Nat.lt_of_lt_of_le hl hb.size, fun j u hu => ?_⟩
    obtain ⟨S, m, c, h1, h2⟩ := hc j u hu
    exact ⟨S, m, c, (hb.cell (p := ⟨b, o + j, none⟩) hl).trans h1, h2.below hb⟩⟩
theorem NL.grow (h : NL w A n us) (hB : ∀ b o, A = some ⟨b, o, none⟩ → b < B) (hg : Grow B w w') : NL w' A n us :=
  ⟨h.1, fun hn => by
    obtain ⟨b, o, e, hl, hc⟩ := h.2 hn
    have hb := hB b o e
    refine ⟨b, o, e, Nat.lt_of_lt_of_le hl hg.2.1, fun j u hu => ?_⟩
    obtain ⟨S, m, c, h1, h2⟩ := hc j u hu
    exact ⟨S, m, c, (hg.1.cell (p := ⟨b, o + j, none⟩) hb).trans h1, hg.2.2 _ _ _ _ h2⟩⟩
end

/-- a row of the call's own: nil, or the head of a block of slices, from base on -/
def NR (w : World) (base : Nat) (A : Option Addr) (n c : Nat) (us : List Nat) : Prop :=
  us.length = n ∧ ((A = none ∧ n = 0 ∧ c = 0) ∨ ∃ g cur, A = some ⟨g, 0, none⟩ ∧ base ≤ g ∧ w.heap[g]? = some (.cells cur 25 (0, 0)) ∧ n ≤ c ∧ c ≤ maxLen ∧ cur.size = c ∧ AllS cur ∧
    ∀ (j u : Nat), us[j]? = some u → ∃ S m d, cur[j]? = some (.slice S m d) ∧ Cn w S m d u)
section
variable {w w' : World} {base n c : Nat} {A : Option Addr} {us : List Nat}
theorem NR.nil_ : NR w base none 0 0 [] := ⟨rfl, .inl ⟨rfl, rfl, rfl⟩⟩
theorem NR.len (h : NR w base A n c us) : us.length = n := h.1
theorem NR.le (h : NR w base A n c us) : n ≤ c ∧ c ≤ maxLen := by
  rcases h.2 with ⟨_, h1, h2⟩ | ⟨g, cur, _, _, _, h1, h2, _⟩
  · subst h1; subst h2; exact ⟨Nat.le_refl _, by simp [maxLen]⟩
  · exact ⟨h1, h2⟩
theorem NR.lt (h : NR w base A n c us) : ∀ b o, A = some ⟨b, o, none⟩ → base ≤ b ∧ b < w.heap.size := by
  intro b o e
  rcases h.2 with ⟨h0, _⟩ | ⟨g, cur, h0, hb, hg, _⟩
  · rw [h0] at e; cases e
  · rw [h0] at e; injection e with e; injection e with e1 e2
    subst e1
    exact ⟨hb, (Array.getElem?_eq_some_iff.1 hg).1⟩
theorem NR.nl (h : NR w base A n c us) : NL w A n us := by
  refine ⟨h.1, fun hn => ?_⟩
  rcases h.2 with ⟨_, h1, _⟩ | ⟨g, cur, h0, hb, hg, _, _, _, _, hu⟩
  · omega
  · refine ⟨g, 0, h0, (Array.getElem?_eq_some_iff.1 hg).1, fun j u hj => ?_⟩
    obtain ⟨S, m, d, e, hc⟩ := hu j u hj
    exact ⟨S, m, d, by rw [Nat.zero_add, cell_of_row w g j cur _ (0, 0) hg]; exact e, hc⟩
theorem NR.at_ (h : NR w base A n c us) {j : Nat} (hj : j < n) : ∃ g u S m d, A = some ⟨g, 0, none⟩ ∧ base ≤ g ∧ g < w.heap.size ∧ us[j]? = some u ∧ w.cell? ⟨g, j, none⟩ = some (.slice S m d) ∧ Cn w S m d u := by
  rcases h.2 with ⟨_, h1, _⟩ | ⟨g, cur, h0, hb, hg, _, _, _, _, hu⟩
  · omega
  · have hl : j < us.length := by rw [h.1]; exact hj
    have he := List.getElem?_eq_getElem hl
    obtain ⟨S, m, d, e, hc⟩ := hu j _ he
    exact ⟨g, _, S, m, d, h0, hb, (Array.getElem?_eq_some_iff.1 hg).1, he, by rw [cell_of_row w g j cur _ (0, 0) hg]; exact e, hc⟩
theorem NR.grow {B : Nat} (h : NR w base A n c us) (hB : ∀ b o, A = some ⟨b, o, none⟩ → b < B) (hg : Grow B w w') : NR w' base A n c us := by
  refine ⟨h.1, ?_⟩
  rcases h.2 with h0 | ⟨g, cur, e, hb, hgg, h1, h2, h3, h4, hu⟩
  · exact .inl h0
  · refine .inr ⟨g, cur, e, hb, (hg.1.block g (hB g 0 e)).trans hgg, h1, h2, h3, h4, fun j u hj => ?_⟩
    obtain ⟨S, m, d, e, hc⟩ := hu j u hj
    exact ⟨S, m, d, e, hg.2.2 _ _ _ _ hc⟩
theorem NR.below (h : NR w base A n c us) (hb : Below w.heap.size w w') : NR w' base A n c us := h.grow (fun b o e => (h.lt b o e).2) (Grow.of hb (Nat.le_refl _))
theorem NR.low (h : NR w base A n c us) {b' : Nat} (hb : b' ≤ base) : NR w b' A n c us := by
  refine ⟨h.1, ?_⟩
  rcases h.2 with h0 | ⟨g, cur, e, hb2, r⟩
  · exact .inl h0
  · exact .inr ⟨g, cur, e, by omega, r⟩
/-- a row of one natural, as a literal lays it -/
theorem NR.one (S : Option Addr) (m d u : Nat) (hb : base ≤ w.heap.size) (hc : Cn w S m d u) : NR (w.alloc (.cells #[.slice S m d] 25)) base (some ⟨w.heap.size, 0, none⟩) 1 1 [u] := by
  refine ⟨rfl, .inr ⟨w.heap.size, _, rfl, hb, heap_alloc_new w _, Nat.le_refl _, by simp [maxLen], rfl, ?_, ?_⟩⟩
  · intro j v e
    rcases j with _ | j
    · simp at e; exact ⟨S, m, d, e.symm⟩
    · simp at e
  · intro j v e
    rcases j with _ | j
    · simp at e; subst e
      exact ⟨S, m, d, rfl, hc.below ((Below.refl _ _).alloc (Nat.le_refl _) _)⟩
    · simp at e
end
theorem cn_far {w : World} {S : Option Addr} {m d u g : Nat} {cur : Array Value} {t : TypeId} {fr : Nat × Nat} (h : Cn w S m d u) (hg : w.heap[g]? = some (.cells cur t fr)) (hs : AllS cur) : Sp S m g := by
  intro hn b o e
  rintro rfl
  subst e
  obtain ⟨x, _, hc⟩ := h.1.cell hn
  rw [cell_of_row w b _ _ t fr hg] at hc
  exact hs.noInt _ _ _ hc

theorem cn_kept {w w' : World} {S : Option Addr} {m d u g : Nat} {cur : Array Value} {t : TypeId} {fr : Nat × Nat} (h : Cn w S m d u) (hg : w.heap[g]? = some (.cells cur t fr)) (hs : AllS cur) (hgr : w.grownBy w' (some g)) : Cn w' S m d u :=
  ⟨h.1.grown hgr (cn_far h hg hs), h.2⟩
theorem AllS.app {a b : Array Value} (ha : AllS a) (hb : AllS b) : AllS (a ++ b) := by
  intro j v e
  rw [Array.getElem?_append] at e
  split at e
  · exact ha _ _ e
  · exact hb _ _ e
theorem AllS.one (S : Option Addr) (m d : Nat) : AllS [Value.slice S m d].toArray := by
  intro j v e
  rcases j with _ | j
  · simp at e; exact ⟨S, m, d, e.symm⟩
  · simp at e
theorem AllS.take_ {cur : Array Value} (h : AllS cur) (n : Nat) : AllS (cur.toList.take n).toArray := by
  intro j v e
  rw [List.getElem?_toArray, List.getElem?_take] at e
  split at e
  · exact h j v (by simpa using e)
  · cases e
theorem AllS.drop_ {cur : Array Value} (h : AllS cur) (n : Nat) : AllS (cur.toList.drop n).toArray := by
  intro j v e
  rw [List.getElem?_toArray, List.getElem?_drop] at e
  exact h (n + j) v (by simpa using e)
theorem AllS.zeros (n : Nat) : AllS (Builtin.zeroCells (Value.agg #[.slice none 0 0]).cells n) := by
  intro j v e
  have ec : (Value.agg #[Value.slice none 0 0]).cells = #[Value.slice none 0 0] := rfl
  rw [ec] at e
  unfold Builtin.zeroCells at e
  rw [Array.getElem?_map] at e
  obtain ⟨i, -, e2⟩ := Option.map_eq_some_iff.1 e
  have e3 : (#[Value.slice none 0 0] : Array Value).size = 1 := rfl
  rw [e3, Nat.mod_one] at e2
  exact ⟨none, 0, 0, e2.symm⟩
theorem elems_app {w : World} {us : List Nat} {xs : List Value} {n u : Nat} {S : Option Addr} {m d : Nat} (hl : us.length = n) (hx : xs.length = n) (hc : Cn w S m d u) (h : ∀ (j u' : Nat), us[j]? = some u' → ∃ S m d, xs[j]? = some (Value.slice S m d) ∧ Cn w S m d u') (rest : List Value) :
    ∀ (j u' : Nat), (us ++ [u])[j]? = some u' → ∃ S' m' d', (xs ++ Value.slice S m d :: rest)[j]? = some (Value.slice S' m' d') ∧ Cn w S' m' d' u' := by
  intro j u' e
  rcases Nat.lt_or_ge j n with hj | hj
  · rw [List.getElem?_append_left (by omega)] at e
    obtain ⟨S', m', d', h1, h2⟩ := h j u' e
    exact ⟨S', m', d', by rw [List.getElem?_append_left (by omega)]; exact h1, h2⟩
  · rw [List.getElem?_append_right (by omega), hl] at e
    rw [List.getElem?_append_right (by omega), hx]
    rcases hk : j - n with _ | k
    · rw [hk] at e
      simp at e
      subst e
      exact ⟨S, m, d, rfl, hc⟩
    · rw [hk] at e
      simp at e
/-- 'append(s, x)': s the call's own row of naturals, x a natural in a cell. -/
theorem run_append_nr {P : Program} (w : World) (t ty : TypeId) (bytes : Nat) (ht : P.underlying t = some (.slice 25))
    (h2 : (P.info? 25).map (fun i => (i.zero, i.size, i.bytes)) = some (some (.agg #[.slice none 0 0]), 1, bytes))
    {base n c : Nat} {A : Option Addr} {us : List Nat} (h : NR w base A n c us) (b o cc : Nat) {S : Option Addr} {m d u : Nat} (hx : w.cell? ⟨b, o, none⟩ = some (.slice S m d)) (hc : Cn w S m d u) (hby : bytes ≤ 24) (hN : n + 1 ≤ 100000) (hbase : base ≤ w.heap.size) :
    ∃ A' c' w', (Builtin.append_ #[t, t] ty #[.slice A n c, .slice (some ⟨b, o, none⟩) 1 cc]).run P w = .ok (.slice A' (n + 1) c') w' ∧ NR w' base A' (n + 1) c' (us ++ [u]) ∧ Grow base w w' := by
  obtain ⟨i, hi, hz, hs, hb⟩ := info_parts h2
  have hml : (100000 : Nat) ≤ maxLen := by simp [maxLen]
  have hnews : ∀ j v, ([.slice S m d] : List Value)[j]? = some v → w.cell? ((⟨b, o, none⟩ : Addr).add j) = some v := by
    intro j v e
    rcases j with _ | j
    · simp at e; subst e
      have h0 : (⟨b, o, none⟩ : Addr).add 0 = ⟨b, o, none⟩ := by unfold Addr.add; split <;> simp_all
      rw [h0]; exact hx
    · simp at e
  have new : ∀ (xs rest : List Value) (cap : Nat), xs.length = n → AllS xs.toArray → AllS rest.toArray → (xs ++ Value.slice S m d :: rest).length = cap → n + 1 ≤ cap → cap ≤ maxLen → (∀ (j u' : Nat), us[j]? = some u' → ∃ S m d, xs[j]? = some (Value.slice S m d) ∧ Cn w S m d u') →
      NR (w.drew.alloc (.cells (xs ++ Value.slice S m d :: rest).toArray 25)) base (some ⟨w.heap.size, 0, none⟩) (n + 1) cap (us ++ [u]) ∧ Grow base w (w.drew.alloc (.cells (xs ++ Value.slice S m d :: rest).toArray 25)) := by
    intro xs rest cap h1 h2 h3 h4 h5 h6 h7
    have hB : Below w.heap.size w (w.drew.alloc (.cells (xs ++ Value.slice S m d :: rest).toArray 25)) := (Below.refl _ _).drew.alloc (Nat.le_refl _) _
    have hall : AllS (xs ++ Value.slice S m d :: rest).toArray := by
      have := (h2.app (AllS.one S m d)).app h3
      simpa using this
    refine ⟨⟨by simp [h.1], .inr ⟨w.heap.size, _, rfl, hbase, heap_alloc_new w.drew _, h5, h6, by simpa using h4, hall, fun j u' hj => ?_⟩⟩, Grow.of hB hbase⟩
    obtain ⟨S', m', d', e, hc'⟩ := elems_app h.1 h1 hc h7 rest j u' hj
    exact ⟨S', m', d', by rw [List.getElem?_toArray]; exact e, hc'.below hB⟩
  rcases h.2 with ⟨rfl, rfl, rfl⟩ | ⟨g, cur, rfl, hbg, hg, hnc, hcm, hcs, hall, hu⟩
  · have hus : us = [] := List.eq_nil_of_length_eq_zero h.1
    subst hus
    have hr := run_append_nil (P := P) w t ty _ i _ ht hi hz ⟨b, o, none⟩ 1 cc [.slice S m d] (by rw [hs]; rfl) hnews (by omega) (by omega) (by rw [hb]; omega)
    have hge := grownCap_ge w 1 0 25
    have hle := grownCap_le_maxLen w 1 0 25 (by omega)
    obtain ⟨k1, k2⟩ := new [] (Builtin.zeroCells (Value.agg #[.slice none 0 0]).cells (grownCap w 1 0 25 - 1)).toList (grownCap w 1 0 25) rfl (fun j v e => by simp at e) (by simpa using AllS.zeros _) (by simp [size_zeroCells, Value.cells]; omega) hge hle (fun j u' e => by simp at e)
    have e0 : (([] : List Value) ++ Value.slice S m d :: (Builtin.zeroCells (Value.agg #[.slice none 0 0]).cells (grownCap w 1 0 25 - 1)).toList).toArray = [Value.slice S m d].toArray ++ Builtin.zeroCells (Value.agg #[.slice none 0 0]).cells (grownCap w 1 0 25 - 1) := by
      apply Array.ext'
      simp
    rw [e0] at k1 k2
    exact ⟨_, _, _, hr, k1, k2⟩
  · have hcl : cur.toList.length = c := by rw [Array.length_toList, hcs]
    have htl : (cur.toList.take n).length = n := by rw [List.length_take]; omega
    have hxs : ∀ (j u' : Nat), us[j]? = some u' → ∃ S m d, (cur.toList.take n)[j]? = some (Value.slice S m d) ∧ Cn w S m d u' := by
      intro j u' e
      obtain ⟨S', m', d', e1, e2⟩ := hu j u' e
      have hj : j < n := by rw [← h.1]; exact (List.getElem?_eq_some_iff.1 e).1
      exact ⟨S', m', d', by rw [List.getElem?_take_of_lt hj]; simpa using e1, e2⟩
    by_cases hroom : n + 1 ≤ c
    · have hr := run_append_room (P := P) w t ty _ i ht hi g n c cur hg ⟨b, o, none⟩ 1 cc [.slice S m d] (by rw [hs]; rfl) hnews (by intro v hv; simp at hv; subst hv; rfl) hroom (by rw [hs]; simp; omega)
      rw [hs, Nat.mul_one] at hr
      have hrest : AllS (cur.toList.drop (n + 1)).toArray := hall.drop_ _
      generalize hcs2 : (cur.toList.take n ++ [Value.slice S m d] ++ cur.toList.drop (n + [Value.slice S m d].length)).toArray = cs at hr
      have hall2 : AllS cs := by
        rw [← hcs2]
        have := ((hall.take_ n).app (AllS.one S m d)).app hrest
        simpa using this
      have hsz2 : cs.size = c := by rw [← hcs2]; simp; omega
      have hgr : w.grownBy (w.setRow g cs) (some g) := ⟨rfl, rfl, rfl, by simp, fun k _ hk => setRow_other w g k _ (fun e => hk (by rw [e]))⟩
      have hkeep : ∀ A n c u, Cn w A n c u → Cn (w.setRow g cs) A n c u := fun _ _ _ _ hq => cn_kept hq hg hall hgr
      refine ⟨_, _, _, hr, ⟨by simp [h.1], .inr ⟨g, cs, rfl, hbg, setRow_heap w g cur cs _ (0, 0) hg, hroom, hcm, hsz2, hall2, fun j u' hj => ?_⟩⟩, ⟨⟨rfl, rfl, rfl, by simp, fun k hk => setRow_other w g k _ (by omega)⟩, by simp, hkeep⟩⟩
      obtain ⟨S', m', d', e, hc'⟩ := elems_app h.1 htl hc hxs (cur.toList.drop (n + 1)) j u' hj
      refine ⟨S', m', d', ?_, hkeep _ _ _ _ hc'⟩
      rw [← hcs2, List.getElem?_toArray, List.append_assoc]
      exact e
    · have hholds : ∀ j v, (cur.toList.take n)[j]? = some v → w.cell? ((⟨g, 0, none⟩ : Addr).add j) = some v := by
        intro j v e
        have hadd : (⟨g, 0, none⟩ : Addr).add j = ⟨g, j, none⟩ := by unfold Addr.add; split <;> simp_all
        rw [hadd, cell_of_row w g j cur _ (0, 0) hg]
        rw [List.getElem?_take] at e
        split at e
        · simpa using e
        · cases e
      have hr := run_append_grow (P := P) w t ty _ i _ ht hi hz ⟨g, 0, none⟩ n c (cur.toList.take n) (by rw [hs, htl, Nat.mul_one]) hholds ⟨b, o, none⟩ 1 cc [.slice S m d] (by rw [hs]; rfl) hnews (by omega) (by omega) (growslice_fits (by omega) (by rw [hb]; have : (n + 1) * bytes ≤ 100000 * 24 := Nat.mul_le_mul hN hby; omega))
      have hge := grownCap_ge w (n + 1) c 25
      have hle := grownCap_le_maxLen w (n + 1) c 25 (by omega)
      obtain ⟨k1, k2⟩ := new (cur.toList.take n) (Builtin.zeroCells (Value.agg #[.slice none 0 0]).cells (grownCap w (n + 1) c 25 - (n + 1))).toList (grownCap w (n + 1) c 25) htl (hall.take_ n) (by simpa using AllS.zeros _) (by simp only [List.length_append, htl, List.length_cons, Array.length_toList, size_zeroCells]; simp [Value.cells]; omega) hge hle hxs
      have e0 : (cur.toList.take n ++ Value.slice S m d :: (Builtin.zeroCells (Value.agg #[.slice none 0 0]).cells (grownCap w (n + 1) c 25 - (n + 1))).toList).toArray = (cur.toList.take n).toArray ++ [Value.slice S m d].toArray ++ Builtin.zeroCells (Value.agg #[.slice none 0 0]).cells (grownCap w (n + 1) c 25 - (n + 1)) := by
        apply Array.ext'
        simp
      rw [e0] at k1 k2
      exact ⟨_, _, _, hr, k1, k2⟩
section
variable {P : Program} {w : World} {ops : Array Oper} {rest : List Oper} {o : Oper} {a : Act} {Q : Exit → Act → World → Prop}
theorem wp_append_nr {K : Act → World → Prop} (s x : Operand) (t : TypeId)
    (ho : o.op = .call { callee := .builtin .append, args := #[s, x], argTypes := #[t, t] }) (bytes : Nat) (ht : P.underlying t = some (.slice 25))
    (h2 : (P.info? 25).map (fun i => (i.zero, i.size, i.bytes)) = some (some (.agg #[.slice none 0 0]), 1, bytes))
    (base : Nat) (A : Option Addr) (n c : Nat) (us : List Nat) (hs : a.eval s = .slice A n c) (h : NR w base A n c us) (b b2 cc : Nat) (S : Option Addr) (m d u : Nat) (hxe : a.eval x = .slice (some ⟨b, b2, none⟩) 1 cc) (hx : w.cell? ⟨b, b2, none⟩ = some (.slice S m d)) (hc : Cn w S m d u) (hby : bytes ≤ 24) (p : Nat) (hp : p = n + 1) (hN : p ≤ 100000) (hbase : base ≤ w.heap.size)
    (hK : ∀ A' c' w', NR w' base A' p c' (us ++ [u]) → Grow base w w' → K (a.put o.dst (.slice A' p c')) w') : o.wp P a w K Q := by
  subst hp
  obtain ⟨A', c', w', hrun, h3, h4⟩ := run_append_nr (P := P) w t o.type bytes ht h2 h b b2 cc hx hc hby hN hbase
  unfold Oper.wp execOp
  simp only [ho, resolve, invoke, builtin, Sem.run_bind, Sem.run_pure, Result.andThen_ok, List.map_toArray, List.map_cons, List.map_nil, hs, hxe, hrun]
  exact hK _ _ _ h3 h4
theorem wpList_append_nr (hgd : o.guard = none) (s x : Operand) (t : TypeId)
    (ho : o.op = .call { callee := .builtin .append, args := #[s, x], argTypes := #[t, t] }) (bytes : Nat) (ht : P.underlying t = some (.slice 25))
    (h2 : (P.info? 25).map (fun i => (i.zero, i.size, i.bytes)) = some (some (.agg #[.slice none 0 0]), 1, bytes))
    (base : Nat) (A : Option Addr) (n c : Nat) (us : List Nat) (hs : a.eval s = .slice A n c) (h : NR w base A n c us) (b b2 cc : Nat) (S : Option Addr) (m d u : Nat) (hxe : a.eval x = .slice (some ⟨b, b2, none⟩) 1 cc) (hx : w.cell? ⟨b, b2, none⟩ = some (.slice S m d)) (hc : Cn w S m d u) (hby : bytes ≤ 24) (p : Nat) (hp : p = n + 1) (hN : p ≤ 100000) (hbase : base ≤ w.heap.size)
    (hK : ∀ A' c' w', NR w' base A' p c' (us ++ [u]) → Grow base w w' → wpList P ops Q rest (a.put o.dst (.slice A' p c')) w') : wpList P ops Q (o :: rest) a w :=
  wpList_plain hgd fun _ hk => wp_append_nr s x t ho bytes ht h2 base A n c us hs h b b2 cc S m d u hxe hx hc hby p hp hN hbase fun A' c' w' h3 h4 => hk _ _ (hK A' c' w' h3 h4)
theorem step_append_nr {K : Act → World → Prop} {E : Prop} (hgd : o.guard = none) (s x : Operand) (t : TypeId)
    (ho : o.op = .call { callee := .builtin .append, args := #[s, x], argTypes := #[t, t] }) (bytes : Nat) (ht : P.underlying t = some (.slice 25))
    (h2 : (P.info? 25).map (fun i => (i.zero, i.size, i.bytes)) = some (some (.agg #[.slice none 0 0]), 1, bytes))
    (base : Nat) (A : Option Addr) (n c : Nat) (us : List Nat) (hs : a.eval s = .slice A n c) (h : NR w base A n c us) (b b2 cc : Nat) (S : Option Addr) (m d u : Nat) (hxe : a.eval x = .slice (some ⟨b, b2, none⟩) 1 cc) (hx : w.cell? ⟨b, b2, none⟩ = some (.slice S m d)) (hc : Cn w S m d u) (hby : bytes ≤ 24) (p : Nat) (hp : p = n + 1) (hN : p ≤ 100000) (hbase : base ≤ w.heap.size)
    (hK : ∀ A' c' w', NR w' base A' p c' (us ++ [u]) → Grow base w w' → K (a.put o.dst (.slice A' p c')) w') :
    if Region.wanted o (yielded ops a.tmps) = true then Oper.wp P o a w K Q else E := by
  have hw : Region.wanted o (yielded ops a.tmps) = true := by simp [Region.wanted, hgd]
  rw [if_pos hw]
  exact wp_append_nr s x t ho bytes ht h2 base A n c us hs h b b2 cc S m d u hxe hx hc hby p hp hN hbase hK
end

/-- block g is N naturals, the j-th of value f j -/
def FB (w : World) (g N : Nat) (f : Nat → Nat) : Prop :=
  ∃ cur, Box w g cur 25 ∧ cur.size = N ∧ AllS cur ∧ ∀ j, j < N → ∃ S m d, cur[j]? = some (.slice S m d) ∧ Cn w S m d (f j)
section
variable {w w' : World} {g N : Nat} {f : Nat → Nat}
theorem FB.at_ (h : FB w g N f) {j : Nat} (hj : j < N) : ∃ S m d, w.cell? ⟨g, j, none⟩ = some (.slice S m d) ∧ Cn w S m d (f j) := by
  obtain ⟨cur, h1, _, _, h4⟩ := h
  obtain ⟨S, m, d, e, hc⟩ := h4 j hj
  exact ⟨S, m, d, (h1.at_ j).trans e, hc⟩
theorem FB.frozen (h : FB w g N f) (j : Nat) : w.frozen? ⟨g, j, none⟩ = false := by
  obtain ⟨cur, h1, _⟩ := h
  exact h1.frozen j
theorem FB.lt (h : FB w g N f) : g < w.heap.size := by
  obtain ⟨cur, h1, _⟩ := h
  exact h1.lt
theorem FB.below (h : FB w g N f) (hb : Below w.heap.size w w') : FB w' g N f := by
  obtain ⟨cur, h1, h2, h3, h4⟩ := h
  refine ⟨cur, h1.below' hb, h2, h3, fun j hj => ?_⟩
  obtain ⟨S, m, d, e, hc⟩ := h4 j hj
  exact ⟨S, m, d, e, hc.below hb⟩
theorem FB.cn (h : FB w g N f) {S : Option Addr} {m d x : Nat} (hc : Cn w S m d x) (i : Nat) (v : Value) : Cn (w.setCell ⟨g, i, none⟩ v) S m d x := by
  obtain ⟨cur, h1, _, h3, _⟩ := h
  exact hc.far h1 h3.noInt v
theorem FB.cast (h : FB w g N f) {f' : Nat → Nat} (e : ∀ j, j < N → f j = f' j) : FB w g N f' := by
  obtain ⟨cur, h1, h2, h3, h4⟩ := h
  refine ⟨cur, h1, h2, h3, fun j hj => ?_⟩
  rw [← e j hj]
  exact h4 j hj
theorem FB.put (h : FB w g N f) {S : Option Addr} {m d x : Nat} (hc : Cn w S m d x) (i : Nat) : FB (w.setCell ⟨g, i, none⟩ (.slice S m d)) g N (fun j => if j = i then x else f j) := by
  have hcn : ∀ {S' : Option Addr} {m' d' x' : Nat}, Cn w S' m' d' x' → Cn (w.setCell ⟨g, i, none⟩ (.slice S m d)) S' m' d' x' := fun hq => h.cn hq i _
  obtain ⟨cur, h1, h2, h3, h4⟩ := h
  refine ⟨_, h1.set_ i (.slice S m d), by simp [h2], ?_, fun j hj => ?_⟩
  · intro j v e
    rw [Array.getElem?_setIfInBounds] at e
    split at e
    · split at e
      · injection e with e; exact ⟨S, m, d, e.symm⟩
      · cases e
    · exact h3 j v e
  · by_cases hji : j = i
    · subst hji
      refine ⟨S, m, d, ?_, by show Cn _ S m d (if j = j then x else f j); rw [if_pos rfl]; exact hcn hc⟩
      rw [Array.getElem?_setIfInBounds, if_pos rfl, if_pos (by omega)]
    · obtain ⟨S', m', d', e, hq⟩ := h4 j hj
      refine ⟨S', m', d', ?_, by show Cn _ S' m' d' (if j = i then x else f j); rw [if_neg hji]; exact hcn hq⟩
      rw [Array.getElem?_setIfInBounds, if_neg (fun h => hji h.symm)]
      exact e
/-- a store elsewhere, into a block without numbers -/
theorem FB.far (h : FB w g N f) {k i : Nat} {vs : Array Value} {t : TypeId} (hk : Box w k vs t) (hv : NoInt vs) (hne : g ≠ k) (v : Value) : FB (w.setCell ⟨k, i, none⟩ v) g N f := by
  obtain ⟨cur, h1, h2, h3, h4⟩ := h
  refine ⟨cur, h1.far hne v, h2, h3, fun j hj => ?_⟩
  obtain ⟨S, m, d, e, hc⟩ := h4 j hj
  exact ⟨S, m, d, e, hc.far hk hv v⟩
end
theorem madeN (w : World) (n : Nat) : FB (w.alloc (.cells (madeCells #[.slice none 0 0] n) 25)) w.heap.size n (fun _ => 0) := by
  have at_ : ∀ (j : Nat) (v : Value), (madeCells #[.slice none 0 0] n)[j]? = some v → v = .slice none 0 0 := by
    intro j v e
    unfold madeCells at e
    rw [Array.getElem?_map] at e
    obtain ⟨i, -, e2⟩ := Option.map_eq_some_iff.1 e
    have e3 : (#[Value.slice none 0 0] : Array Value).size = 1 := rfl
    rw [e3, Nat.mod_one] at e2
    exact e2.symm
  refine ⟨_, Box.new _ _ _, size_madeCells _ _, fun j v e => ⟨none, 0, 0, at_ j v e⟩, fun j hj => ⟨none, 0, 0, ?_, RL.nil_, by omega, by simp [maxLen]⟩⟩
  have hs : j < (madeCells #[.slice none 0 0] n).size := by rw [size_madeCells]; exact hj
  rw [Array.getElem?_eq_getElem hs]
  rw [at_ j _ (Array.getElem?_eq_getElem hs)]
/-- 'make([]Natural, n)' -/
theorem wpList_make_nat {P : Program} (w : World) {ops : Array Oper} {rest : List Oper} {o : Oper} {a : Act} {Q : Exit → Act → World → Prop}
    (hg : o.guard = none) (l c : Operand) (t : TypeId) (hop : o.op = Op.makeSlice t l c)
    (bytes : Nat) (h1 : P.underlying t = some (.slice 25)) (h2 : (P.info? 25).map (fun i => (i.zero, i.size, i.bytes)) = some (some (.agg #[.slice none 0 0]), 1, bytes))
    (kl kc : IntKind) (L C : Int) (n : Nat) (hl : a.eval l = .int kl L) (hc : a.eval c = .int kc C) (hL : L = (n : Int)) (hC : C = (n : Int)) (hby : bytes ≤ 24) (hn : n ≤ 100000)
    (hK : ∀ (g : Nat) (w' : World), w.heap.size ≤ g → FB w' g n (fun _ => 0) → Below w.heap.size w w' → wpList P ops Q rest (a.put o.dst (.slice (some ⟨g, 0, none⟩) n n)) w') :
    wpList P ops Q (o :: rest) a w := by
  refine wpList_plain hg fun K hK' => ?_
  obtain ⟨i, hi, hz, hs, hb⟩ := info_parts h2
  have hbb : (i.bytes : Int) * (n : Int) ≤ 281474976710656 := by
    have h : i.bytes * n ≤ 24 * 100000 := Nat.mul_le_mul (by omega) hn
    have h' : ((i.bytes * n : Nat) : Int) ≤ 281474976710656 := by omega
    rwa [Int.natCast_mul] at h'
  have hr := run_make (P := P) w t _ i _ h1 hi hz kl kc (n : Int) (n : Int) (by omega) (Int.le_refl _) hbb (by omega)
  simp only [Int.toNat_natCast, hs, Nat.mul_one] at hr
  have ec : (Value.agg #[Value.slice none 0 0]).cells = #[Value.slice none 0 0] := rfl
  rw [ec] at hr
  subst hL
  subst hC
  unfold Oper.wp
  simp [execOp, hop, hl, hc, hr, Result.andThen]
  exact hK' _ _ (hK _ _ (Nat.le_refl _) (madeN w n) ((Below.refl _ _).alloc (Nat.le_refl _) _))
theorem nat_info : (Tryd.prog.info? 25).map (fun i => (i.zero, i.size, i.bytes)) = some (some (.agg #[.slice none 0 0]), 1, 24) := by kernel_rfl
end Go.Proofs.YtjmiaodjapclbaaDoor
