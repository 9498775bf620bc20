/- What opinion answers: Diff, Apply, Invert, Compose, Merge; the laws of the answers. -/
import Derived.Test.YtadmiecoahohiaaUM
namespace Go.Proofs.Ytadmiecoahohiaa
open Go Go.RowKit Go.Lib
instance {α : Type} (κ : α → Int) (l : List α) : Decidable (Srt κ l) := by unfold Srt; infer_instance
def vE (l : List Ent) : Bool := decide (l.length ≤ 64 ∧ Srt Ent.k l)
def vC (l : List Chg) : Bool := decide (l.length ≤ 64 ∧ Srt Chg.k l ∧ ∀ x ∈ l, One x)
theorem vE_iff {l : List Ent} : vE l = true ↔ l.length ≤ 64 ∧ Srt Ent.k l := decide_eq_true_iff
theorem vC_iff {l : List Chg} : vC l = true ↔ l.length ≤ 64 ∧ Srt Chg.k l ∧ ∀ x ∈ l, One x := decide_eq_true_iff
/-- a result, unless it is too long -/
def full {α : Type} (l : List α) : List α × Int := if l.length ≤ 64 then (l, 0) else ([], 6)
def difK (a b : List Ent) : List Int := kset (a.map Ent.k ++ b.map Ent.k)
def difL (a b : List Ent) : List Chg := mkC (difK a b) (at' a) (at' b)
def difR (a b : List Ent) : List Chg × Int := if (vE a && vE b) = true then full (difL a b) else ([], 1)
def apK (a : List Ent) (c : List Chg) : List Int := kset (a.map Ent.k ++ c.map Chg.k)
def nwC (a : List Ent) (c : List Chg) (k : Int) : Sd := match hitC c k with
  | some x => x.new
  | none => at' a k
def apL (a : List Ent) (c : List Chg) : List Ent := mkE' (apK a c) (nwC a c)
def cfA1 (a : List Ent) (x : Chg) : Bool := decide (at' a x.k ≠ x.old)
def cfA (a : List Ent) (c : List Chg) : Bool := c.any (cfA1 a)
def appR (a : List Ent) (c : List Chg) : List Ent × Int := if (vE a && vC c) = true then if cfA a c = true then ([], 10) else full (apL a c) else ([], 1)
def invR (c : List Chg) : List Chg × Int := if vC c = true then (inv c, 0) else ([], 1)
def coK (c d : List Chg) : List Int := kset (c.map Chg.k ++ d.map Chg.k)
def co2 (x y : Chg) : Option Chg := if x.old = y.new then none else some (chg x.k x.old y.new)
def coO (c d : List Chg) (k : Int) : Option Chg := match hitC c k with
  | some x => match hitC d k with
    | some y => co2 x y
    | none => some x
  | none => hitC d k
def coL (c d : List Chg) : List Chg := (coK c d).filterMap (coO c d)
def cfC1 (d : List Chg) (x : Chg) : Bool := match hitC d x.k with
  | some y => decide (x.new ≠ y.old)
  | none => false
def cfC (c d : List Chg) : Bool := c.any (cfC1 d)
def comR (c d : List Chg) : List Chg × Int := if (vC c && vC d) = true then if cfC c d = true then ([], 10) else full (coL c d) else ([], 1)
def me1 (o x y : Sd) : Sd := if x = y ∨ y = o then x else if x = o then y else o
def bad1 (o x y : Sd) : Bool := decide (x ≠ y ∧ y ≠ o ∧ x ≠ o)
def meK (o a b : List Ent) : List Int := kset (o.map Ent.k ++ (a.map Ent.k ++ b.map Ent.k))
def meL (o a b : List Ent) : List Ent := mkE' (meK o a b) fun k => me1 (at' o k) (at' a k) (at' b k)
def meB (o a b : List Ent) : List Int := (meK o a b).filter fun k => bad1 (at' o k) (at' a k) (at' b k)
def merR (o a b : List Ent) : List Ent × List Int × Int := if (vE o && (vE a && vE b)) = true then if (meL o a b).length ≤ 64 ∧ (meB o a b).length ≤ 64 then (meL o a b, meB o a b, 0) else ([], [], 6) else ([], [], 1)
theorem mem_difK {a b : List Ent} {k : Int} : k ∈ difK a b ↔ (∃ e ∈ a, e.k = k) ∨ ∃ e ∈ b, e.k = k := by
  unfold difK
  rw [mem_kset, List.mem_append, List.mem_map, List.mem_map]
theorem mem_apK {a : List Ent} {c : List Chg} {k : Int} : k ∈ apK a c ↔ (∃ e ∈ a, e.k = k) ∨ ∃ e ∈ c, e.k = k := by
  unfold apK
  rw [mem_kset, List.mem_append, List.mem_map, List.mem_map]
theorem mem_coK {a b : List Chg} {k : Int} : k ∈ coK a b ↔ (∃ e ∈ a, e.k = k) ∨ ∃ e ∈ b, e.k = k := by
  unfold coK
  rw [mem_kset, List.mem_append, List.mem_map, List.mem_map]
theorem at_ex {l : List Ent} {k : Int} (h : at' l k ≠ Sd.no) : ∃ e ∈ l, e.k = k := by
  unfold at' at h
  cases hh : hitE l k with
  | none => rw [hh] at h; exact absurd rfl h
  | some e => exact ⟨e, find_some (κ := Ent.k) hh⟩
theorem at_ne {a b : List Ent} {k : Int} (h : at' a k ≠ at' b k) : k ∈ difK a b := by
  rw [mem_difK]
  by_cases h1 : at' a k = Sd.no
  · exact .inr (at_ex fun h2 => h (h1.trans h2.symm))
  · exact .inl (at_ex h1)
theorem one_chg {k : Int} {f t : Sd} (hf : Nrm f) (ht : Nrm t) (h : f ≠ t) : One (chg k f t) := ⟨hf, ht, h⟩
theorem vC_dif {a b : List Ent} (h : (difL a b).length ≤ 64) : vC (difL a b) = true := by
  refine vC_iff.2 ⟨h, srt_mkC (srt_kset _) _ _, fun x hx => ?_⟩
  obtain ⟨_, h2, h3, h4⟩ := mem_mkC.1 hx
  refine ⟨?_, ?_, ?_⟩
  · rw [h2]; exact at_nrm _ _
  · rw [h3]; exact at_nrm _ _
  · rw [h2, h3]; exact h4
theorem dif_inv (a b : List Ent) : inv (difL a b) = difL b a := by
  unfold difL
  rw [inv_mkC]
  congr 1
  exact kset_ext fun k => by rw [List.mem_append, List.mem_append]; exact Or.comm
theorem dif_self (a : List Ent) : difL a a = [] := by
  unfold difL mkC
  rw [List.filterMap_eq_nil_iff]
  intro k _
  unfold chO
  rw [if_pos rfl]
theorem hit_dif (a b : List Ent) (k : Int) : hitC (difL a b) k = if at' a k ≠ at' b k then some (chg k (at' a k) (at' b k)) else none := by
  unfold difL
  rw [hit_mkC (K := difK a b) (srt_kset _)]
  by_cases h : at' a k ≠ at' b k
  · rw [if_pos h, if_pos ⟨at_ne h, h⟩]
  · rw [if_neg h, if_neg fun h2 => h h2.2]
theorem cfA_dif (a b : List Ent) : cfA a (difL a b) = false := by
  unfold cfA
  rw [List.any_eq_false]
  intro x hx
  obtain ⟨_, h2, _, _⟩ := mem_mkC.1 hx
  unfold cfA1
  rw [decide_eq_true_eq]
  exact fun h => h h2.symm
theorem nwC_dif (a b : List Ent) (k : Int) : nwC a (difL a b) k = at' b k := by
  unfold nwC
  rw [hit_dif]
  by_cases h : at' a k = at' b k
  · rw [if_neg fun h2 => h2 h]; exact h
  · rw [if_pos h]; rfl
theorem ap_dif {a b : List Ent} (hb : Srt Ent.k b) : apL a (difL a b) = b := by
  unfold apL
  rw [show nwC a (difL a b) = at' b from funext fun k => nwC_dif a b k]
  refine mkE_at (srt_kset _) hb fun e he => mem_apK.2 ?_
  by_cases h : at' a e.k = at' b e.k
  · refine .inl (at_ex fun h2 => ?_)
    rw [h, at_in hb he] at h2
    exact Bool.noConfusion (congrArg Sd.i h2)
  · exact .inr ⟨chg e.k (at' a e.k) (at' b e.k), mem_mkC.2 ⟨at_ne h, rfl, rfl, h⟩, rfl⟩
theorem difR_ok {a b : List Ent} (ha : vE a = true) (hb : vE b = true) : difR a b = full (difL a b) := by unfold difR; rw [ha, hb]; rfl
theorem full_ok {α : Type} {l : List α} (h : l.length ≤ 64) : full l = (l, 0) := if_pos h
theorem full_no {α : Type} {l : List α} (h : ¬ l.length ≤ 64) : full l = ([], 6) := if_neg h
theorem appR_dif {a b : List Ent} (ha : vE a = true) (hb : vE b = true) (h : (difL a b).length ≤ 64) : appR a (difL a b) = (b, 0) := by
  unfold appR
  rw [ha, vC_dif h, cfA_dif, ap_dif (vE_iff.1 hb).2]
  exact full_ok (vE_iff.1 hb).1
theorem invR_dif {a b : List Ent} (h : (difL a b).length ≤ 64) : invR (difL a b) = (difL b a, 0) := by
  unfold invR
  rw [if_pos (vC_dif h), dif_inv]
theorem len_dif (a b : List Ent) : (difL a b).length = (difL b a).length := by rw [← dif_inv, len_inv]
theorem cfC_dif (a b c : List Ent) : cfC (difL a b) (difL b c) = false := by
  unfold cfC
  rw [List.any_eq_false]
  intro x hx
  obtain ⟨_, _, h3, _⟩ := mem_mkC.1 hx
  unfold cfC1
  rw [hit_dif]
  by_cases h : at' b x.k = at' c x.k
  · rw [if_neg fun h2 => h2 h]; exact fun h => by cases h
  · rw [if_pos h, decide_eq_true_eq]
    exact fun h => h h3
theorem coO_dif (a b c : List Ent) (k : Int) : coO (difL a b) (difL b c) k = chO (at' a) (at' c) k := by
  unfold coO chO
  rw [hit_dif, hit_dif]
  by_cases h : at' a k = at' b k
  · rw [if_neg fun h2 => h2 h]
    by_cases h2 : at' b k = at' c k
    · rw [if_pos (h.trans h2)]
      exact if_neg fun h3 => h3 h2
    · rw [if_neg fun h3 => h2 (h.symm.trans h3), h]
      exact if_pos h2
  · rw [if_pos h]
    by_cases h2 : at' b k = at' c k
    · rw [if_neg fun h3 => h3 h2, ← h2, if_neg h]
    · rw [if_pos h2]
      rfl
theorem co_dif (a b c : List Ent) : coL (difL a b) (difL b c) = difL a c := by
  unfold coL
  rw [show coO (difL a b) (difL b c) = chO (at' a) (at' c) from funext fun k => coO_dif a b c k]
  refine mkC_ext (srt_kset _) (srt_kset _) fun k x y => ?_
  constructor
  · rintro ⟨_, h1, h2, h3⟩
    exact ⟨at_ne h3, h1, h2, h3⟩
  · rintro ⟨_, h1, h2, h3⟩
    refine ⟨mem_coK.2 ?_, h1, h2, h3⟩
    by_cases h : at' a k = at' b k
    · have h4 : at' b k ≠ at' c k := fun e => h3 (h.trans e)
      exact .inr ⟨chg k (at' b k) (at' c k), mem_mkC.2 ⟨at_ne h4, rfl, rfl, h4⟩, rfl⟩
    · exact .inl ⟨chg k (at' a k) (at' b k), mem_mkC.2 ⟨at_ne h, rfl, rfl, h⟩, rfl⟩
theorem comR_dif {a b c : List Ent} (h1 : (difL a b).length ≤ 64) (h2 : (difL b c).length ≤ 64) : comR (difL a b) (difL b c) = full (difL a c) := by
  unfold comR
  rw [vC_dif h1, vC_dif h2, cfC_dif, co_dif]
  rfl
theorem co2_one {x y : Chg} {z : Chg} (hx : One x) (hy : One y) (h : co2 x y = some z) : One z := by
  unfold co2 at h
  split at h
  · cases h
  · rename_i hne
    injection h with h
    subst h
    exact ⟨hx.1, hy.2.1, hne⟩
theorem coO_key {c d : List Chg} {k : Int} {z : Chg} (h : coO c d k = some z) : z.k = k := by
  unfold coO at h
  cases hc : hitC c k with
  | none => rw [hc] at h; exact (find_some (κ := Chg.k) h).2
  | some x =>
    rw [hc] at h
    have hx := (find_some (κ := Chg.k) hc).2
    cases hd : hitC d k with
    | none =>
      rw [hd] at h
      injection h with h
      rw [← h]; exact hx
    | some y =>
      rw [hd] at h
      unfold co2 at h
      simp only at h
      split at h
      · cases h
      · injection h with h
        rw [← h]; exact hx
theorem srt_coL (c d : List Chg) : Srt Chg.k (coL c d) := srt_fm (srt_kset _) fun _ _ h => coO_key h
theorem vC_co {c d : List Chg} (hc : vC c = true) (hd : vC d = true) (h : (coL c d).length ≤ 64) : vC (coL c d) = true := by
  refine vC_iff.2 ⟨h, srt_coL c d, fun z hz => ?_⟩
  unfold coL at hz
  rw [List.mem_filterMap] at hz
  obtain ⟨k, _, hz⟩ := hz
  have c1 := (vC_iff.1 hc).2.2
  have d1 := (vC_iff.1 hd).2.2
  unfold coO at hz
  cases hh : hitC c k with
  | none => rw [hh] at hz; exact d1 z (find_some (κ := Chg.k) hz).1
  | some x =>
    rw [hh] at hz
    have hx := c1 x (find_some (κ := Chg.k) hh).1
    cases hy : hitC d k with
    | none =>
      rw [hy] at hz
      injection hz with hz
      rw [← hz]; exact hx
    | some y =>
      rw [hy] at hz
      exact co2_one hx (d1 y (find_some (κ := Chg.k) hy).1) hz
theorem me1_comm (o x y : Sd) : me1 o x y = me1 o y x := by
  unfold me1
  by_cases h1 : x = y
  · subst h1; rfl
  · by_cases h2 : y = o
    · subst h2
      rw [if_pos (.inr rfl), if_neg (by rintro (h | h); exact h1 h.symm; exact h1 h), if_pos rfl]
    · by_cases h3 : x = o
      · subst h3
        rw [if_neg (by rintro (h | h); exact h1 h; exact h2 h), if_pos rfl, if_pos (.inr rfl)]
      · rw [if_neg (by rintro (h | h); exact h1 h; exact h2 h), if_neg h3, if_neg (by rintro (h | h); exact h1 h.symm; exact h3 h), if_neg h2]
theorem bad1_comm (o x y : Sd) : bad1 o x y = bad1 o y x := by
  unfold bad1
  refine decide_eq_decide.2 ⟨?_, ?_⟩
  · rintro ⟨h1, h2, h3⟩; exact ⟨fun h => h1 h.symm, h3, h2⟩
  · rintro ⟨h1, h2, h3⟩; exact ⟨fun h => h1 h.symm, h3, h2⟩
theorem meK_comm (o a b : List Ent) : meK o a b = meK o b a := kset_ext fun k => by simp only [List.mem_append]; constructor <;> (rintro (h | h | h) <;> simp [h])
theorem mer_comm (o a b : List Ent) : merR o a b = merR o b a := by
  have h1 : meL o a b = meL o b a := by unfold meL; rw [meK_comm]; congr 1; funext k; exact me1_comm _ _ _
  have h2 : meB o a b = meB o b a := by unfold meB; rw [meK_comm]; congr 1; funext k; exact bad1_comm _ _ _
  unfold merR
  rw [h1, h2, Bool.and_comm (vE a)]
theorem mem_meK {o a b : List Ent} {k : Int} : k ∈ meK o a b ↔ (∃ e ∈ o, e.k = k) ∨ (∃ e ∈ a, e.k = k) ∨ ∃ e ∈ b, e.k = k := by
  unfold meK
  rw [mem_kset, List.mem_append, List.mem_append, List.mem_map, List.mem_map, List.mem_map]
theorem mer_side1 {o a : List Ent} (ho : vE o = true) (ha : vE a = true) : merR o o a = (a, [], 0) := by
  have h1 : meL o o a = a := by
    unfold meL
    rw [show (fun k => me1 (at' o k) (at' o k) (at' a k)) = at' a from funext fun k => by
      unfold me1
      by_cases h : at' o k = at' a k ∨ at' a k = at' o k
      · rw [if_pos h]; rcases h with h | h; exact h; exact h.symm
      · rw [if_neg h, if_pos rfl]]
    exact mkE_at (srt_kset _) (vE_iff.1 ha).2 fun e he => mem_meK.2 (.inr (.inr ⟨e, he, rfl⟩))
  have h2 : meB o o a = [] := by
    unfold meB
    rw [List.filter_eq_nil_iff]
    intro k _ h
    unfold bad1 at h
    rw [decide_eq_true_eq] at h
    exact h.2.2 rfl
  unfold merR
  rw [h1, h2, ho, ha, if_pos (show (true && (true && true)) = true from rfl), if_pos ⟨(vE_iff.1 ha).1, by decide⟩]
theorem mer_side2 {o a : List Ent} (ho : vE o = true) (ha : vE a = true) : merR o a a = (a, [], 0) := by
  have h1 : meL o a a = a := by
    unfold meL
    rw [show (fun k => me1 (at' o k) (at' a k) (at' a k)) = at' a from funext fun k => by
      unfold me1
      rw [if_pos (.inl rfl)]]
    exact mkE_at (srt_kset _) (vE_iff.1 ha).2 fun e he => mem_meK.2 (.inr (.inr ⟨e, he, rfl⟩))
  have h2 : meB o a a = [] := by
    unfold meB
    rw [List.filter_eq_nil_iff]
    intro k _ h
    unfold bad1 at h
    rw [decide_eq_true_eq] at h
    exact h.1 rfl
  unfold merR
  rw [h1, h2, ho, ha, if_pos (show (true && (true && true)) = true from rfl), if_pos ⟨(vE_iff.1 ha).1, by decide⟩]
/-- what is there once, in any order, and then sorted -/
theorem perm_fin {α : Type} [DecidableEq α] {κ : α → Int} {P L : List α} (hP : P.Pairwise fun x y => κ x ≠ κ y) (hL : Srt κ L) (hm : ∀ x, x ∈ P ↔ x ∈ L) : P.length = L.length ∧ ∀ zs : List α, zs.Perm P → zs.Pairwise (fun x y => κ x ≤ κ y) → zs = L := by
  have n1 : P.Nodup := hP.imp fun h e => h (by rw [e])
  have n2 : L.Nodup := hL.imp fun h e => by rw [e] at h; exact Int.lt_irrefl _ h
  refine ⟨((List.perm_ext_iff_of_nodup n1 n2).2 hm).length_eq, fun zs hp hs => srt_ext ?_ hL fun x => by rw [hp.mem_iff, hm]⟩
  have h2 := hp.symm.pairwise hP fun h e => h e.symm
  exact (List.Pairwise.and hs h2).imp fun {x y} h => by
    have h1 := h.1
    have h3 := h.2
    omega
/-- what Apply gathers before it sorts -/
def ap1 (x : Chg) : Option Ent := if x.s = true then some ⟨x.k, x.n⟩ else none
def apP (a : List Ent) (c : List Chg) : List Ent := c.filterMap ap1 ++ a.filter fun e => (hitC c e.k).isNone
theorem ap1_some {x : Chg} {e : Ent} : ap1 x = some e ↔ x.k = e.k ∧ x.new = ⟨e.v, true⟩ := by
  unfold ap1 Chg.new
  cases hs : x.s with
  | true =>
    rw [if_pos rfl]
    constructor
    · intro h; injection h with h; subst h; exact ⟨rfl, rfl⟩
    · rintro ⟨h1, h2⟩; injection h2 with h2; rw [h1, h2]
  | false =>
    rw [if_neg (by decide)]
    constructor
    · intro h; cases h
    · rintro ⟨_, h2⟩; injection h2 with _ h2; cases h2
theorem isNone_hit {c : List Chg} {k : Int} : (hitC c k).isNone = true ↔ ∀ x ∈ c, x.k ≠ k := by
  rw [Option.isNone_iff_eq_none, hitC_none]
theorem ap_fin {a : List Ent} {c : List Chg} (ha : Srt Ent.k a) (hc : Srt Chg.k c) : (apP a c).length = (apL a c).length ∧ ∀ zs : List Ent, zs.Perm (apP a c) → zs.Pairwise (fun x y => x.k ≤ y.k) → zs = apL a c := by
  refine perm_fin (κ := Ent.k) ?_ (srt_mkE (srt_kset _) _) fun e => ?_
  · unfold apP
    rw [List.pairwise_append]
    refine ⟨?_, (ha.filter _).imp fun h => by omega, fun x hx y hy => ?_⟩
    · refine List.Pairwise.filterMap (R := fun x y : Chg => x.k < y.k) ap1 (fun x x' h e he e' he' => ?_) hc
      have h1 := (ap1_some.1 he).1
      have h2 := (ap1_some.1 he').1
      omega
    · rw [List.mem_filterMap] at hx
      obtain ⟨z, hz, hx⟩ := hx
      rw [List.mem_filter, isNone_hit] at hy
      have h1 := hy.2 z hz
      have h2 := (ap1_some.1 hx).1
      omega
  · unfold apP apL
    rw [List.mem_append, mem_mkE, List.mem_filterMap, List.mem_filter, isNone_hit, mem_apK]
    constructor
    · rintro (⟨x, hx, h⟩ | ⟨he, h⟩)
      · obtain ⟨h1, h2⟩ := ap1_some.1 h
        refine ⟨.inr ⟨x, hx, h1⟩, ?_⟩
        unfold nwC
        rw [(hitC_iff hc).2 ⟨hx, h1⟩]
        exact h2
      · refine ⟨.inl ⟨e, he, rfl⟩, ?_⟩
        unfold nwC
        rw [hitC_none.2 h]
        exact at_in ha he
    · rintro ⟨_, h⟩
      unfold nwC at h
      cases hh : hitC c e.k with
      | some x =>
        rw [hh] at h
        obtain ⟨h1, h2⟩ := (hitC_iff hc).1 hh
        exact .inl ⟨x, h1, ap1_some.2 ⟨h2, h⟩⟩
      | none =>
        rw [hh] at h
        refine .inr ⟨?_, hitC_none.1 hh⟩
        have h3 := at_is (l := a) (k := e.k) (by rw [show at' a e.k = _ from h])
        rw [show at' a e.k = _ from h] at h3
        exact h3
/-- what Compose gathers before it sorts -/
def co1 (d : List Chg) (x : Chg) : Option Chg := match hitC d x.k with
  | some y => co2 x y
  | none => some x
def coP (c d : List Chg) : List Chg := c.filterMap (co1 d) ++ d.filter fun y => (hitC c y.k).isNone
theorem co1_is {c d : List Chg} (hc : Srt Chg.k c) {x : Chg} (hx : x ∈ c) : co1 d x = coO c d x.k := by
  unfold co1 coO
  rw [(hitC_iff hc).2 ⟨hx, rfl⟩]
theorem co_fin {c d : List Chg} (hc : Srt Chg.k c) (hd : Srt Chg.k d) : (coP c d).length = (coL c d).length ∧ ∀ zs : List Chg, zs.Perm (coP c d) → zs.Pairwise (fun x y => x.k ≤ y.k) → zs = coL c d := by
  refine perm_fin (κ := Chg.k) ?_ (srt_coL c d) fun z => ?_
  · unfold coP
    rw [List.pairwise_append]
    refine ⟨?_, (hd.filter _).imp fun h => by omega, fun x hx y hy => ?_⟩
    · have hc2 : c.Pairwise fun x y => x.k < y.k ∧ x ∈ c ∧ y ∈ c := (List.Pairwise.and_mem.1 hc).imp fun h => ⟨h.2.2, h.1, h.2.1⟩
      refine List.Pairwise.filterMap (R := fun x y : Chg => x.k < y.k ∧ x ∈ c ∧ y ∈ c) (co1 d) (fun x x' h e he e' he' => ?_) hc2
      rw [co1_is hc h.2.1] at he
      rw [co1_is hc h.2.2] at he'
      have h1 := coO_key he
      have h2 := coO_key he'
      have h3 := h.1
      omega
    · rw [List.mem_filterMap] at hx
      obtain ⟨z, hz, hx⟩ := hx
      rw [co1_is hc hz] at hx
      rw [List.mem_filter, isNone_hit] at hy
      have h1 := hy.2 z hz
      have h2 := coO_key hx
      omega
  · unfold coP coL
    rw [List.mem_append, List.mem_filterMap, List.mem_filterMap, List.mem_filter, isNone_hit]
    constructor
    · rintro (⟨x, hx, h⟩ | ⟨he, h⟩)
      · rw [co1_is hc hx] at h
        exact ⟨x.k, mem_coK.2 (.inl ⟨x, hx, rfl⟩), h⟩
      · refine ⟨z.k, mem_coK.2 (.inr ⟨z, he, rfl⟩), ?_⟩
        unfold coO
        rw [hitC_none.2 h]
        exact (hitC_iff hd).2 ⟨he, rfl⟩
    · rintro ⟨k, _, h⟩
      cases hh : hitC c k with
      | some x =>
        obtain ⟨h1, h2⟩ := (hitC_iff hc).1 hh
        subst h2
        exact .inl ⟨x, h1, by rw [co1_is hc h1]; exact h⟩
      | none =>
        unfold coO at h
        rw [hh] at h
        obtain ⟨h1, h2⟩ := (hitC_iff hd).1 h
        subst h2
        exact .inr ⟨h1, hitC_none.1 hh⟩
end Go.Proofs.Ytadmiecoahohiaa
