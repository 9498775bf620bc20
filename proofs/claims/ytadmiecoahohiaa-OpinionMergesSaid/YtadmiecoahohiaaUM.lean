/- Attributions and changes, the mathematics: lists in the order of their keys. -/
import Derived.Test.YtadmiecoahohiaaDO
namespace Go.Proofs.Ytadmiecoahohiaa
open Go Go.RowKit Go.Lib
/-- what an attribution says of a key -/
structure Sd where
  v : Int
  i : Bool
deriving DecidableEq, Inhabited
structure Ent where
  k : Int
  v : Int
deriving DecidableEq, Inhabited
structure Chg where
  k : Int
  o : Int
  n : Int
  h : Bool
  s : Bool
deriving DecidableEq, Inhabited
def Sd.no : Sd := ⟨0, false⟩
def Chg.old (c : Chg) : Sd := ⟨c.o, c.h⟩
def Chg.new (c : Chg) : Sd := ⟨c.n, c.s⟩
def chg (k : Int) (f t : Sd) : Chg := ⟨k, f.v, t.v, f.i, t.i⟩
theorem chg_self (c : Chg) : chg c.k c.old c.new = c := rfl
def Nrm (s : Sd) : Prop := s.i = false → s.v = 0
instance (s : Sd) : Decidable (Nrm s) := by unfold Nrm; infer_instance
def One (c : Chg) : Prop := Nrm c.old ∧ Nrm c.new ∧ c.old ≠ c.new
instance (c : Chg) : Decidable (One c) := by unfold One; infer_instance
/-- the first one with a key -/
def hitE (l : List Ent) (k : Int) : Option Ent := l.find? fun e => e.k == k
def hitC (l : List Chg) (k : Int) : Option Chg := l.find? fun e => e.k == k
def sdO : Option Ent → Sd
  | some e => ⟨e.v, true⟩
  | none => Sd.no
def at' (l : List Ent) (k : Int) : Sd := sdO (hitE l k)
section
variable {α : Type} {κ : α → Int}
theorem find_none {l : List α} {k : Int} : l.find? (fun e => κ e == k) = none ↔ ∀ e ∈ l, κ e ≠ k := by
  rw [List.find?_eq_none]
  refine forall_congr' fun e => forall_congr' fun _ => ?_
  rw [beq_iff_eq]
theorem find_some {l : List α} {k : Int} {e : α} (h : l.find? (fun e => κ e == k) = some e) : e ∈ l ∧ κ e = k :=
  ⟨List.mem_of_find?_eq_some h, by have := List.find?_some h; simpa using this⟩
theorem find_mem {l : List α} (hs : Srt κ l) {e : α} (he : e ∈ l) : l.find? (fun x => κ x == κ e) = some e := by
  cases h : l.find? (fun x => κ x == κ e) with
  | none => exact absurd rfl (find_none.1 h e he)
  | some x =>
    obtain ⟨h1, h2⟩ := find_some h
    rw [hs.inj h1 he h2]
theorem find_iff {l : List α} (hs : Srt κ l) {k : Int} {e : α} : l.find? (fun x => κ x == k) = some e ↔ e ∈ l ∧ κ e = k :=
  ⟨find_some, fun ⟨h, h2⟩ => by subst h2; exact find_mem hs h⟩
end
theorem hitE_iff {l : List Ent} (hs : Srt Ent.k l) {k : Int} {e : Ent} : hitE l k = some e ↔ e ∈ l ∧ e.k = k := find_iff hs
theorem hitC_iff {l : List Chg} (hs : Srt Chg.k l) {k : Int} {e : Chg} : hitC l k = some e ↔ e ∈ l ∧ e.k = k := find_iff hs
theorem hitE_none {l : List Ent} {k : Int} : hitE l k = none ↔ ∀ e ∈ l, e.k ≠ k := find_none
theorem hitC_none {l : List Chg} {k : Int} : hitC l k = none ↔ ∀ e ∈ l, e.k ≠ k := find_none
theorem at_nrm (l : List Ent) (k : Int) : Nrm (at' l k) := by
  unfold at' Nrm
  cases hitE l k with
  | none => exact fun _ => rfl
  | some e => intro h; cases h
theorem at_in {l : List Ent} (hs : Srt Ent.k l) {e : Ent} (he : e ∈ l) : at' l e.k = ⟨e.v, true⟩ := by
  unfold at'; rw [(hitE_iff hs).2 ⟨he, rfl⟩]; rfl
theorem at_out {l : List Ent} {k : Int} (h : ∀ e ∈ l, e.k ≠ k) : at' l k = Sd.no := by unfold at'; rw [hitE_none.2 h]; rfl
theorem at_is {l : List Ent} {k : Int} (h : (at' l k).i = true) : (⟨k, (at' l k).v⟩ : Ent) ∈ l := by
  unfold at' at h ⊢
  cases hh : hitE l k with
  | none => rw [hh] at h; cases h
  | some e =>
    obtain ⟨h1, h2⟩ := find_some (κ := Ent.k) hh
    subst h2
    exact h1
/-- the keys, each once -/
def idK (x : Int) : Int := x
def kset (xs : List Int) : List Int := uni idK [] xs
theorem srt_foldput : ∀ (xs a : List Int), Srt idK a → Srt idK (xs.foldl (put idK) a)
  | [], _, h => h
  | _ :: xs, _, h => srt_foldput xs _ (srt_put h fun _ _ e => e)
theorem srt_kset (xs : List Int) : Srt idK (kset xs) := srt_foldput xs [] Srt.nil
theorem mem_kset {xs : List Int} {k : Int} : k ∈ kset xs ↔ k ∈ xs := by
  unfold kset
  rw [mem_uni]
  constructor
  · rintro (h | h)
    · cases h
    · exact h
  · exact .inr
theorem kset_ext {xs ys : List Int} (h : ∀ k, k ∈ xs ↔ k ∈ ys) : kset xs = kset ys := srt_ext (srt_kset _) (srt_kset _) fun k => by rw [mem_kset, mem_kset, h]
theorem kset_snoc (xs : List Int) (k : Int) : kset (xs ++ [k]) = put idK (kset xs) k := uni_snoc _ _ _
theorem len_kset (xs : List Int) : (kset xs).length ≤ xs.length := by
  have := len_uni (κ := idK) xs []
  unfold kset
  simpa using this
/-- sorted, and each once: the keys -/
theorem cmpct_kset {xs zs : List Int} (hp : zs.Perm xs) (hs : zs.Pairwise fun x y => x ≤ y) : cmpct zs = kset xs :=
  srt_ext (κ := idK) (srt_cmpct (κ := idK) hs fun x _ y _ e => e) (srt_kset _) fun x => by rw [mem_cmpct, hp.mem_iff, mem_kset]
/-- entries and changes made of what is said of each key -/
def enO (f : Int → Sd) (k : Int) : Option Ent := if (f k).i = true then some ⟨k, (f k).v⟩ else none
def chO (f t : Int → Sd) (k : Int) : Option Chg := if f k = t k then none else some (chg k (f k) (t k))
def mkE' (K : List Int) (f : Int → Sd) : List Ent := K.filterMap (enO f)
def mkC (K : List Int) (f t : Int → Sd) : List Chg := K.filterMap (chO f t)
theorem fm_next {α β : Type} {f : α → Option β} {K : List α} {i : Nat} {k : α} (h : K[i]? = some k) : (K.take (i + 1)).filterMap f = (K.take i).filterMap f ++ (f k).toList := by
  rw [take_next h, List.filterMap_append]
  congr 1
theorem srt_fm {β : Type} {κ : β → Int} {K : List Int} (hK : Srt idK K) {f : Int → Option β} (hf : ∀ k b, f k = some b → κ b = k) : Srt κ (K.filterMap f) := by
  refine List.Pairwise.filterMap (R := fun x y : Int => x < y) f (fun a a' h b hb b' hb' => ?_) hK
  rw [hf _ _ hb, hf _ _ hb']
  exact h
theorem enO_some {f : Int → Sd} {k : Int} {e : Ent} : enO f k = some e ↔ e.k = k ∧ f k = ⟨e.v, true⟩ := by
  unfold enO
  constructor
  · intro h
    split at h
    · rename_i h1
      injection h with h
      subst h
      exact ⟨rfl, by cases hf : f k; rw [hf] at h1; simp_all⟩
    · cases h
  · rintro ⟨rfl, h⟩
    rw [if_pos (by rw [h]), h]
theorem chO_some {f t : Int → Sd} {k : Int} {c : Chg} : chO f t k = some c ↔ c.k = k ∧ c.old = f k ∧ c.new = t k ∧ f k ≠ t k := by
  unfold chO
  constructor
  · intro h
    split at h
    · cases h
    · rename_i h1
      injection h with h
      subst h
      exact ⟨rfl, rfl, rfl, h1⟩
  · rintro ⟨rfl, h1, h2, h3⟩
    rw [if_neg h3, ← h1, ← h2]
    rfl
theorem srt_mkE {K : List Int} (hK : Srt idK K) (f : Int → Sd) : Srt Ent.k (mkE' K f) := srt_fm hK fun _ _ h => (enO_some.1 h).1
theorem srt_mkC {K : List Int} (hK : Srt idK K) (f t : Int → Sd) : Srt Chg.k (mkC K f t) := srt_fm hK fun _ _ h => (chO_some.1 h).1
theorem mem_mkE {K : List Int} {f : Int → Sd} {e : Ent} : e ∈ mkE' K f ↔ e.k ∈ K ∧ f e.k = ⟨e.v, true⟩ := by
  unfold mkE'
  rw [List.mem_filterMap]
  constructor
  · rintro ⟨k, hk, h⟩
    obtain ⟨rfl, h2⟩ := enO_some.1 h
    exact ⟨hk, h2⟩
  · rintro ⟨hk, h⟩
    exact ⟨e.k, hk, enO_some.2 ⟨rfl, h⟩⟩
theorem mem_mkC {K : List Int} {f t : Int → Sd} {c : Chg} : c ∈ mkC K f t ↔ c.k ∈ K ∧ c.old = f c.k ∧ c.new = t c.k ∧ f c.k ≠ t c.k := by
  unfold mkC
  rw [List.mem_filterMap]
  constructor
  · rintro ⟨k, hk, h⟩
    obtain ⟨rfl, h2⟩ := chO_some.1 h
    exact ⟨hk, h2⟩
  · rintro ⟨hk, h⟩
    exact ⟨c.k, hk, chO_some.2 ⟨rfl, h⟩⟩
theorem mkE_ext {K K' : List Int} {f f' : Int → Sd} (hK : Srt idK K) (hK' : Srt idK K') (h : ∀ k v, (k ∈ K ∧ f k = ⟨v, true⟩) ↔ (k ∈ K' ∧ f' k = ⟨v, true⟩)) : mkE' K f = mkE' K' f' :=
  srt_ext (srt_mkE hK f) (srt_mkE hK' f') fun e => by rw [mem_mkE, mem_mkE]; exact h e.k e.v
theorem mkC_ext {K K' : List Int} {f f' t t' : Int → Sd} (hK : Srt idK K) (hK' : Srt idK K') (h : ∀ k x y, (k ∈ K ∧ x = f k ∧ y = t k ∧ f k ≠ t k) ↔ (k ∈ K' ∧ x = f' k ∧ y = t' k ∧ f' k ≠ t' k)) : mkC K f t = mkC K' f' t' :=
  srt_ext (srt_mkC hK f t) (srt_mkC hK' f' t') fun c => by rw [mem_mkC, mem_mkC]; exact h c.k c.old c.new
/-- an attribution is made of what it says -/
theorem mkE_at {K : List Int} {l : List Ent} (hK : Srt idK K) (hl : Srt Ent.k l) (h : ∀ e ∈ l, e.k ∈ K) : mkE' K (at' l) = l :=
  srt_ext (srt_mkE hK _) hl fun e => by
    rw [mem_mkE]
    constructor
    · rintro ⟨_, h2⟩
      have h3 := at_is (l := l) (k := e.k) (by rw [h2])
      rw [h2] at h3
      exact h3
    · intro he
      exact ⟨h e he, at_in hl he⟩
theorem at_mkE {K : List Int} (hK : Srt idK K) (f : Int → Sd) (k : Int) : at' (mkE' K f) k = if k ∈ K ∧ (f k).i = true then f k else Sd.no := by
  split
  · rename_i h
    have hm : (⟨k, (f k).v⟩ : Ent) ∈ mkE' K f := mem_mkE.2 ⟨h.1, by cases hf : f k; rw [hf] at h; simp_all⟩
    have := at_in (srt_mkE hK f) hm
    rw [show at' (mkE' K f) k = _ from this]
    cases hf : f k
    rw [hf] at h
    simp_all
  · rename_i h
    refine at_out fun e he e1 => h ?_
    subst e1
    obtain ⟨h1, h2⟩ := mem_mkE.1 he
    exact ⟨h1, by rw [h2]⟩
theorem hit_mkC {K : List Int} (hK : Srt idK K) (f t : Int → Sd) (k : Int) : hitC (mkC K f t) k = if k ∈ K ∧ f k ≠ t k then some (chg k (f k) (t k)) else none := by
  split
  · rename_i h
    exact (hitC_iff (srt_mkC hK f t)).2 ⟨mem_mkC.2 ⟨h.1, rfl, rfl, h.2⟩, rfl⟩
  · rename_i h
    refine hitC_none.2 fun e he e1 => h ?_
    subst e1
    obtain ⟨h1, h2, h3, h4⟩ := mem_mkC.1 he
    exact ⟨h1, h4⟩
def inv1 (c : Chg) : Chg := chg c.k c.new c.old
def inv (l : List Chg) : List Chg := l.map inv1
theorem inv_mkC (K : List Int) (f t : Int → Sd) : inv (mkC K f t) = mkC K t f := by
  unfold inv mkC
  rw [List.map_filterMap]
  congr 1
  funext k
  unfold chO
  by_cases h : f k = t k
  · rw [if_pos h, if_pos h.symm]; rfl
  · rw [if_neg h, if_neg (fun e => h e.symm)]; rfl
theorem len_inv (l : List Chg) : (inv l).length = l.length := List.length_map _
end Go.Proofs.Ytadmiecoahohiaa
