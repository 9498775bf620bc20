/- Lists of specimens, the mathematics: sorting by Ids, unions. -/
import Derived.Test.YtaapcfflnklpjaaGreatDoorYA
namespace Go.Proofs.YtaapcfflnklpjaaGreatDoor


/-- a specimen: its Id, its dies, their states, its hour, its weight -/
structure Spc where
  i : Int
  o : Int
  r : Int
  a : Int
  b : Int
  h : Int
  m : Int
deriving DecidableEq, Inhabited
def Spc.zero : Spc := ⟨0, 0, 0, 0, 0, 0, 0⟩
/-- a specimen is valid -/
def vS (x : Spc) : Bool := decide ((1 ≤ x.i ∧ x.i ≤ 9999) ∧ (1 ≤ x.o ∧ x.o ≤ 999) ∧ (1 ≤ x.r ∧ x.r ≤ 999) ∧ (1 ≤ x.a ∧ x.a ≤ 9) ∧ (1 ≤ x.b ∧ x.b ≤ 9) ∧ (0 ≤ x.h ∧ x.h ≤ 11) ∧ (1 ≤ x.m ∧ x.m ≤ 200000))
theorem vS_true {x : Spc} : vS x = true ↔ ((1 ≤ x.i ∧ x.i ≤ 9999) ∧ (1 ≤ x.o ∧ x.o ≤ 999) ∧ (1 ≤ x.r ∧ x.r ≤ 999) ∧ (1 ≤ x.a ∧ x.a ≤ 9) ∧ (1 ≤ x.b ∧ x.b ≤ 9) ∧ (0 ≤ x.h ∧ x.h ≤ 11) ∧ (1 ≤ x.m ∧ x.m ≤ 200000)) := by unfold vS; exact decide_eq_true_iff

/-- strictly ascending Ids -/
def Str : List Spc → Prop
  | [] => True
  | x :: r => (∀ y ∈ r, x.i < y.i) ∧ Str r
/-- ascending Ids -/
def Weak : List Spc → Prop
  | [] => True
  | x :: r => (∀ y ∈ r, x.i ≤ y.i) ∧ Weak r
/-- no Id twice -/
def Nod (l : List Spc) : Prop := (l.map (·.i)).Nodup
instance (l : List Spc) : Decidable (Nod l) := by unfold Nod; infer_instance
/-- the error of a list -/
def chk (l : List Spc) : Int := if 64 < l.length then 6 else if l.any (fun x => !vS x) then 1 else if Nod l then 0 else 8
theorem chk_ok {l : List Spc} : chk l = 0 ↔ l.length ≤ 64 ∧ (∀ x ∈ l, vS x = true) ∧ Nod l := by
  unfold chk
  by_cases h1 : 64 < l.length
  · rw [if_pos h1]; constructor
    · intro h; cases h
    · intro h; omega
  · rw [if_neg h1]
    by_cases h2 : l.any (fun x => !vS x) = true
    · rw [if_pos h2]
      constructor
      · intro h; cases h
      · intro h
        rw [List.any_eq_true] at h2
        obtain ⟨x, hx, h3⟩ := h2
        rw [h.2.1 x hx] at h3
        cases h3
    · rw [if_neg h2]
      have h2' : ∀ x ∈ l, vS x = true := by
        intro x hx
        rw [List.any_eq_true] at h2
        cases hv : vS x
        · exact absurd ⟨x, hx, by rw [hv]; rfl⟩ h2
        · rfl
      by_cases h3 : Nod l
      · rw [if_pos h3]; exact ⟨fun _ => ⟨by omega, h2', h3⟩, fun _ => rfl⟩
      · rw [if_neg h3]; constructor
        · intro h; cases h
        · intro h; exact absurd h.2.2 h3
theorem chk_cases (l : List Spc) : chk l = 0 ∨ chk l = 6 ∨ chk l = 1 ∨ chk l = 8 := by
  unfold chk; split
  · simp
  · split
    · simp
    · split <;> simp
theorem Str.weak : ∀ {l : List Spc}, Str l → Weak l
  | [], _ => trivial
  | _ :: _, h => ⟨fun y hy => Int.le_of_lt (h.1 y hy), h.2.weak⟩
theorem Str.nod : ∀ {l : List Spc}, Str l → Nod l
  | [], _ => List.nodup_nil
  | x :: r, h => by
    unfold Nod
    rw [List.map_cons, List.nodup_cons]
    refine ⟨fun hm => ?_, h.2.nod⟩
    obtain ⟨y, hy, e⟩ := List.mem_map.1 hm
    have := h.1 y hy
    omega
theorem Nod.perm {l m : List Spc} (h : Nod l) (p : l.Perm m) : Nod m := (p.map _).nodup_iff.1 h
theorem Nod.eq : ∀ {l : List Spc}, Nod l → ∀ {x y : Spc}, x ∈ l → y ∈ l → x.i = y.i → x = y
  | [], _, x, _, hx, _, _ => by cases hx
  | z :: r, h, x, y, hx, hy, e => by
    unfold Nod at h
    rw [List.map_cons, List.nodup_cons] at h
    rcases List.mem_cons.1 hx with h1 | h1
    · rcases List.mem_cons.1 hy with h2 | h2
      · rw [h1, h2]
      · exact absurd (List.mem_map.2 ⟨y, h2, by rw [← e, h1]⟩) h.1
    · rcases List.mem_cons.1 hy with h2 | h2
      · exact absurd (List.mem_map.2 ⟨x, h1, by rw [e, h2]⟩) h.1
      · exact Nod.eq h.2 h1 h2 e
/-- no two neighbours of the same Id -/
def Apart : List Spc → Prop
  | [] => True
  | [_] => True
  | x :: y :: r => x.i ≠ y.i ∧ Apart (y :: r)
theorem Apart.of_nod : ∀ {l : List Spc}, Nod l → Apart l
  | [], _ => trivial
  | [_], _ => trivial
  | x :: y :: r, h => by
    unfold Nod at h
    rw [List.map_cons, List.nodup_cons] at h
    exact ⟨fun e => h.1 (by rw [List.map_cons, e]; exact List.mem_cons_self), Apart.of_nod h.2⟩
theorem Weak.str : ∀ {l : List Spc}, Weak l → Apart l → Str l
  | [], _, _ => trivial
  | [x], _, _ => ⟨fun y hy => (by cases hy), trivial⟩
  | x :: y :: r, h, ha => by
    have h2 := Weak.str h.2 ha.2
    refine ⟨fun z hz => ?_, h2⟩
    have h1 := h.1 y List.mem_cons_self
    have : x.i < y.i := by have := ha.1; omega
    rcases List.mem_cons.1 hz with rfl | hz
    · exact this
    · have := h2.1 z hz; omega
theorem apart_iff {l : List Spc} (h : Weak l) : Apart l ↔ Nod l := ⟨fun ha => (h.str ha).nod, Apart.of_nod⟩
theorem str_uniq : ∀ {l m : List Spc}, Str l → Str m → (∀ x, x ∈ l ↔ x ∈ m) → l = m
  | [], [], _, _, _ => rfl
  | [], y :: s, _, _, h => by have := (h y).2 List.mem_cons_self; cases this
  | x :: r, [], _, _, h => by have := (h x).1 List.mem_cons_self; cases this
  | x :: r, y :: s, hl, hm, h => by
    have e : x = y := by
      rcases List.mem_cons.1 ((h x).1 List.mem_cons_self) with e | h1
      · exact e
      · rcases List.mem_cons.1 ((h y).2 List.mem_cons_self) with e | h2
        · exact e.symm
        · have := hl.1 y h2
          have := hm.1 x h1
          omega
    subst e
    rw [str_uniq hl.2 hm.2 fun z => ⟨fun hz => ?_, fun hz => ?_⟩]
    · rcases List.mem_cons.1 ((h z).1 (List.mem_cons_of_mem _ hz)) with rfl | h1
      · exact absurd (hl.1 z hz) (Int.lt_irrefl _)
      · exact h1
    · rcases List.mem_cons.1 ((h z).2 (List.mem_cons_of_mem _ hz)) with rfl | h1
      · exact absurd (hm.1 z hz) (Int.lt_irrefl _)
      · exact h1
/-- zs is the list ys by Ids -/
def Srt (ys zs : List Spc) : Prop := zs.Perm ys ∧ Str zs
theorem Srt.uniq {ys zs us : List Spc} (h : Srt ys zs) (h' : Srt ys us) : zs = us :=
  str_uniq h.2 h'.2 fun _ => (h.1.mem_iff).trans (h'.1.mem_iff.symm)
theorem Srt.len {ys zs : List Spc} (h : Srt ys zs) : zs.length = ys.length := h.1.length_eq
theorem Srt.of_perm {ys ys' zs : List Spc} (h : Srt ys zs) (p : ys.Perm ys') : Srt ys' zs := ⟨h.1.trans p, h.2⟩
theorem srt_of {ys zs : List Spc} (p : zs.Perm ys) (h : Weak zs) (hn : Nod ys) : Srt ys zs := ⟨p, h.str (Apart.of_nod (hn.perm p.symm))⟩
theorem Srt.chk {ys zs : List Spc} (h : Srt ys zs) (hc : chk ys = 0) : chk zs = 0 := by
  rw [chk_ok] at *
  exact ⟨by rw [h.len]; exact hc.1, fun x hx => hc.2.1 x (h.1.mem_iff.1 hx), h.2.nod⟩
theorem srt_nil : Srt [] [] := ⟨List.Perm.nil, trivial⟩
theorem srt_self {ys : List Spc} (h : Str ys) : Srt ys ys := ⟨List.Perm.refl _, h⟩

/-- insertion -/
def ins (x : Spc) : List Spc → List Spc
  | [] => [x]
  | y :: r => if x.i < y.i then x :: y :: r else y :: ins x r
def isort : List Spc → List Spc
  | [] => []
  | x :: r => ins x (isort r)
theorem ins_perm (x : Spc) : ∀ l, (ins x l).Perm (x :: l)
  | [] => List.Perm.refl _
  | y :: r => by
    unfold ins
    split
    · exact List.Perm.refl _
    · exact ((ins_perm x r).cons y).trans (List.Perm.swap x y r)
theorem ins_weak (x : Spc) : ∀ {l : List Spc}, Weak l → Weak (ins x l)
  | [], _ => ⟨fun y hy => (by cases hy), trivial⟩
  | y :: r, h => by
    unfold ins
    split
    · rename_i hlt
      refine ⟨fun z hz => ?_, h⟩
      rcases List.mem_cons.1 hz with rfl | hz
      · omega
      · have := h.1 z hz; omega
    · rename_i hge
      refine ⟨fun z hz => ?_, ins_weak x h.2⟩
      rcases List.mem_cons.1 ((ins_perm x r).mem_iff.1 hz) with rfl | hz
      · omega
      · exact h.1 z hz
theorem isort_perm : ∀ l, (isort l).Perm l
  | [] => List.Perm.refl _
  | x :: r => (ins_perm x _).trans ((isort_perm r).cons x)
theorem isort_weak : ∀ l, Weak (isort l)
  | [] => trivial
  | x :: r => ins_weak x (isort_weak r)
theorem srt_ex {ys : List Spc} (hn : Nod ys) : ∃ zs, Srt ys zs := ⟨isort ys, srt_of (isort_perm ys) (isort_weak ys) hn⟩

/-- what of b is not in a, behind a -/
def both (a b : List Spc) : List Spc := a ++ b.filter fun y => !decide (y ∈ a)
theorem mem_both {a b : List Spc} {x : Spc} : x ∈ both a b ↔ x ∈ a ∨ x ∈ b := by
  unfold both
  rw [List.mem_append, List.mem_filter]
  by_cases h : x ∈ a <;> simp [h]
/-- two different ones with one Id -/
def Conf (a b : List Spc) : Prop := ∃ x ∈ a, ∃ y ∈ b, x.i = y.i ∧ x ≠ y
instance (a b : List Spc) : Decidable (Conf a b) := by unfold Conf; infer_instance
theorem Conf.comm {a b : List Spc} : Conf a b ↔ Conf b a :=
  ⟨fun ⟨x, hx, y, hy, e, n⟩ => ⟨y, hy, x, hx, e.symm, n.symm⟩, fun ⟨x, hx, y, hy, e, n⟩ => ⟨y, hy, x, hx, e.symm, n.symm⟩⟩
theorem nod_app {a b : List Spc} (ha : Nod a) (hb : Nod b) (h : ∀ x ∈ a, ∀ y ∈ b, x.i ≠ y.i) : Nod (a ++ b) := by
  unfold Nod at *
  rw [List.map_append, List.nodup_append]
  refine ⟨ha, hb, fun u hu v hv => ?_⟩
  obtain ⟨x, hx, rfl⟩ := List.mem_map.1 hu
  obtain ⟨y, hy, rfl⟩ := List.mem_map.1 hv
  exact h x hx y hy
theorem nod_filter {a : List Spc} (p : Spc → Bool) (h : Nod a) : Nod (a.filter p) := by
  unfold Nod at *
  exact h.sublist (List.Sublist.map _ List.filter_sublist)
theorem both_nod {a b : List Spc} (ha : Nod a) (hb : Nod b) (hc : ¬Conf a b) : Nod (both a b) := by
  refine nod_app ha (nod_filter _ hb) fun x hx y hy e => ?_
  obtain ⟨h1, h2⟩ := List.mem_filter.1 hy
  by_cases hxy : x = y
  · subst hxy; simp [hx] at h2
  · exact hc ⟨x, hx, y, h1, e, hxy⟩
/-- the error of a union -/
def uE (a b : List Spc) : Int := if chk a = 0 then if chk b = 0 then if Conf a b then 10 else if 64 < (both a b).length then 6 else 0 else chk b else chk a
/-- what Union answers -/
def UR (a b zs : List Spc) (e : Int) : Prop := e = uE a b ∧ (e = 0 → Srt (both a b) zs) ∧ (e ≠ 0 → zs = [])
theorem uE_ok {a b : List Spc} : uE a b = 0 ↔ chk a = 0 ∧ chk b = 0 ∧ ¬Conf a b ∧ (both a b).length ≤ 64 := by
  unfold uE
  by_cases h1 : chk a = 0
  · rw [if_pos h1]
    by_cases h2 : chk b = 0
    · rw [if_pos h2]
      by_cases h3 : Conf a b
      · rw [if_pos h3]; constructor
        · intro h; cases h
        · intro h; exact absurd h3 h.2.2.1
      · rw [if_neg h3]
        by_cases h4 : 64 < (both a b).length
        · rw [if_pos h4]; constructor
          · intro h; cases h
          · intro h; omega
        · rw [if_neg h4]; exact ⟨fun _ => ⟨h1, h2, h3, by omega⟩, fun _ => rfl⟩
    · rw [if_neg h2]; exact ⟨fun h => absurd h h2, fun h => absurd h.2.1 h2⟩
  · rw [if_neg h1]; exact ⟨fun h => absurd h h1, fun h => absurd h.1 h1⟩
theorem UR.uniq {a b zs us : List Spc} {e f : Int} (h : UR a b zs e) (h' : UR a b us f) : zs = us ∧ e = f := by
  have e1 : e = f := h.1.trans h'.1.symm
  subst e1
  refine ⟨?_, rfl⟩
  by_cases h0 : e = 0
  · exact (h.2.1 h0).uniq (h'.2.1 h0)
  · rw [h.2.2 h0, h'.2.2 h0]
theorem both_comm_perm {a b : List Spc} (ha : Nod a) (hb : Nod b) (hc : ¬Conf a b) : (both a b).Perm (both b a) := by
  have h1 := both_nod ha hb hc
  have h2 := both_nod hb ha (fun h => hc (Conf.comm.1 h))
  obtain ⟨zs, hz⟩ := srt_ex h1
  obtain ⟨us, hu⟩ := srt_ex h2
  have : zs = us := str_uniq hz.2 hu.2 fun x => by
    rw [hz.1.mem_iff, hu.1.mem_iff, mem_both, mem_both, Or.comm]
  subst this
  exact hz.1.symm.trans hu.1
theorem UR.swap {a b zs us : List Spc} {e f : Int} (h : UR a b zs e) (h' : UR b a us f) (h0 : e = 0) : f = 0 ∧ us = zs := by
  have h1 := uE_ok.1 (h.1.symm.trans h0)
  obtain ⟨c1, c2, c3, c4⟩ := h1
  have p := both_comm_perm (chk_ok.1 c1).2.2 (chk_ok.1 c2).2.2 c3
  have hf : f = 0 := by
    rw [h'.1, uE_ok]
    exact ⟨c2, c1, fun h => c3 (Conf.comm.1 h), by rw [← p.length_eq]; exact c4⟩
  exact ⟨hf, ((h.2.1 h0).of_perm p |>.uniq (h'.2.1 hf)).symm⟩
theorem UR.chk {a b zs : List Spc} (h : UR a b zs 0) : chk zs = 0 := by
  have h1 := uE_ok.1 h.1.symm
  have hs := h.2.1 rfl
  rw [chk_ok]
  refine ⟨by rw [hs.len]; exact h1.2.2.2, fun x hx => ?_, hs.2.nod⟩
  rcases mem_both.1 (hs.1.mem_iff.1 hx) with h | h
  · exact (chk_ok.1 h1.1).2.1 x h
  · exact (chk_ok.1 h1.2.1).2.1 x h
theorem UR.mem {a b zs : List Spc} (h : UR a b zs 0) {x : Spc} : x ∈ zs ↔ x ∈ a ∨ x ∈ b := ((h.2.1 rfl).1.mem_iff).trans mem_both
/-- groups: u of (x of a, b) and c; v of a and (y of b, c) -/
theorem groups {a b c x y u v : List Spc} {g h : Int} (hx : UR a b x 0) (hy : UR b c y 0) (hu : UR x c u g) (hv : UR a y v h) : (g = 0 ↔ h = 0) ∧ u = v := by
  obtain ⟨a1, a2, a3, a4⟩ := uE_ok.1 hx.1.symm
  obtain ⟨b1, b2, b3, b4⟩ := uE_ok.1 hy.1.symm
  have n1 : Nod x := (chk_ok.1 hx.chk).2.2
  have n2 : Nod y := (chk_ok.1 hy.chk).2.2
  have na : Nod a := (chk_ok.1 a1).2.2
  have nc : Nod c := (chk_ok.1 b2).2.2
  have hconf : Conf x c ↔ Conf a y := by
    constructor
    · rintro ⟨p, hp, q, hq, e, n⟩
      rcases hx.mem.1 hp with h | h
      · exact ⟨p, h, q, hy.mem.2 (Or.inr hq), e, n⟩
      · exact absurd ⟨p, h, q, hq, e, n⟩ b3
    · rintro ⟨p, hp, q, hq, e, n⟩
      rcases hy.mem.1 hq with h | h
      · exact absurd ⟨p, hp, q, h, e, n⟩ a3
      · exact ⟨p, hx.mem.2 (Or.inl hp), q, h, e, n⟩
  by_cases hc : Conf x c
  · have g0 : g = 10 := by rw [hu.1]; unfold uE; rw [if_pos hx.chk, if_pos b2, if_pos hc]
    have h0 : h = 10 := by rw [hv.1]; unfold uE; rw [if_pos a1, if_pos hy.chk, if_pos (hconf.1 hc)]
    subst g0
    subst h0
    exact ⟨by simp, by rw [hu.2.2 (by decide), hv.2.2 (by decide)]⟩
  · have hc' : ¬Conf a y := fun h => hc (hconf.2 h)
    obtain ⟨p, hp⟩ := srt_ex (both_nod n1 nc hc)
    obtain ⟨q, hq⟩ := srt_ex (both_nod na n2 hc')
    have e : p = q := str_uniq hp.2 hq.2 fun z => by
      rw [hp.1.mem_iff, hq.1.mem_iff, mem_both, mem_both, hx.mem, hy.mem, or_assoc]
    subst e
    have hl : (both x c).length = (both a y).length := by rw [← hp.len, hq.len]
    have eg : g = h := by
      rw [hu.1, hv.1]
      unfold uE
      rw [if_pos hx.chk, if_pos b2, if_neg hc, if_pos a1, if_pos hy.chk, if_neg hc', hl]
    subst eg
    refine ⟨Iff.rfl, ?_⟩
    by_cases h0 : g = 0
    · rw [(hu.2.1 h0).uniq hp, (hv.2.1 h0).uniq hq]
    · rw [hu.2.2 h0, hv.2.2 h0]

/-- neighbours that are equal become one -/
def cmpct : List Spc → List Spc
  | [] => []
  | [x] => [x]
  | x :: y :: r => if x = y then cmpct (y :: r) else x :: cmpct (y :: r)
theorem cmpct_mem : ∀ (l : List Spc) (x : Spc), x ∈ cmpct l ↔ x ∈ l
  | [], x => Iff.rfl
  | [y], x => Iff.rfl
  | y :: z :: r, x => by
    unfold cmpct
    by_cases h : y = z
    · rw [if_pos h, cmpct_mem (z :: r) x, h]
      simp
    · rw [if_neg h, List.mem_cons, cmpct_mem (z :: r) x]
      simp
theorem cmpct_weak : ∀ {l : List Spc}, Weak l → Weak (cmpct l)
  | [], _ => trivial
  | [x], h => h
  | x :: y :: r, h => by
    unfold cmpct
    split
    · exact cmpct_weak h.2
    · exact ⟨fun z hz => h.1 z ((cmpct_mem _ z).1 hz), cmpct_weak h.2⟩
theorem cmpct_len : ∀ (l : List Spc), (cmpct l).length ≤ l.length
  | [] => Nat.le_refl _
  | [x] => Nat.le_refl _
  | x :: y :: r => by
    have := cmpct_len (y :: r)
    unfold cmpct
    split
    · simp at *; omega
    · simp at *; omega
/-- no two equal neighbours -/
def Diff : List Spc → Prop
  | [] => True
  | [_] => True
  | x :: y :: r => x ≠ y ∧ Diff (y :: r)
theorem cmpct_head : ∀ (y : Spc) (r : List Spc), ∃ s, cmpct (y :: r) = y :: s
  | y, [] => ⟨[], rfl⟩
  | y, z :: r => by
    unfold cmpct
    split
    · rename_i h; subst h; exact cmpct_head y r
    · exact ⟨_, rfl⟩
theorem cmpct_diff : ∀ (l : List Spc), Diff (cmpct l)
  | [] => trivial
  | [x] => trivial
  | x :: y :: r => by
    unfold cmpct
    split
    · exact cmpct_diff (y :: r)
    · rename_i h
      have := cmpct_diff (y :: r)
      obtain ⟨s, hs⟩ := cmpct_head y r
      rw [hs] at this ⊢
      exact ⟨h, this⟩
theorem not_apart : ∀ {l : List Spc}, Diff l → ¬Apart l → ∃ x ∈ l, ∃ y ∈ l, x.i = y.i ∧ x ≠ y
  | [], _, h => absurd trivial h
  | [_], _, h => absurd trivial h
  | x :: y :: r, hd, h => by
    by_cases e : x.i = y.i
    · exact ⟨x, List.mem_cons_self, y, by simp, e, hd.1⟩
    · obtain ⟨p, hp, q, hq, h1⟩ := not_apart hd.2 fun ha => h ⟨e, ha⟩
      exact ⟨p, List.mem_cons_of_mem _ hp, q, List.mem_cons_of_mem _ hq, h1⟩
/-- the program's union -/
theorem union_prog {a b zs : List Spc} (ha : chk a = 0) (hb : chk b = 0) (hp : zs.Perm (a ++ b)) (hw : Weak zs) :
    (¬Apart (cmpct zs) ∧ UR a b [] 10) ∨ (Apart (cmpct zs) ∧ ((64 < (cmpct zs).length ∧ UR a b [] 6) ∨ ((cmpct zs).length ≤ 64 ∧ UR a b (cmpct zs) 0))) := by
  have hm : ∀ x, x ∈ cmpct zs ↔ x ∈ a ∨ x ∈ b := fun x => by rw [cmpct_mem, hp.mem_iff, List.mem_append]
  have na := (chk_ok.1 ha).2.2
  have nb := (chk_ok.1 hb).2.2
  have hcw := cmpct_weak hw
  by_cases hA : Apart (cmpct zs)
  · have hst := hcw.str hA
    have hnc : ¬Conf a b := by
      rintro ⟨x, hx, y, hy, e, n⟩
      exact n (hst.nod.eq ((hm x).2 (Or.inl hx)) ((hm y).2 (Or.inr hy)) e)
    have hs : Srt (both a b) (cmpct zs) := by
      obtain ⟨us, hu⟩ := srt_ex (both_nod na nb hnc)
      have : us = cmpct zs := str_uniq hu.2 hst fun x => by rw [hu.1.mem_iff, mem_both, hm]
      rw [← this]; exact hu
    refine Or.inr ⟨hA, ?_⟩
    by_cases hl : 64 < (cmpct zs).length
    · refine Or.inl ⟨hl, ?_, by simp, fun _ => rfl⟩
      unfold uE
      rw [if_pos ha, if_pos hb, if_neg hnc, if_pos (by rw [← hs.len]; exact hl)]
    · refine Or.inr ⟨by omega, ?_, fun _ => hs, fun h => absurd rfl h⟩
      symm
      rw [uE_ok]
      exact ⟨ha, hb, hnc, by rw [← hs.len]; omega⟩
  · refine Or.inl ⟨hA, ?_, by simp, fun _ => rfl⟩
    obtain ⟨x, hx, y, hy, e, n⟩ := not_apart (cmpct_diff zs) hA
    have hcf : Conf a b := by
      rcases (hm x).1 hx with h1 | h1
      · rcases (hm y).1 hy with h2 | h2
        · exact absurd (na.eq h1 h2 e) n
        · exact ⟨x, h1, y, h2, e, n⟩
      · rcases (hm y).1 hy with h2 | h2
        · exact ⟨y, h2, x, h1, e.symm, n.symm⟩
        · exact absurd (nb.eq h1 h2 e) n
    unfold uE
    rw [if_pos ha, if_pos hb, if_pos hcf]
/-- the first with the Id -/
def findS (l : List Spc) (n : Int) : Option Spc := l.find? fun x => decide (x.i = n)
/-- the reference's union: what it appends while no conflict has come -/
theorem find_some {a : List Spc} {n : Int} {x : Spc} (h : findS a n = some x) : x ∈ a ∧ x.i = n := by
  unfold findS at h
  exact ⟨List.mem_of_find?_eq_some h, by have := List.find?_some h; simpa using this⟩
theorem find_none {a : List Spc} {n : Int} (h : findS a n = none) : ∀ x ∈ a, x.i ≠ n := by
  unfold findS at h
  rw [List.find?_eq_none] at h
  intro x hx e
  exact h x hx (by simpa using e)
theorem both_step {a b : List Spc} {y : Spc} : (findS a y.i = none → both a (b ++ [y]) = both a b ++ [y]) ∧ (∀ x, findS a y.i = some x → x = y → both a (b ++ [y]) = both a b) := by
  constructor
  · intro h
    have := find_none h
    have hy : y ∉ a := fun hm => this y hm rfl
    unfold both
    rw [List.filter_append]
    simp [hy]
  · rintro x h rfl
    have := find_some h
    unfold both
    rw [List.filter_append]
    simp [this.1]
theorem conf_step {a b : List Spc} (h : ¬Conf a b) {y : Spc} (hy : findS a y.i = none ∨ findS a y.i = some y) (na : Nod a) : ¬Conf a (b ++ [y]) := by
  rintro ⟨p, hp, q, hq, e, n⟩
  rcases List.mem_append.1 hq with hq | hq
  · exact h ⟨p, hp, q, hq, e, n⟩
  · rw [List.mem_singleton] at hq
    subst hq
    rcases hy with hy | hy
    · exact find_none hy p hp e
    · have := find_some hy
      exact n (na.eq hp this.1 e)
/-- the Ids of a die -/
def ofS (zs : List Spc) (side n : Int) : List Int := (zs.filter fun x => decide ((if side = 0 then x.o else x.r) = n)).map (·.i)
theorem ofS_mem {zs : List Spc} (hn : Nod zs) {side n : Int} {x : Spc} (hx : x ∈ zs) : x.i ∈ ofS zs side n ↔ (if side = 0 then x.o else x.r) = n := by
  unfold ofS
  rw [List.mem_map]
  constructor
  · rintro ⟨y, hy, e⟩
    obtain ⟨h1, h2⟩ := List.mem_filter.1 hy
    have := hn.eq h1 hx e
    subst this
    simpa using h2
  · intro h
    exact ⟨x, List.mem_filter.2 ⟨hx, by simpa using h⟩, rfl⟩
end Go.Proofs.YtaapcfflnklpjaaGreatDoor
