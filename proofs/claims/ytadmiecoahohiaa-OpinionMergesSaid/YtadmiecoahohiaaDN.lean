/- Ledgers, the mathematics: Make, Withdraw, Join, what stands; calls in any order. -/
import Derived.Test.YtadmiecoahohiaaDM
namespace Go.Proofs.Ytadmiecoahohiaa
open Go Go.RowKit Go.Lib
/-- what a ledger holds -/
structure Led where
  d : List Dec
  w : List Mk
def Led.none : Led := ⟨[], []⟩
def Led.Ok (s : Led) : Prop := Srt Dec.key s.d ∧ (∀ x ∈ s.d, vD x = true) ∧ s.d.length ≤ 200 ∧ Srt Mk.key s.w ∧ (∀ x ∈ s.w, vM x = true) ∧ s.w.length ≤ 200
theorem none_ok : Led.none.Ok := by
  refine ⟨Srt.nil, ?_, by decide, Srt.nil, ?_, by decide⟩
  · intro x h; cases h
  · intro x h; cases h
/-- what Make answers -/
def mkE (l : List Dec) (d : Dec) : Int := if vD d = true then if d ∈ l then 0 else if ∃ y ∈ l, y.key = d.key then 10 else if l.length < 200 then 0 else 6 else 1
def mkL (l : List Dec) (d : Dec) : List Dec := if mkE l d = 0 then put Dec.key l d else l
/-- what Withdraw answers -/
def wdE (l : List Mk) (m : Mk) : Int := if vM m = true then if m ∈ l then 0 else if l.length < 200 then 0 else 6 else 1
def wdL (l : List Mk) (m : Mk) : List Mk := if wdE l m = 0 then put Mk.key l m else l
theorem mkE_ok {l : List Dec} {d : Dec} (h : mkE l d = 0) : vD d = true ∧ (d ∈ l ∨ ((∀ y ∈ l, y.key ≠ d.key) ∧ l.length < 200)) := by
  unfold mkE at h
  by_cases h1 : vD d = true
  · rw [if_pos h1] at h
    by_cases h2 : d ∈ l
    · exact ⟨h1, .inl h2⟩
    · rw [if_neg h2] at h
      by_cases h3 : ∃ y ∈ l, y.key = d.key
      · rw [if_pos h3] at h; cases h
      · rw [if_neg h3] at h
        by_cases h4 : l.length < 200
        · exact ⟨h1, .inr ⟨fun y hy e => h3 ⟨y, hy, e⟩, h4⟩⟩
        · rw [if_neg h4] at h; cases h
  · rw [if_neg h1] at h; cases h
theorem mkE_of {l : List Dec} {d : Dec} (h1 : vD d = true) (h2 : d ∈ l ∨ ((∀ y ∈ l, y.key ≠ d.key) ∧ l.length < 200)) : mkE l d = 0 := by
  unfold mkE
  rw [if_pos h1]
  rcases h2 with h2 | ⟨h2, h3⟩
  · rw [if_pos h2]
  · rw [if_neg fun h => h2 d h rfl, if_neg fun ⟨y, hy, e⟩ => h2 y hy e, if_pos h3]
theorem wdE_ok {l : List Mk} {m : Mk} (h : wdE l m = 0) : vM m = true ∧ (m ∈ l ∨ l.length < 200) := by
  unfold wdE at h
  by_cases h1 : vM m = true
  · rw [if_pos h1] at h
    by_cases h2 : m ∈ l
    · exact ⟨h1, .inl h2⟩
    · rw [if_neg h2] at h
      by_cases h4 : l.length < 200
      · exact ⟨h1, .inr h4⟩
      · rw [if_neg h4] at h; cases h
  · rw [if_neg h1] at h; cases h
theorem wdE_of {l : List Mk} {m : Mk} (h1 : vM m = true) (h2 : m ∈ l ∨ l.length < 200) : wdE l m = 0 := by
  unfold wdE
  rw [if_pos h1]
  rcases h2 with h2 | h3
  · rw [if_pos h2]
  · by_cases h2 : m ∈ l
    · rw [if_pos h2]
    · rw [if_neg h2, if_pos h3]
theorem put_in {α : Type} [DecidableEq α] {κ : α → Int} {l : List α} {x : α} (h : x ∈ l) : put κ l x = l := by unfold put; rw [if_pos h]
theorem put_out {α : Type} [DecidableEq α] {κ : α → Int} {l : List α} {x : α} (h : x ∉ l) : put κ l x = ins κ x l := by unfold put; rw [if_neg h]
theorem mkL_ok {l : List Dec} {d : Dec} (h1 : Srt Dec.key l) (h2 : ∀ x ∈ l, vD x = true) (h3 : l.length ≤ 200) : Srt Dec.key (mkL l d) ∧ (∀ x ∈ mkL l d, vD x = true) ∧ (mkL l d).length ≤ 200 := by
  unfold mkL
  split
  · rename_i h
    obtain ⟨hv, h⟩ := mkE_ok h
    refine ⟨srt_put h1 fun y hy e => ?_, fun x hx => ?_, ?_⟩
    · rcases h with h | ⟨h, _⟩
      · exact h1.inj hy h e
      · exact absurd e (h y hy)
    · rcases mem_put.1 hx with rfl | hx
      · exact hv
      · exact h2 x hx
    · rcases h with h | ⟨_, h⟩
      · rw [put_in h]; exact h3
      · have := len_put (κ := Dec.key) d l; omega
  · exact ⟨h1, h2, h3⟩
theorem wdL_ok {l : List Mk} {d : Mk} (h1 : Srt Mk.key l) (h2 : ∀ x ∈ l, vM x = true) (h3 : l.length ≤ 200) : Srt Mk.key (wdL l d) ∧ (∀ x ∈ wdL l d, vM x = true) ∧ (wdL l d).length ≤ 200 := by
  unfold wdL
  split
  · rename_i h
    obtain ⟨hv, h⟩ := wdE_ok h
    refine ⟨srt_put h1 fun y hy e => (key_inj (h2 y hy) hv).1 e, fun x hx => ?_, ?_⟩
    · rcases mem_put.1 hx with rfl | hx
      · exact hv
      · exact h2 x hx
    · rcases h with h | h
      · rw [put_in h]; exact h3
      · have := len_put (κ := Mk.key) d l; omega
  · exact ⟨h1, h2, h3⟩
theorem len_mkL (l : List Dec) (d : Dec) : (mkL l d).length ≤ l.length + 1 := by
  unfold mkL
  split
  · exact len_put _ _
  · omega
theorem len_wdL (l : List Mk) (d : Mk) : (wdL l d).length ≤ l.length + 1 := by
  unfold wdL
  split
  · exact len_put _ _
  · omega
/-- a call of Make, or of Withdraw -/
structure Opr where
  b : Bool
  d : Dec
  m : Mk
deriving Inhabited
def Led.code (s : Led) (o : Opr) : Int := if o.b then wdE s.w o.m else mkE s.d o.d
def Led.step (s : Led) (o : Opr) : Led := if o.b then ⟨s.d, wdL s.w o.m⟩ else ⟨mkL s.d o.d, s.w⟩
theorem step_ok {s : Led} (h : s.Ok) (o : Opr) : (s.step o).Ok := by
  obtain ⟨h1, h2, h3, h4, h5, h6⟩ := h
  unfold Led.step
  split
  · exact ⟨h1, h2, h3, wdL_ok h4 h5 h6⟩
  · have := mkL_ok (d := o.d) h1 h2 h3
    exact ⟨this.1, this.2.1, this.2.2, h4, h5, h6⟩
theorem step_len (s : Led) (o : Opr) : (s.step o).d.length ≤ s.d.length + 1 ∧ (s.step o).w.length ≤ s.w.length + 1 := by
  unfold Led.step
  split
  · exact ⟨Nat.le_succ _, len_wdL _ _⟩
  · exact ⟨len_mkL _ _, Nat.le_succ _⟩
/-- after some calls -/
def runL (l : List Opr) : Led := l.foldl Led.step Led.none
theorem runL_snoc (l : List Opr) (o : Opr) : runL (l ++ [o]) = (runL l).step o := by unfold runL; rw [List.foldl_append]; rfl
theorem foldl_ok : ∀ (l : List Opr) (s : Led), s.Ok → (l.foldl Led.step s).Ok
  | [], _, h => h
  | o :: l, _, h => foldl_ok l _ (step_ok h o)
theorem runL_ok (l : List Opr) : (runL l).Ok := foldl_ok l _ none_ok
theorem foldl_len : ∀ (l : List Opr) (s : Led), (l.foldl Led.step s).d.length ≤ s.d.length + l.length ∧ (l.foldl Led.step s).w.length ≤ s.w.length + l.length
  | [], _ => ⟨Nat.le_refl _, Nat.le_refl _⟩
  | o :: l, s => by
    have := foldl_len l (s.step o)
    have h := step_len s o
    rw [List.foldl_cons, List.length_cons]
    omega
theorem runL_len (l : List Opr) : (runL l).d.length ≤ l.length ∧ (runL l).w.length ≤ l.length := by
  have := foldl_len l Led.none
  have e : Led.none.d.length = 0 ∧ Led.none.w.length = 0 := ⟨rfl, rfl⟩
  unfold runL
  omega
/-- none had an error -/
def fineF (s : Led) : List Opr → Bool
  | [] => true
  | o :: r => decide (s.code o = 0) && fineF (s.step o) r
def fineL (l : List Opr) : Bool := fineF Led.none l
theorem fineF_snoc : ∀ (l : List Opr) (s : Led) (o : Opr), fineF s (l ++ [o]) = (fineF s l && decide ((l.foldl Led.step s).code o = 0))
  | [], s, o => by show (decide (s.code o = 0) && true) = (true && decide (s.code o = 0)); rw [Bool.and_true, Bool.true_and]
  | p :: l, s, o => by
    show (decide (s.code p = 0) && fineF (s.step p) (l ++ [o])) = _
    rw [fineF_snoc l, ← Bool.and_assoc]
    rfl
theorem fineL_snoc (l : List Opr) (o : Opr) : fineL (l ++ [o]) = (decide ((runL l).code o = 0) && fineL l) := by
  unfold fineL
  rw [fineF_snoc, Bool.and_comm]
  rfl
/-- holds what these calls put in -/
def Hol (s : Led) (T : List Opr) : Prop := (∀ x, x ∈ s.d ↔ ∃ o ∈ T, o.b = false ∧ o.d = x) ∧ (∀ x, x ∈ s.w ↔ ∃ o ∈ T, o.b = true ∧ o.m = x)
def okO (o : Opr) : Prop := if o.b then vM o.m = true else vD o.d = true
/-- no error in any order -/
def Coh (T : List Opr) : Prop := (∀ o ∈ T, okO o) ∧ ∀ o ∈ T, ∀ o' ∈ T, o.b = false → o'.b = false → o.d.key = o'.d.key → o.d = o'.d
theorem mem_mkL {l : List Dec} {d x : Dec} (h : mkE l d = 0) : x ∈ mkL l d ↔ x = d ∨ x ∈ l := by unfold mkL; rw [if_pos h, mem_put]
theorem mem_wdL {l : List Mk} {d x : Mk} (h : wdE l d = 0) : x ∈ wdL l d ↔ x = d ∨ x ∈ l := by unfold wdL; rw [if_pos h, mem_put]
theorem hol_step {s : Led} {T : List Opr} {o : Opr} (h : Hol s T) (hc : s.code o = 0) : Hol (s.step o) (o :: T) := by
  unfold Led.code at hc
  unfold Led.step
  cases hb : o.b with
  | true =>
    rw [hb, if_pos rfl] at hc
    rw [if_pos rfl]
    refine ⟨fun x => ?_, fun x => ?_⟩
    · show x ∈ s.d ↔ _
      rw [h.1]
      constructor
      · rintro ⟨o', h1, h2⟩; exact ⟨o', List.mem_cons_of_mem _ h1, h2⟩
      · rintro ⟨o', h1, h2, h3⟩
        rcases List.mem_cons.1 h1 with rfl | h1
        · rw [hb] at h2; cases h2
        · exact ⟨o', h1, h2, h3⟩
    · show x ∈ wdL s.w o.m ↔ _
      rw [mem_wdL hc, h.2]
      constructor
      · rintro (rfl | ⟨o', h1, h2⟩)
        · exact ⟨o, List.mem_cons_self .., hb, rfl⟩
        · exact ⟨o', List.mem_cons_of_mem _ h1, h2⟩
      · rintro ⟨o', h1, h2, h3⟩
        rcases List.mem_cons.1 h1 with rfl | h1
        · exact .inl h3.symm
        · exact .inr ⟨o', h1, h2, h3⟩
  | false =>
    rw [hb, if_neg (by decide)] at hc
    rw [if_neg (by decide)]
    refine ⟨fun x => ?_, fun x => ?_⟩
    · show x ∈ mkL s.d o.d ↔ _
      rw [mem_mkL hc, h.1]
      constructor
      · rintro (rfl | ⟨o', h1, h2⟩)
        · exact ⟨o, List.mem_cons_self .., hb, rfl⟩
        · exact ⟨o', List.mem_cons_of_mem _ h1, h2⟩
      · rintro ⟨o', h1, h2, h3⟩
        rcases List.mem_cons.1 h1 with rfl | h1
        · exact .inl h3.symm
        · exact .inr ⟨o', h1, h2, h3⟩
    · show x ∈ s.w ↔ _
      rw [h.2]
      constructor
      · rintro ⟨o', h1, h2⟩; exact ⟨o', List.mem_cons_of_mem _ h1, h2⟩
      · rintro ⟨o', h1, h2, h3⟩
        rcases List.mem_cons.1 h1 with rfl | h1
        · rw [hb] at h2; cases h2
        · exact ⟨o', h1, h2, h3⟩
theorem coh_step {s : Led} {T : List Opr} {o : Opr} (hs : s.Ok) (h : Hol s T) (hT : Coh T) (hc : s.code o = 0) : Coh (o :: T) := by
  unfold Led.code at hc
  have key : ∀ o' ∈ T, o.b = false → o'.b = false → o.d.key = o'.d.key → o.d = o'.d := fun o' ho' hb hb' e => by
    rw [hb, if_neg (by decide)] at hc
    have hm : o'.d ∈ s.d := (h.1 _).2 ⟨o', ho', hb', rfl⟩
    rcases (mkE_ok hc).2 with h1 | ⟨h1, _⟩
    · exact hs.1.inj h1 hm e
    · exact absurd e.symm (h1 _ hm)
  refine ⟨fun o' ho' => ?_, fun o1 h1 o2 h2 b1 b2 e => ?_⟩
  · rcases List.mem_cons.1 ho' with rfl | ho'
    · unfold okO
      split
      · rename_i hb; rw [if_pos hb] at hc; exact (wdE_ok hc).1
      · rename_i hb; rw [if_neg hb] at hc; exact (mkE_ok hc).1
    · exact hT.1 o' ho'
  · rcases List.mem_cons.1 h1 with g1 | g1 <;> rcases List.mem_cons.1 h2 with g2 | g2
    · rw [g1, g2]
    · subst g1; exact key _ g2 b1 b2 e
    · subst g2; exact (key o1 g1 b2 b1 e.symm).symm
    · exact hT.2 _ g1 _ g2 b1 b2 e
theorem fine_facts : ∀ (l : List Opr) (s : Led) (T : List Opr), s.Ok → Hol s T → Coh T → fineF s l = true → Coh (l.reverse ++ T) ∧ Hol (l.foldl Led.step s) (l.reverse ++ T)
  | [], s, T, _, h1, h2, _ => ⟨h2, h1⟩
  | o :: l, s, T, h0, h1, h2, h3 => by
    have h3' : (decide (s.code o = 0) && fineF (s.step o) l) = true := h3
    rw [Bool.and_eq_true] at h3'
    have hc := of_decide_eq_true h3'.1
    have := fine_facts l (s.step o) (o :: T) (step_ok h0 o) (hol_step h1 hc) (coh_step h0 h1 h2 hc) h3'.2
    rw [List.reverse_cons, List.append_assoc]
    exact this
theorem hol_none : Hol Led.none [] := ⟨fun x => ⟨fun h => (by cases h), fun ⟨o, h, _⟩ => (by cases h)⟩, fun x => ⟨fun h => (by cases h), fun ⟨o, h, _⟩ => (by cases h)⟩⟩
theorem fineL_facts {l : List Opr} (h : fineL l = true) : Coh l ∧ Hol (runL l) l := by
  have := fine_facts l Led.none [] none_ok hol_none ⟨fun o h => (by cases h), fun o h => (by cases h)⟩ h
  rw [List.append_nil] at this
  obtain ⟨h1, h2⟩ := this
  refine ⟨⟨fun o ho => h1.1 o (List.mem_reverse.2 ho), fun o ho o' ho' => h1.2 o (List.mem_reverse.2 ho) o' (List.mem_reverse.2 ho')⟩, fun x => ?_, fun x => ?_⟩
  · rw [show runL l = l.foldl Led.step Led.none from rfl, h2.1]
    exact ⟨fun ⟨o, h, h'⟩ => ⟨o, List.mem_reverse.1 h, h'⟩, fun ⟨o, h, h'⟩ => ⟨o, List.mem_reverse.2 h, h'⟩⟩
  · rw [show runL l = l.foldl Led.step Led.none from rfl, h2.2]
    exact ⟨fun ⟨o, h, h'⟩ => ⟨o, List.mem_reverse.1 h, h'⟩, fun ⟨o, h, h'⟩ => ⟨o, List.mem_reverse.2 h, h'⟩⟩
theorem coh_code {T T' : List Opr} {s : Led} {o : Opr} (hT : Coh T) (hs : Hol s T') (hsub : ∀ x ∈ T', x ∈ T) (ho : o ∈ T) (h1 : s.d.length < 200) (h2 : s.w.length < 200) : s.code o = 0 := by
  have hv := hT.1 o ho
  unfold okO at hv
  unfold Led.code
  cases hb : o.b with
  | true =>
    rw [hb, if_pos rfl] at hv
    rw [if_pos rfl]
    exact wdE_of hv (.inr h2)
  | false =>
    rw [hb, if_neg (by decide)] at hv
    rw [if_neg (by decide)]
    refine mkE_of hv ?_
    by_cases hm : ∃ y ∈ s.d, y.key = o.d.key
    · obtain ⟨y, hy, e⟩ := hm
      obtain ⟨o', ho', hb', rfl⟩ := (hs.1 y).1 hy
      rw [hT.2 o ho o' (hsub o' ho') hb hb' e.symm]
      exact .inl hy
    · exact .inr ⟨fun y hy e => hm ⟨y, hy, e⟩, h1⟩
theorem hol_dup {s : Led} {T : List Opr} {o : Opr} (h : Hol s (o :: o :: T)) : Hol s (o :: T) :=
  ⟨fun x => (h.1 x).trans ⟨fun ⟨o', h1, h2⟩ => ⟨o', by simpa using h1, h2⟩, fun ⟨o', h1, h2⟩ => ⟨o', List.mem_cons_of_mem _ h1, h2⟩⟩,
   fun x => (h.2 x).trans ⟨fun ⟨o', h1, h2⟩ => ⟨o', by simpa using h1, h2⟩, fun ⟨o', h1, h2⟩ => ⟨o', List.mem_cons_of_mem _ h1, h2⟩⟩⟩
theorem led_ext {s t : Led} (h1 : s.d = t.d) (h2 : s.w = t.w) : s = t := by cases s; cases t; cases h1; cases h2; rfl
theorem hol_eq {s t : Led} {T : List Opr} (hs : s.Ok) (ht : t.Ok) (h1 : Hol s T) (h2 : Hol t T) : s = t :=
  led_ext (srt_ext hs.1 ht.1 fun x => (h1.1 x).trans (h2.1 x).symm) (srt_ext hs.2.2.2.1 ht.2.2.2.1 fun x => (h1.2 x).trans (h2.2 x).symm)
/-- what stands -/
def stL (s : Led) : List Dec := s.d.filter fun x => decide (x.mk_ ∉ s.w)
/-- what Join answers -/
def jE (s t : Led) : Int := if Agr Dec.key s.d t.d then if (uni Dec.key s.d t.d).length ≤ 200 ∧ (uni Mk.key s.w t.w).length ≤ 200 then 0 else 6 else 10
def both (s t : Led) : Led := ⟨uni Dec.key s.d t.d, uni Mk.key s.w t.w⟩
def jL (s t : Led) : Led := if jE s t = 0 then both s t else s
theorem jE_ok {s t : Led} : jE s t = 0 ↔ Agr Dec.key s.d t.d ∧ (uni Dec.key s.d t.d).length ≤ 200 ∧ (uni Mk.key s.w t.w).length ≤ 200 := by
  unfold jE
  by_cases h : Agr Dec.key s.d t.d
  · rw [if_pos h]
    by_cases h2 : (uni Dec.key s.d t.d).length ≤ 200 ∧ (uni Mk.key s.w t.w).length ≤ 200
    · rw [if_pos h2]; exact ⟨fun _ => ⟨h, h2⟩, fun _ => rfl⟩
    · rw [if_neg h2]; exact ⟨fun e => by (cases e), fun e => absurd e.2 h2⟩
  · rw [if_neg h]; exact ⟨fun e => by (cases e), fun e => absurd e.1 h⟩
theorem agrM {s t : Led} (hs : s.Ok) (ht : t.Ok) : Agr Mk.key s.w t.w := fun x hx y hy e => (key_inj (hs.2.2.2.2.1 x hx) (ht.2.2.2.2.1 y hy)).1 e
theorem both_ok {s t : Led} (hs : s.Ok) (ht : t.Ok) (h : jE s t = 0) : (both s t).Ok := by
  obtain ⟨h1, h2, h3⟩ := jE_ok.1 h
  refine ⟨srt_uni hs.1 ht.1 h1, fun x hx => ?_, h2, srt_uni hs.2.2.2.1 ht.2.2.2.1 (agrM hs ht), fun x hx => ?_, h3⟩
  · rcases mem_uni.1 hx with hx | hx
    · exact hs.2.1 x hx
    · exact ht.2.1 x hx
  · rcases mem_uni.1 hx with hx | hx
    · exact hs.2.2.2.2.1 x hx
    · exact ht.2.2.2.2.1 x hx
theorem jL_ok {s t : Led} (hs : s.Ok) (ht : t.Ok) : (jL s t).Ok := by
  unfold jL
  split
  · exact both_ok hs ht (by assumption)
  · exact hs
theorem both_comm {s t : Led} (hs : s.Ok) (ht : t.Ok) (h : Agr Dec.key s.d t.d) : both s t = both t s :=
  led_ext (uni_comm hs.1 ht.1 h) (uni_comm hs.2.2.2.1 ht.2.2.2.1 (agrM hs ht))
theorem jE_comm {s t : Led} (hs : s.Ok) (ht : t.Ok) : jE s t = jE t s := by
  by_cases h : Agr Dec.key s.d t.d
  · unfold jE
    rw [if_pos h, if_pos h.symm, uni_comm hs.1 ht.1 h, uni_comm hs.2.2.2.1 ht.2.2.2.1 (agrM hs ht)]
  · unfold jE
    rw [if_neg h, if_neg fun h' => h h'.symm]
theorem jL_comm {s t : Led} (hs : s.Ok) (ht : t.Ok) (h : jE s t = 0) : jL s t = jL t s := by
  have h' := h
  rw [jE_comm hs ht] at h'
  unfold jL
  rw [if_pos h, if_pos h', both_comm hs ht (jE_ok.1 h).1]
/-- a part of a ledger is joined without a change -/
theorem join_sub {s t : Led} (hs : s.Ok) (ht : t.Ok) (h1 : ∀ x ∈ t.d, x ∈ s.d) (h2 : ∀ x ∈ t.w, x ∈ s.w) : jE s t = 0 ∧ jL s t = s := by
  have e1 := uni_sub hs.1 ht.1 h1
  have e2 := uni_sub hs.2.2.2.1 ht.2.2.2.1 h2
  have h : jE s t = 0 := jE_ok.2 ⟨fun x hx y hy e => hs.1.inj hx (h1 y hy) e, by rw [e1]; exact hs.2.2.1, by rw [e2]; exact hs.2.2.2.2.2⟩
  refine ⟨h, ?_⟩
  unfold jL
  rw [if_pos h]
  exact led_ext e1 e2
theorem both_again {s t : Led} (hs : s.Ok) (ht : t.Ok) (h : jE s t = 0) : jE (both s t) t = 0 ∧ jL (both s t) t = both s t :=
  join_sub (both_ok hs ht h) ht (fun _ hx => mem_uni.2 (.inr hx)) (fun _ hx => mem_uni.2 (.inr hx))
theorem both_self {s : Led} (hs : s.Ok) : jE s s = 0 ∧ jL s s = s := join_sub hs hs (fun _ hx => hx) (fun _ hx => hx)
/-- three ledgers, in either grouping -/
theorem join3 {a b c : Led} (ha : a.Ok) (hb : b.Ok) (hc : c.Ok) (h1 : jE a b = 0) (h2 : jE (both a b) c = 0) : jE b c = 0 ∧ jE a (both b c) = 0 ∧ both a (both b c) = both (both a b) c := by
  obtain ⟨g1, l1, m1⟩ := jE_ok.1 h1
  obtain ⟨g2, l2, m2⟩ := jE_ok.1 h2
  have hab := both_ok ha hb h1
  have habc := both_ok hab hc h2
  have g3 : Agr Dec.key b.d c.d := fun x hx y hy e => g2 x (mem_uni.2 (.inr hx)) y hy e
  have s3 := srt_uni hb.1 hc.1 g3
  have t3 := srt_uni hb.2.2.2.1 hc.2.2.2.1 (agrM hb hc)
  have sub : ∀ {α : Type} [DecidableEq α] {κ : α → Int} {x y : List α}, Srt κ x → Srt κ y → (∀ z ∈ x, z ∈ y) → x.length ≤ y.length := fun {α} _ {κ} {x y} hx hy hz => by
    have e := uni_sub hy hx hz
    have e2 : y.filter (fun z => decide (z ∈ x)) = x := srt_ext (hy.filter _) hx fun z => by
      rw [List.mem_filter]
      constructor
      · rintro ⟨_, h⟩; exact of_decide_eq_true h
      · intro h; exact ⟨hz z h, decide_eq_true h⟩
    rw [← e2]
    exact List.length_filter_le _ _
  have hbc : jE b c = 0 := jE_ok.2 ⟨g3,
    Nat.le_trans (sub s3 habc.1 fun z hz => by
      rcases mem_uni.1 hz with h | h
      · exact mem_uni.2 (.inl (mem_uni.2 (.inr h)))
      · exact mem_uni.2 (.inr h)) l2,
    Nat.le_trans (sub t3 habc.2.2.2.1 fun z hz => by
      rcases mem_uni.1 hz with h | h
      · exact mem_uni.2 (.inl (mem_uni.2 (.inr h)))
      · exact mem_uni.2 (.inr h)) m2⟩
  have hbc' := both_ok hb hc hbc
  have g4 : Agr Dec.key a.d (both b c).d := fun x hx y hy e => by
    rcases mem_uni.1 hy with h | h
    · exact g1 x hx y h e
    · exact g2 x (mem_uni.2 (.inl hx)) y h e
  have e1 : uni Dec.key a.d (both b c).d = (both (both a b) c).d := srt_ext (srt_uni ha.1 hbc'.1 g4) habc.1 fun x => by
    show x ∈ uni Dec.key a.d (uni Dec.key b.d c.d) ↔ x ∈ uni Dec.key (uni Dec.key a.d b.d) c.d
    rw [mem_uni, mem_uni, mem_uni, mem_uni, or_assoc]
  have e2 : uni Mk.key a.w (both b c).w = (both (both a b) c).w := srt_ext (srt_uni ha.2.2.2.1 hbc'.2.2.2.1 (agrM ha hbc')) habc.2.2.2.1 fun x => by
    show x ∈ uni Mk.key a.w (uni Mk.key b.w c.w) ↔ x ∈ uni Mk.key (uni Mk.key a.w b.w) c.w
    rw [mem_uni, mem_uni, mem_uni, mem_uni, or_assoc]
  exact ⟨hbc, jE_ok.2 ⟨g4, by rw [e1]; exact l2, by rw [e2]; exact m2⟩, led_ext e1 e2⟩
/-- one more withdrawn mark -/
theorem stL_wd {s : Led} {m : Mk} (h : wdE s.w m = 0) : stL ⟨s.d, wdL s.w m⟩ = (stL s).filter fun x => decide (x.mk_ ≠ m) := by
  unfold stL
  rw [List.filter_filter]
  congr 1
  funext x
  have := mem_wdL (x := x.mk_) h
  generalize x.mk_ = q at this
  show decide (q ∉ wdL s.w m) = (decide (q ≠ m) && decide (q ∉ s.w))
  by_cases h1 : q = m <;> by_cases h2 : q ∈ s.w <;> simp [this, h1, h2]
  · subst h1; simp [this]
  · subst h1; simp [this]
theorem stL_len (s : Led) : (stL s).length ≤ s.d.length := List.length_filter_le _ _
end Go.Proofs.Ytadmiecoahohiaa
