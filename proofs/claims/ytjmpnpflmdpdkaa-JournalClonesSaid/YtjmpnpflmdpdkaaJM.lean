/- Pure mathematics of journals. -/
import Derived.Test.YtjmpnpflmdpdkaaFrM
namespace Go.Proofs.Ytjmpnpflmdpdkaa
namespace FM

/-- an entry: its kind, its data -/
abbrev Ent := Nat × List Nat
def coin : List Nat := [67, 79, 73, 78, 49]
def fr (es : List Ent) : List Nat := (es.map fun e => frame e.1 e.2).flatten
/-- the bytes of a journal -/
def jb (es : List Ent) : List Nat := coin ++ fr es
/-- where the first k entries end -/
def jl (es : List Ent) (k : Nat) : Nat := (jb (es.take k)).length
def ends (es : List Ent) : List Nat := (List.range es.length).map fun i => jl es (i + 1)
def OkE (es : List Ent) : Prop := ∀ e ∈ es, e.1 < 256 ∧ By e.2 ∧ e.2.length ≤ 8192
theorem coin_by : By coin := by unfold coin By; decide
theorem fr_nil : fr [] = [] := rfl
theorem fr_cons (e : Ent) (es : List Ent) : fr (e :: es) = frame e.1 e.2 ++ fr es := by simp [fr]
theorem fr_app (a b : List Ent) : fr (a ++ b) = fr a ++ fr b := by simp [fr]
theorem fr_one (e : Ent) : fr [e] = frame e.1 e.2 := by simp [fr]
theorem jb_nil : jb [] = coin := rfl
theorem jb_snoc (es : List Ent) (e : Ent) : jb (es ++ [e]) = jb es ++ frame e.1 e.2 := by simp [jb, fr_app, fr_one]
theorem jb_len (es : List Ent) : (jb es).length = 5 + (fr es).length := by simp [jb, coin]; omega
theorem jb_ge (es : List Ent) : 5 ≤ (jb es).length := by rw [jb_len]; omega
theorem OkE.nil : OkE [] := fun e h => by cases h
theorem OkE.app {a b : List Ent} (ha : OkE a) (hb : OkE b) : OkE (a ++ b) := fun e h => (List.mem_append.1 h).elim (ha e) (hb e)
theorem OkE.one {k : Nat} {d : List Nat} (hk : k < 256) (hb : By d) (hd : d.length ≤ 8192) : OkE [(k, d)] := fun e h => by
  simp at h; subst h; exact ⟨hk, hb, hd⟩
theorem OkE.take {a : List Ent} (ha : OkE a) (n : Nat) : OkE (a.take n) := fun e h => ha e (List.mem_of_mem_take h)
theorem OkE.get {a : List Ent} (ha : OkE a) {i : Nat} {e : Ent} (h : a[i]? = some e) : e.1 < 256 ∧ By e.2 ∧ e.2.length ≤ 8192 := ha e (List.mem_of_getElem? h)
theorem fr_by {es : List Ent} (h : OkE es) : By (fr es) := by
  induction es with
  | nil => exact By.nil
  | cons e es ih =>
    rw [fr_cons]
    have h1 := h e (by simp)
    exact (frame_by h1.1 h1.2.1).app (ih fun x hx => h x (by simp [hx]))
theorem jb_by {es : List Ent} (h : OkE es) : By (jb es) := coin_by.app (fr_by h)
theorem take_snocE {es : List Ent} {k : Nat} {e : Ent} (h : es[k]? = some e) : es.take (k + 1) = es.take k ++ [e] := by
  rw [List.take_add_one, h]; rfl
theorem jl_zero (es : List Ent) : jl es 0 = 5 := by simp [jl, jb_nil, coin]
theorem jl_all (es : List Ent) : jl es es.length = (jb es).length := by unfold jl; rw [List.take_length]
theorem jl_succ {es : List Ent} {k : Nat} {e : Ent} (h : es[k]? = some e) : jl es (k + 1) = jl es k + (e.2.length + 9) := by
  unfold jl
  rw [take_snocE h, jb_snoc, List.length_append, frame_len]
theorem jl_split (es : List Ent) (k : Nat) : jb es = jb (es.take k) ++ fr (es.drop k) := by
  unfold jb
  rw [List.append_assoc, ← fr_app, List.take_append_drop]
theorem jl_le (es : List Ent) (k : Nat) : jl es k ≤ (jb es).length := by
  rw [jl_split es k, List.length_append]; unfold jl; omega
theorem jl_ge (es : List Ent) (k : Nat) : 5 ≤ jl es k := jb_ge _
theorem jb_take (es : List Ent) (k : Nat) : (jb es).take (jl es k) = jb (es.take k) := by
  conv => lhs; rw [jl_split es k]
  exact List.take_left' rfl
theorem jb_drop (es : List Ent) (k : Nat) : (jb es).drop (jl es k) = fr (es.drop k) := by
  conv => lhs; rw [jl_split es k]
  exact List.drop_left' rfl
theorem jl_take (es : List Ent) {i k : Nat} (h : i ≤ k) : jl (es.take k) i = jl es i := by
  unfold jl
  rw [List.take_take, Nat.min_eq_left h]
theorem ends_len (es : List Ent) : (ends es).length = es.length := by simp [ends]
theorem ends_get {es : List Ent} {i : Nat} (h : i < es.length) : (ends es)[i]? = some (jl es (i + 1)) := by
  simp [ends, h]
theorem ends_nil : ends [] = [] := rfl
theorem ends_snoc (es : List Ent) (e : Ent) : ends (es ++ [e]) = ends es ++ [(jb (es ++ [e])).length] := by
  apply List.ext_getElem?
  intro i
  rcases Nat.lt_trichotomy i es.length with h | h | h
  · rw [ends_get (by simp; omega), List.getElem?_append_left (by rw [ends_len]; exact h), ends_get h]
    unfold jl
    rw [List.take_append_of_le_length (by omega)]
  · subst h
    rw [ends_get (by simp), List.getElem?_append_right (by rw [ends_len]; omega), ends_len]
    simp only [Nat.sub_self, List.getElem?_cons_zero, Option.some.injEq]
    unfold jl
    rw [List.take_of_length_le (by simp)]
  · rw [List.getElem?_eq_none (by rw [ends_len]; simp; omega), List.getElem?_eq_none (by rw [List.length_append, ends_len]; simp; omega)]
theorem ends_take (es : List Ent) (n : Nat) : (ends es).take n = ends (es.take n) := by
  apply List.ext_getElem?
  intro i
  by_cases h : i < n
  · rw [List.getElem?_take_of_lt h]
    by_cases h2 : i < es.length
    · rw [ends_get h2, ends_get (by simp; omega), jl_take _ (by omega)]
    · rw [List.getElem?_eq_none (by rw [ends_len]; omega), List.getElem?_eq_none (by rw [ends_len]; simp; omega)]
  · rw [List.getElem?_eq_none (by simp; omega), List.getElem?_eq_none (by rw [ends_len]; simp; omega)]
/-- the frame of an entry, in the bytes -/
theorem jb_entry {es : List Ent} {i : Nat} {e : Ent} (h : es[i]? = some e) : ((jb es).drop (jl es i)).take (jl es (i + 1) - jl es i) = frame e.1 e.2 := by
  rw [jb_drop, jl_succ h, Nat.add_sub_cancel_left]
  have hi : i < es.length := (List.getElem?_eq_some_iff.1 h).1
  have he : es[i] = e := (List.getElem?_eq_some_iff.1 h).2
  rw [List.drop_eq_getElem_cons hi, he, fr_cons, List.take_left' (frame_len _ _)]
/-- the error of Open -/
def oE (xs : List Nat) : Nat := if 65536 < xs.length then 6 else if xs.length < 5 then 4 else if xs.take 5 ≠ coin then 3 else 0
theorem oE_cases (xs : List Nat) : oE xs = 0 ∨ oE xs = 3 ∨ oE xs = 4 ∨ oE xs = 6 := by
  unfold oE; split; · simp
  split; · simp
  split <;> simp
/-- what reads one frame after the other -/
def Reads (b : List Nat) (es : List Ent) (r : List Nat) : Prop := b = fr es ++ r ∧ OkE es ∧ opE r ≠ 0
theorem Reads.uniq {es : List Ent} : ∀ {b : List Nat} {es' : List Ent} {r r' : List Nat}, Reads b es r → Reads b es' r' → es = es' ∧ r = r' := by
  induction es with
  | nil =>
    intro b es' r r' h h'
    cases es' with
    | nil => exact ⟨rfl, by have e1 := h.1; have e2 := h'.1; rw [e2] at e1; simpa [fr_nil] using e1.symm⟩
    | cons e es' =>
      exfalso
      have e1 := h.1
      rw [h'.1, fr_cons, fr_nil, List.nil_append, List.append_assoc] at e1
      have := (open_frame (kind := e.1) (data := e.2) (fr es' ++ r') (h'.2.1 e (by simp)).2.2).1
      rw [e1] at this
      exact h.2.2 this
  | cons a es ih =>
    intro b es' r r' h h'
    have o1 := open_frame (kind := a.1) (data := a.2) (fr es ++ r) (h.2.1 a (by simp)).2.2
    have e1 := h.1
    rw [fr_cons, List.append_assoc] at e1
    cases es' with
    | nil =>
      exfalso
      have e2 := h'.1
      rw [fr_nil, List.nil_append] at e2
      rw [← e1, e2] at o1
      exact h'.2.2 o1.1
    | cons a' es' =>
      have o2 := open_frame (kind := a'.1) (data := a'.2) (fr es' ++ r') (h'.2.1 a' (by simp)).2.2
      have e2 := h'.1
      rw [fr_cons, List.append_assoc] at e2
      rw [← e1] at o1
      rw [← e2] at o2
      have ea : a = a' := by
        have k1 := o1.2.1.symm.trans o2.2.1
        have k2 := o1.2.2.1.symm.trans o2.2.2.1
        exact Prod.ext k1 k2
      have er : fr es ++ r = fr es' ++ r' := o1.2.2.2.symm.trans o2.2.2.2
      obtain ⟨i1, i2⟩ := ih (b := fr es ++ r) ⟨rfl, fun x hx => h.2.1 x (by simp [hx]), h.2.2⟩ ⟨er, fun x hx => h'.2.1 x (by simp [hx]), h'.2.2⟩
      exact ⟨by rw [ea, i1], i2⟩
/-- the bytes of a journal that are cut off -/
theorem reads_cut {l : List Ent} (hl : OkE l) {n k : Nat} (hn : n ≤ (jb l).length) (hk : k ≤ l.length) (h1 : jl l k ≤ n) (h2 : k = l.length ∨ n < jl l (k + 1)) :
    Reads (((jb l).take n).drop 5) (l.take k) ((fr (l.drop k)).take (n - jl l k)) ∧ ((fr (l.drop k)).take (n - jl l k)).length = n - jl l k := by
  have hlen : (fr (l.drop k)).length = (jb l).length - jl l k := by rw [← jb_drop, List.length_drop]
  refine ⟨⟨?_, hl.take k, ?_⟩, by rw [List.length_take, hlen]; omega⟩
  · have e : (jb l).take n = jb (l.take k) ++ (fr (l.drop k)).take (n - jl l k) := by
      conv => lhs; rw [jl_split l k]
      rw [List.take_append]
      unfold jl at h1 ⊢
      rw [List.take_of_length_le h1]
    rw [e]
    unfold jb
    rw [List.append_assoc, List.drop_left' (show coin.length = 5 from rfl)]
  · rcases h2 with h2 | h2
    · subst h2
      rw [List.drop_length, fr_nil, List.take_nil]
      simp [opE]
    · by_cases hkl : k < l.length
      · have he : l[k]? = some l[k] := List.getElem?_eq_getElem hkl
        rw [jl_succ he] at h2
        rw [List.drop_eq_getElem_cons hkl, fr_cons, List.take_append_of_le_length (by rw [frame_len]; omega)]
        rw [torn (hl.get he).2.2 (by omega)]
        omega
      · rw [List.drop_eq_nil_of_le (by omega), fr_nil, List.take_nil]
        simp [opE]
theorem reads_all {l : List Ent} (hl : OkE l) : Reads ((jb l).drop 5) l [] := by
  have := (reads_cut hl (n := (jb l).length) (k := l.length) (Nat.le_refl _) (Nat.le_refl _) (by rw [jl_all]; omega) (.inl rfl)).1
  rw [List.take_length, List.take_length, jl_all, Nat.sub_self, List.take_zero] at this
  exact this
/-- one more frame is read -/
theorem reads_more {b r : List Nat} {es : List Ent} (hb : b = fr es ++ r) (hes : OkE es) (hr : By r) (h : opE r = 0) :
    b = fr (es ++ [(opK r, opD r)]) ++ opR r ∧ OkE (es ++ [(opK r, opD r)]) ∧ r = frame (opK r) (opD r) ++ opR r ∧ (opD r).length + 9 + (opR r).length = r.length ∧ (opD r).length ≤ 8192 ∧ opK r < 256 ∧ By (opD r) := by
  obtain ⟨h1, h2⟩ := frame_open hr h
  have hk : opK r < 256 := by
    have := oK_lt hr
    unfold oK at this
    rwa [if_pos h] at this
  refine ⟨by rw [fr_app, fr_one, List.append_assoc, h2]; exact hb, hes.app (OkE.one hk (opD_by hr) h1), h2.symm, ?_, h1, hk, opD_by hr⟩
  have := congrArg List.length h2
  rw [List.length_append, frame_len] at this
  exact this
/-- what is put into a journal -/
def apE (es : List Ent) (d : List Nat) : Nat := if 8192 < d.length ∨ 65536 < (jb es).length + d.length + 9 then 6 else 0
def apL (es : List Ent) (k : Nat) (d : List Nat) : List Ent := if apE es d = 0 then es ++ [(k, d)] else es
theorem apE_cases (es : List Ent) (d : List Nat) : apE es d = 0 ∨ apE es d = 6 := by unfold apE; split <;> simp
theorem apE_ok {es : List Ent} {d : List Nat} (h1 : d.length ≤ 8192) (h2 : (jb es).length + d.length + 9 ≤ 65536) : apE es d = 0 := by
  unfold apE; rw [if_neg (by omega)]
theorem apE_no {es : List Ent} {d : List Nat} (h : 8192 < d.length ∨ 65536 < (jb es).length + d.length + 9) : apE es d = 6 := by
  unfold apE; rw [if_pos h]
theorem apL_ok {es : List Ent} {k : Nat} {d : List Nat} (h : apE es d = 0) : apL es k d = es ++ [(k, d)] := by unfold apL; rw [if_pos h]
theorem apL_no {es : List Ent} {k : Nat} {d : List Nat} (h : apE es d ≠ 0) : apL es k d = es := by unfold apL; rw [if_neg h]
theorem apE_zero {es : List Ent} {d : List Nat} (h : apE es d = 0) : d.length ≤ 8192 ∧ (jb es).length + d.length + 9 ≤ 65536 := by
  unfold apE at h; split at h
  · cases h
  · omega
/-- what is made of a list of entries -/
def mk (l : List Ent) : List Ent := l.foldl (fun es e => apL es e.1 e.2) []
def mkT (l : List Ent) (i : Nat) : List Ent := mk (l.take i)
theorem mkT_zero (l : List Ent) : mkT l 0 = [] := by simp [mkT, mk]
theorem mkT_all (l : List Ent) : mkT l l.length = mk l := by simp [mkT]
theorem mkT_succ {l : List Ent} {i : Nat} {e : Ent} (h : l[i]? = some e) : mkT l (i + 1) = apL (mkT l i) e.1 e.2 := by
  unfold mkT mk
  rw [take_snocE h, List.foldl_append]; rfl
/-- the bytes of data -/
def tot (l : List Ent) : Nat := (l.map fun e => min e.2.length 10000).sum
def few (l : List Ent) : Prop := l.length ≤ 30 ∧ tot l ≤ 1000
theorem le_sum_mem {x : Nat} : ∀ {l : List Nat}, x ∈ l → x ≤ l.sum
  | y :: l, h => by
    rw [List.sum_cons]
    rcases List.mem_cons.1 h with rfl | h
    · omega
    · have := le_sum_mem h; omega
theorem tot_le {l : List Ent} (h : tot l ≤ 1000) : ∀ e ∈ l, e.2.length ≤ 1000 := by
  intro e he
  have : min e.2.length 10000 ≤ tot l := by
    unfold tot
    exact le_sum_mem (List.mem_map.2 ⟨e, he, rfl⟩)
  omega
theorem fr_tot {l : List Ent} (h : ∀ e ∈ l, e.2.length ≤ 1000) : (fr l).length = tot l + 9 * l.length := by
  induction l with
  | nil => rfl
  | cons e l ih =>
    have h1 := h e (by simp)
    have h2 := ih fun x hx => h x (by simp [hx])
    rw [fr_cons, List.length_append, frame_len, h2]
    simp [tot]
    omega
theorem few_len {l : List Ent} (h : few l) : (jb l).length ≤ 1275 := by
  rw [jb_len, fr_tot (tot_le h.2)]
  have := h.1; have := h.2
  omega
theorem mk_few {l : List Ent} (h : few l) : mk l = l := by
  have step : ∀ i, i ≤ l.length → mkT l i = l.take i := by
    intro i
    induction i with
    | zero => intro _; simp [mkT_zero]
    | succ i ih =>
      intro hi
      have he : l[i]? = some l[i] := List.getElem?_eq_getElem (by omega)
      rw [mkT_succ he, ih (by omega), take_snocE he]
      refine apL_ok (apE_ok ?_ ?_)
      · have := tot_le h.2 _ (List.getElem_mem (by omega : i < l.length)); omega
      · have h1 := jl_succ he
        have h2 := jl_le l (i + 1)
        have h3 := few_len h
        unfold jl at h1 h2
        omega
  rw [← mkT_all, step _ (Nat.le_refl _), List.take_length]
theorem few_ok {l : List Ent} (h : few l) (hk : ∀ e ∈ l, e.1 < 256 ∧ By e.2) : OkE l := fun e he => ⟨(hk e he).1, (hk e he).2, by have := tot_le h.2 e he; omega⟩
theorem few_take {l : List Ent} (h : few l) (n : Nat) : few (l.take n) := by
  refine ⟨by rw [List.length_take]; have := h.1; omega, ?_⟩
  have : tot (l.take n) + tot (l.drop n) = tot l := by
    unfold tot
    rw [← List.sum_append, ← List.map_append, List.take_append_drop]
  have := h.2
  omega
end FM
end Go.Proofs.Ytjmpnpflmdpdkaa
