/- Some ledgers at once, each with its own blocks; do, refer. -/
import Derived.Test.YtalbdclcappjpaaGreatRC
import Derived.Test.YtalbdclcappjpaaGreatDJ
namespace Go.Proofs.YtalbdclcappjpaaGreat
open Go Go.RowKit Go.Lib
theorem led_iff {s t : Led} : s = t ↔ (s.d = t.d ∧ s.w = t.w) := ⟨fun h => h ▸ ⟨rfl, rfl⟩, fun h => led_ext h.1 h.2⟩
instance : DecidableEq Led := fun _ _ => decidable_of_iff _ led_iff.symm
/-- a ledger of the program, one of the reference, a list of decisions -/
inductive Ob where
  | prog (p : Nat) (s : Led)
  | refr (p : Nat) (s : Led)
  | row (A : Option Addr) (ys : List Dec)
def Has (w : World) (B : Nat) (F : Nat → Prop) : Ob → Prop
  | .prog p s => LN w B F p s
  | .refr p s => LQ w B F p s
  | .row A ys => SL eD w A ys.length ys ∧ (∀ g, Blk A g → F g) ∧ ∀ k, F k → B ≤ k ∧ k < w.heap.size
theorem Has.turn {w w' : World} {B : Nat} {F G : Nat → Prop} {ob : Ob} (h : Has w B F ob) (t : Turn G w w') (hs : Sep F G) : Has w' B F ob := by
  cases ob with
  | prog p s => exact LN.turn h t hs
  | refr p s => exact LQ.turn h t hs
  | row A ys => exact ⟨h.1.turn t fun _ g hg => hs g (h.2.1 g hg), h.2.1, fun k hk => ⟨(h.2.2 k hk).1, Nat.lt_of_lt_of_le (h.2.2 k hk).2 t.size⟩⟩
theorem Has.bound {w : World} {B : Nat} {F : Nat → Prop} {ob : Ob} (h : Has w B F ob) : ∀ k, F k → B ≤ k ∧ k < w.heap.size := by
  cases ob with
  | prog p s => exact h.2.1
  | refr p s => exact h.2.1
  | row A ys => exact h.2.2
theorem Has.low {w : World} {B B' : Nat} {F : Nat → Prop} {ob : Ob} (h : Has w B F ob) (hb : B' ≤ B) : Has w B' F ob := by
  have hbd : ∀ k, F k → B' ≤ k ∧ k < w.heap.size := fun k hk => ⟨Nat.le_trans hb (h.bound k hk).1, (h.bound k hk).2⟩
  cases ob with
  | prog p s =>
    obtain ⟨h0, h1, h2, A, c, A', c', h3, h4, h5, h6, h7⟩ := h
    exact ⟨h0, hbd, h2, A, c, A', c', h3, h4.low hb, h5.low hb, h6, h7⟩
  | refr p s =>
    obtain ⟨h0, h1, h2, A, c, A', c', h3, h4, h5, h6, h7⟩ := h
    exact ⟨h0, hbd, h2, A, c, A', c', h3, h4.low hb, h5.low hb, h6, h7⟩
  | row A ys => exact ⟨h.1, h.2.1, hbd⟩
/-- these things, in blocks from B on that they don't share -/
def Lot (w : World) (B : Nat) (l : List Ob) : Prop :=
  B ≤ w.heap.size ∧ ∃ Fs : List (Nat → Prop), Fs.length = l.length ∧ (∀ (i : Nat) (F : Nat → Prop) (ob : Ob), Fs[i]? = some F → l[i]? = some ob → Has w B F ob) ∧ ∀ (i j : Nat) (F G : Nat → Prop), i ≠ j → Fs[i]? = some F → Fs[j]? = some G → Sep F G
/-- a later world, in which what lies below B is as it was -/
def Ext (B : Nat) (w W : World) : Prop := B ≤ w.heap.size ∧ Below B w W
theorem Ext.refl {B : Nat} {w : World} (h : B ≤ w.heap.size) : Ext B w w := ⟨h, Below.refl _ _⟩
theorem Ext.drew {B : Nat} {w W : World} (h : Ext B w W) : Ext B w W.drew := ⟨h.1, h.2.drew⟩
theorem Ext.alloc {B : Nat} {w W : World} (h : Ext B w W) (o : Obj) : Ext B w (W.alloc o) := ⟨h.1, h.2.alloc (Nat.le_trans h.1 h.2.size) o⟩
theorem Ext.ext {B : Nat} {w W W' : World} (h : Ext B w W) (k : Ext B W W') : Ext B w W' := ⟨h.1, h.2.trans k.2⟩
theorem Ext.bel {B : Nat} {w W W' : World} (h : Ext B w W) (k : Below W.heap.size W W') : Ext B w W' := ⟨h.1, h.2.trans (k.mono (Nat.le_trans h.1 h.2.size))⟩
theorem Ext.gr {B : Nat} {w W W' : World} (h : Ext B w W) (k : Gr W W') : Ext B w W' := h.bel k.below
theorem Ext.size {B : Nat} {w W : World} (h : Ext B w W) : w.heap.size ≤ W.heap.size := h.2.size
theorem Lot.le {w : World} {B : Nat} {l : List Ob} (h : Lot w B l) : B ≤ w.heap.size := h.1
theorem Lot.nil_ {w : World} {B : Nat} (h : B ≤ w.heap.size) : Lot w B [] := ⟨h, [], rfl, fun i F ob h => by simp at h, fun i j F G _ h => by simp at h⟩
theorem Lot.keep {w w' : World} {B : Nat} {l : List Ob} (h : Lot w B l) (hb : Below w.heap.size w w') : Lot w' B l := by
  obtain ⟨h0, Fs, h1, h2, h3⟩ := h
  exact ⟨Nat.le_trans h0 hb.size, Fs, h1, fun i F ob hF ho => (h2 i F ob hF ho).turn (Turn.of (F := Non) hb) fun _ _ h => h, h3⟩
theorem Lot.gr {w w' : World} {B : Nat} {l : List Ob} (h : Lot w B l) (g : Gr w w') : Lot w' B l := h.keep g.below
theorem Lot.get {w : World} {B : Nat} {l : List Ob} {i : Nat} {ob : Ob} (h : Lot w B l) (hi : l[i]? = some ob) : ∃ F, Has w B F ob := by
  obtain ⟨h0, Fs, h1, h2, h3⟩ := h
  have hil := (List.getElem?_eq_some_iff.1 hi).1
  exact ⟨_, h2 i _ ob (List.getElem?_eq_getElem (by omega)) hi⟩
theorem Lot.upd {w : World} {B : Nat} {l : List Ob} {i : Nat} {ob : Ob} (h : Lot w B l) (hi : l[i]? = some ob) :
    ∃ F, Has w B F ob ∧ ∀ w' ob', Turn F w w' → Has w' B (Plus F w w') ob' → Lot w' B (l.set i ob') ∧ Ext B w w' := by
  obtain ⟨h0, Fs, h1, h2, h3⟩ := h
  have hil := (List.getElem?_eq_some_iff.1 hi).1
  have hiF : Fs[i]? = some (Fs[i]'(by omega)) := List.getElem?_eq_getElem _
  refine ⟨_, h2 i _ ob hiF hi, fun w' ob' t h' => ?_⟩
  have hF := (h2 i _ ob hiF hi).bound
  generalize hFF : Fs[i]'_ = F at *
  refine ⟨⟨Nat.le_trans h0 t.size, Fs.set i (Plus F w w'), by simp [h1], fun j G ob2 hG ho => ?_, fun j k G K hjk hG hK => ?_⟩, h0, t.below (fun k hk => (hF k hk).1) h0⟩
  · by_cases hj : j = i
    · subst hj
      rw [List.getElem?_set_self (by omega)] at hG
      rw [List.getElem?_set_self (by omega)] at ho
      injection hG with hG; injection ho with ho
      subst hG; subst ho
      exact h'
    · rw [List.getElem?_set_ne (Ne.symm hj)] at hG ho
      exact (h2 j G ob2 hG ho).turn t (h3 j i G F hj hG hiF)
  · have hlt : ∀ (j : Nat) (G : Nat → Prop), Fs[j]? = some G → ∀ x, G x → x < w.heap.size := fun j G hG x hx => by
      have hjl := (List.getElem?_eq_some_iff.1 hG).1
      exact ((h2 j G _ hG (List.getElem?_eq_getElem (by omega))).bound x hx).2
    by_cases hj : j = i
    · subst hj
      rw [List.getElem?_set_self (by omega)] at hG
      injection hG with hG; subst hG
      rw [List.getElem?_set_ne hjk] at hK
      exact (h3 j k F K hjk hiF hK).plus (hlt k K hK)
    · rw [List.getElem?_set_ne (Ne.symm hj)] at hG
      by_cases hk : k = i
      · subst hk
        rw [List.getElem?_set_self (by omega)] at hK
        injection hK with hK; subst hK
        exact ((h3 k j F G (Ne.symm hj) hiF hG).plus (hlt j G hG)).symm
      · rw [List.getElem?_set_ne (Ne.symm hk)] at hK
        exact h3 j k G K hjk hG hK
theorem Lot.add {w w' : World} {B : Nat} {l : List Ob} {F : Nat → Prop} {ob : Ob} (h : Lot w B l) (hb : Below w.heap.size w w') (hn : Has w' w.heap.size F ob) : Lot w' B (l ++ [ob]) ∧ Ext B w w' := by
  obtain ⟨h0, Fs, h1, h2, h3⟩ := h
  have hob : ∀ {j : Nat} {G : Nat → Prop}, Fs[j]? = some G → ∃ o, l[j]? = some o := fun {j G} hG => ⟨_, List.getElem?_eq_getElem (by have := (List.getElem?_eq_some_iff.1 hG).1; omega)⟩
  have hold : ∀ (j : Nat) (G : Nat → Prop), Fs[j]? = some G → ∀ x, G x → x < w.heap.size := fun j G hG x hx => by
    obtain ⟨o, ho⟩ := hob hG
    exact ((h2 j G o hG ho).bound x hx).2
  have hnew := hn.bound
  have spl : ∀ {α : Type} (L : List α) (a : α) (j : Nat) (x : α), (L ++ [a])[j]? = some x → (L[j]? = some x) ∨ (j = L.length ∧ x = a) := fun {α} L a j x h => by
    rcases Nat.lt_or_ge j L.length with h1 | h1
    · rw [List.getElem?_append_left h1] at h; exact .inl h
    · rw [List.getElem?_append_right h1] at h
      right
      rcases Nat.eq_zero_or_pos (j - L.length) with h2 | h2
      · rw [h2] at h
        injection h with h
        exact ⟨by omega, h.symm⟩
      · rw [List.getElem?_eq_none (by simp; omega)] at h; cases h
  refine ⟨⟨Nat.le_trans h0 hb.size, Fs ++ [F], by simp [h1], fun j G ob2 hG ho => ?_, fun j k G K hjk hG hK => ?_⟩, h0, hb.mono h0⟩
  · rcases spl _ _ _ _ hG with hG | ⟨hj, rfl⟩ <;> rcases spl _ _ _ _ ho with ho | ⟨hj', rfl⟩
    · exact (h2 j G ob2 hG ho).turn (Turn.of (F := Non) hb) fun _ _ h => h
    · have := (List.getElem?_eq_some_iff.1 hG).1; omega
    · have := (List.getElem?_eq_some_iff.1 ho).1; omega
    · exact hn.low h0
  · rcases spl _ _ _ _ hG with g1 | ⟨g1, e1⟩
    · rcases spl _ _ _ _ hK with k1 | ⟨k1, e2⟩
      · exact h3 j k G K hjk g1 k1
      · rw [e2]; exact (Sep.new (fun x hx => (hnew x hx).1) (hold j G g1)).symm
    · rcases spl _ _ _ _ hK with k1 | ⟨k1, e2⟩
      · rw [e1]; exact Sep.new (fun x hx => (hnew x hx).1) (hold k K k1)
      · omega
theorem at_last {α : Type} (l : List α) (a : α) : (l ++ [a])[l.length]? = some a := by simp
theorem set_last {α : Type} (l : List α) (a b : α) : (l ++ [a]).set l.length b = l ++ [b] := by simp
theorem lot_new (w : World) (B : Nat) (l : List Ob) (h : Lot w B l) : Calls Tryz.prog 21 #[] w fun e w' => ∃ p, e = .returned (.pointer (some ⟨p, 0, none⟩)) ∧ Lot w' B (l ++ [.prog p Led.none]) ∧ Ext B w w' := by
  refine (new_any w).mono ?_
  rintro e w' ⟨p, rfl, h1, h2⟩
  exact ⟨p, rfl, h.add (ob := .prog p Led.none) h2 h1⟩
theorem lot_rnew (w : World) (B : Nat) (l : List Ob) (h : Lot w B l) : Calls Tryz.prog 24 #[] w fun e w' => ∃ p, e = .returned (.pointer (some ⟨p, 0, none⟩)) ∧ Lot w' B (l ++ [.refr p Led.none]) ∧ Ext B w w' := by
  refine (rnew_any w).mono ?_
  rintro e w' ⟨p, rfl, h1, h2⟩
  exact ⟨p, rfl, h.add (ob := .refr p Led.none) h2 h1⟩
theorem lot_make (w : World) (B : Nat) (l : List Ob) (i p : Nat) (s : Led) (d : Dec) (h : Lot w B l) (hi : l[i]? = some (.prog p s)) :
    Calls Tryz.prog 18 #[.pointer (some ⟨p, 0, none⟩), .agg #[.int .i64 d.u, .int .i64 d.n, .int .i64 d.k, .int .i64 d.a, .int .i64 d.b]] w fun e w' => e = .returned (.int .i64 (mkE s.d d)) ∧ Lot w' B (l.set i (.prog p ⟨mkL s.d d, s.w⟩)) ∧ Ext B w w' := by
  obtain ⟨F, h1, h2⟩ := h.upd hi
  refine (make_any w B p F s d h1).mono ?_
  rintro e w' ⟨rfl, h3, h4⟩
  exact ⟨rfl, h2 w' (.prog p ⟨mkL s.d d, s.w⟩) h4 h3⟩
theorem lot_wd (w : World) (B : Nat) (l : List Ob) (i p : Nat) (s : Led) (d : Mk) (h : Lot w B l) (hi : l[i]? = some (.prog p s)) :
    Calls Tryz.prog 19 #[.pointer (some ⟨p, 0, none⟩), .agg #[.int .i64 d.u, .int .i64 d.n]] w fun e w' => e = .returned (.int .i64 (wdE s.w d)) ∧ Lot w' B (l.set i (.prog p ⟨s.d, wdL s.w d⟩)) ∧ Ext B w w' := by
  obtain ⟨F, h1, h2⟩ := h.upd hi
  refine (wd_any w B p F s d h1).mono ?_
  rintro e w' ⟨rfl, h3, h4⟩
  exact ⟨rfl, h2 w' (.prog p ⟨s.d, wdL s.w d⟩) h4 h3⟩
theorem lot_rmake (w : World) (B : Nat) (l : List Ob) (i p : Nat) (s : Led) (d : Dec) (h : Lot w B l) (hi : l[i]? = some (.refr p s)) :
    Calls Tryz.prog 50 #[.pointer (some ⟨p, 0, none⟩), .agg #[.int .i64 d.u, .int .i64 d.n, .int .i64 d.k, .int .i64 d.a, .int .i64 d.b]] w fun e w' => e = .returned (.int .i64 (mkE s.d d)) ∧ Lot w' B (l.set i (.refr p ⟨mkL s.d d, s.w⟩)) ∧ Ext B w w' := by
  obtain ⟨F, h1, h2⟩ := h.upd hi
  refine (rmake_any w B p F s d h1).mono ?_
  rintro e w' ⟨rfl, h3, h4⟩
  exact ⟨rfl, h2 w' (.refr p ⟨mkL s.d d, s.w⟩) h4 h3⟩
theorem lot_rwd (w : World) (B : Nat) (l : List Ob) (i p : Nat) (s : Led) (d : Mk) (h : Lot w B l) (hi : l[i]? = some (.refr p s)) :
    Calls Tryz.prog 49 #[.pointer (some ⟨p, 0, none⟩), .agg #[.int .i64 d.u, .int .i64 d.n]] w fun e w' => e = .returned (.int .i64 (wdE s.w d)) ∧ Lot w' B (l.set i (.refr p ⟨s.d, wdL s.w d⟩)) ∧ Ext B w w' := by
  obtain ⟨F, h1, h2⟩ := h.upd hi
  refine (rwd_any w B p F s d h1).mono ?_
  rintro e w' ⟨rfl, h3, h4⟩
  exact ⟨rfl, h2 w' (.refr p ⟨s.d, wdL s.w d⟩) h4 h3⟩
theorem lot_join (w : World) (B : Nat) (l : List Ob) (i p j q : Nat) (s t : Led) (h : Lot w B l) (hi : l[i]? = some (.prog p s)) (hj : l[j]? = some (.prog q t)) :
    Calls Tryz.prog 9 #[.pointer (some ⟨p, 0, none⟩), .pointer (some ⟨q, 0, none⟩)] w fun e w' => e = .returned (.int .i64 (jE s t)) ∧ Lot w' B (l.set i (.prog p (jL s t))) ∧ Ext B w w' := by
  obtain ⟨F, h1, h2⟩ := h.upd hi
  obtain ⟨G, h3⟩ := h.get hj
  refine (join_any w B p F s B q G t h1 h3).mono ?_
  rintro e w' ⟨rfl, h4, h5⟩
  exact ⟨rfl, h2 w' (.prog p (jL s t)) h5 h4⟩
theorem lot_clone (w : World) (B : Nat) (l : List Ob) (i p : Nat) (s : Led) (h : Lot w B l) (hi : l[i]? = some (.prog p s)) :
    Calls Tryz.prog 13 #[.pointer (some ⟨p, 0, none⟩)] w fun e w' => ∃ q, e = .returned (.pointer (some ⟨q, 0, none⟩)) ∧ Lot w' B (l ++ [.prog q s]) ∧ Ext B w w' := by
  obtain ⟨F, h1⟩ := h.get hi
  refine (clone_any w B p F s h1).mono ?_
  rintro e w' ⟨q, rfl, h3, h4⟩
  exact ⟨q, rfl, h.add (ob := .prog q s) h4 h3⟩
theorem lot_same (w : World) (B : Nat) (l : List Ob) (i p j q : Nat) (s t : Led) (h : Lot w B l) (hi : l[i]? = some (.prog p s)) (hj : l[j]? = some (.prog q t)) (r : Bool) (hr : decide (s = t) = r) :
    Calls Tryz.prog 12 #[.pointer (some ⟨p, 0, none⟩), .pointer (some ⟨q, 0, none⟩)] w fun e w' => e = .returned (.bool r) ∧ Lot w' B l ∧ Ext B w w' := by
  obtain ⟨F, h1⟩ := h.get hi
  obtain ⟨G, h3⟩ := h.get hj
  have he : (decide (s.d = t.d) && decide (s.w = t.w)) = r := by
    rw [← hr, ← Bool.decide_and]
    exact decide_eq_decide.2 led_iff.symm
  refine (same_any w _ _ s t (LN.pq h1) (LN.pq h3) r he).mono ?_
  rintro e w' ⟨rfl, h4⟩
  exact ⟨rfl, h.keep h4, h.1, h4.mono h.1⟩
theorem lot_stand (w : World) (B : Nat) (l : List Ob) (i p : Nat) (s : Led) (h : Lot w B l) (hi : l[i]? = some (.prog p s)) :
    Calls Tryz.prog 20 #[.pointer (some ⟨p, 0, none⟩)] w fun e w' => ∃ A c, e = .returned (.slice A (stL s).length c) ∧ Lot w' B (l ++ [.row A (stL s)]) ∧ Ext B w w' ∧ c ≤ maxLen ∧ Below w.heap.size w w' := by
  obtain ⟨F, h1⟩ := h.get hi
  refine (stand_any w B p F s h1).mono ?_
  rintro e w' ⟨A, c, rfl, h3, h4⟩
  have := h.add (F := Blk A) (ob := .row A (stL s)) h4 ⟨h3.sl, fun _ h => h, h3.blk⟩
  exact ⟨A, c, rfl, this.1, this.2, h3.le.2, h4⟩
theorem lot_made (w : World) (B : Nat) (l : List Ob) (i p : Nat) (s : Led) (h : Lot w B l) (hi : l[i]? = some (.prog p s)) :
    Calls Tryz.prog 15 #[.pointer (some ⟨p, 0, none⟩)] w fun e w' => ∃ A c, e = .returned (.slice A s.d.length c) ∧ SL eD w' A s.d.length s.d ∧ Lot w' B l ∧ Ext B w w' ∧ Below w.heap.size w w' := by
  obtain ⟨F, h1⟩ := h.get hi
  refine (made_any w _ s (LN.pq h1)).mono ?_
  rintro e w' ⟨A, c, rfl, h3, h4⟩
  exact ⟨A, c, rfl, h3.sl, h.keep h4, ⟨h.1, h4.mono h.1⟩, h4⟩
theorem lot_withdrawn (w : World) (B : Nat) (l : List Ob) (i p : Nat) (s : Led) (h : Lot w B l) (hi : l[i]? = some (.prog p s)) :
    Calls Tryz.prog 16 #[.pointer (some ⟨p, 0, none⟩)] w fun e w' => ∃ A c, e = .returned (.slice A s.w.length c) ∧ SL eM w' A s.w.length s.w ∧ Lot w' B l ∧ Ext B w w' ∧ Below w.heap.size w w' := by
  obtain ⟨F, h1⟩ := h.get hi
  refine (withdrawn_any w _ s (LN.pq h1)).mono ?_
  rintro e w' ⟨A, c, rfl, h3, h4⟩
  exact ⟨A, c, rfl, h3.sl, h.keep h4, ⟨h.1, h4.mono h.1⟩, h4⟩

set_option maxHeartbeats 2000000 in
theorem lot_do (w : World) (B : Nat) (l : List Ob) (i p : Nat) (s : Led) (o : Opr) (h : Lot w B l) (hi : l[i]? = some (.prog p s)) :
    Calls Tryz.prog 17 #[.pointer (some ⟨p, 0, none⟩), .agg #[.bool o.b, .int .i64 o.d.u, .int .i64 o.d.n, .int .i64 o.d.k, .int .i64 o.d.a, .int .i64 o.d.b, .int .i64 o.m.u, .int .i64 o.m.n]] w fun e w' => e = .returned (.int .i64 (s.code o)) ∧ Lot w' B (l.set i (.prog p (s.step o))) ∧ Ext B w w' := by
  have H := hide (h.keep ((Below.refl _ _).alloc (Nat.le_refl _) (.cells #[.bool o.b, .int .i64 o.d.u, .int .i64 o.d.n, .int .i64 o.d.k, .int .i64 o.d.a, .int .i64 o.d.b, .int .i64 o.m.u, .int .i64 o.m.n] 48)))
  have HE := hide ((Ext.refl h.le).alloc (.cells #[.bool o.b, .int .i64 o.d.u, .int .i64 o.d.n, .int .i64 o.d.k, .int .i64 o.d.a, .int .i64 o.d.b, .int .i64 o.m.u, .int .i64 o.m.n] 48))
  clear h
  cases hb : o.b with
  | true =>
    have e1 : s.code o = wdE s.w o.m := by unfold Led.code; rw [hb, if_pos rfl]
    have e2 : s.step o = ⟨s.d, wdL s.w o.m⟩ := by unfold Led.step; rw [hb, if_pos rfl]
    rw [e1, e2]
    rw [hb] at H HE
    clear hb e1 e2
    have c0 : (w.alloc (.cells #[.bool true, .int .i64 o.d.u, .int .i64 o.d.n, .int .i64 o.d.k, .int .i64 o.d.a, .int .i64 o.d.b, .int .i64 o.m.u, .int .i64 o.m.n] 48)).cell? ⟨w.heap.size, 0, none⟩ = some (.bool true) := (Box.new w _ _).at_ 0
    have c1 : (w.alloc (.cells #[.bool true, .int .i64 o.d.u, .int .i64 o.d.n, .int .i64 o.d.k, .int .i64 o.d.a, .int .i64 o.d.b, .int .i64 o.m.u, .int .i64 o.m.n] 48)).cell? ⟨w.heap.size, 1, none⟩ = some (.int .i64 o.d.u) := (Box.new w _ _).at_ 1
    have c2 : (w.alloc (.cells #[.bool true, .int .i64 o.d.u, .int .i64 o.d.n, .int .i64 o.d.k, .int .i64 o.d.a, .int .i64 o.d.b, .int .i64 o.m.u, .int .i64 o.m.n] 48)).cell? ⟨w.heap.size, 2, none⟩ = some (.int .i64 o.d.n) := (Box.new w _ _).at_ 2
    have c3 : (w.alloc (.cells #[.bool true, .int .i64 o.d.u, .int .i64 o.d.n, .int .i64 o.d.k, .int .i64 o.d.a, .int .i64 o.d.b, .int .i64 o.m.u, .int .i64 o.m.n] 48)).cell? ⟨w.heap.size, 3, none⟩ = some (.int .i64 o.d.k) := (Box.new w _ _).at_ 3
    have c4 : (w.alloc (.cells #[.bool true, .int .i64 o.d.u, .int .i64 o.d.n, .int .i64 o.d.k, .int .i64 o.d.a, .int .i64 o.d.b, .int .i64 o.m.u, .int .i64 o.m.n] 48)).cell? ⟨w.heap.size, 4, none⟩ = some (.int .i64 o.d.a) := (Box.new w _ _).at_ 4
    have c5 : (w.alloc (.cells #[.bool true, .int .i64 o.d.u, .int .i64 o.d.n, .int .i64 o.d.k, .int .i64 o.d.a, .int .i64 o.d.b, .int .i64 o.m.u, .int .i64 o.m.n] 48)).cell? ⟨w.heap.size, 5, none⟩ = some (.int .i64 o.d.b) := (Box.new w _ _).at_ 5
    have c6 : (w.alloc (.cells #[.bool true, .int .i64 o.d.u, .int .i64 o.d.n, .int .i64 o.d.k, .int .i64 o.d.a, .int .i64 o.d.b, .int .i64 o.m.u, .int .i64 o.m.n] 48)).cell? ⟨w.heap.size, 6, none⟩ = some (.int .i64 o.m.u) := (Box.new w _ _).at_ 6
    have c7 : (w.alloc (.cells #[.bool true, .int .i64 o.d.u, .int .i64 o.d.n, .int .i64 o.d.k, .int .i64 o.d.a, .int .i64 o.d.b, .int .i64 o.m.u, .int .i64 o.m.n] 48)).cell? ⟨w.heap.size, 7, none⟩ = some (.int .i64 o.m.n) := (Box.new w _ _).at_ 7
    go_enter Tryz.func17, Tryz.ntmps17
    go_wp2_with fail
    refine (lot_wd _ B l i p s o.m H.out hi).mono ?_
    rintro e w1 ⟨rfl, h1, h2⟩
    have H1 := hide h1
    have H2 := hide (HE.out.ext h2)
    clear h1 h2
    go_wp2_with fail
    go_ret
    exact ⟨rfl, H1.out, H2.out⟩
  | false =>
    have e1 : s.code o = mkE s.d o.d := by unfold Led.code; rw [hb, if_neg (by decide)]
    have e2 : s.step o = ⟨mkL s.d o.d, s.w⟩ := by unfold Led.step; rw [hb, if_neg (by decide)]
    rw [e1, e2]
    rw [hb] at H HE
    clear hb e1 e2
    have c0 : (w.alloc (.cells #[.bool false, .int .i64 o.d.u, .int .i64 o.d.n, .int .i64 o.d.k, .int .i64 o.d.a, .int .i64 o.d.b, .int .i64 o.m.u, .int .i64 o.m.n] 48)).cell? ⟨w.heap.size, 0, none⟩ = some (.bool false) := (Box.new w _ _).at_ 0
    have c1 : (w.alloc (.cells #[.bool false, .int .i64 o.d.u, .int .i64 o.d.n, .int .i64 o.d.k, .int .i64 o.d.a, .int .i64 o.d.b, .int .i64 o.m.u, .int .i64 o.m.n] 48)).cell? ⟨w.heap.size, 1, none⟩ = some (.int .i64 o.d.u) := (Box.new w _ _).at_ 1
    have c2 : (w.alloc (.cells #[.bool false, .int .i64 o.d.u, .int .i64 o.d.n, .int .i64 o.d.k, .int .i64 o.d.a, .int .i64 o.d.b, .int .i64 o.m.u, .int .i64 o.m.n] 48)).cell? ⟨w.heap.size, 2, none⟩ = some (.int .i64 o.d.n) := (Box.new w _ _).at_ 2
    have c3 : (w.alloc (.cells #[.bool false, .int .i64 o.d.u, .int .i64 o.d.n, .int .i64 o.d.k, .int .i64 o.d.a, .int .i64 o.d.b, .int .i64 o.m.u, .int .i64 o.m.n] 48)).cell? ⟨w.heap.size, 3, none⟩ = some (.int .i64 o.d.k) := (Box.new w _ _).at_ 3
    have c4 : (w.alloc (.cells #[.bool false, .int .i64 o.d.u, .int .i64 o.d.n, .int .i64 o.d.k, .int .i64 o.d.a, .int .i64 o.d.b, .int .i64 o.m.u, .int .i64 o.m.n] 48)).cell? ⟨w.heap.size, 4, none⟩ = some (.int .i64 o.d.a) := (Box.new w _ _).at_ 4
    have c5 : (w.alloc (.cells #[.bool false, .int .i64 o.d.u, .int .i64 o.d.n, .int .i64 o.d.k, .int .i64 o.d.a, .int .i64 o.d.b, .int .i64 o.m.u, .int .i64 o.m.n] 48)).cell? ⟨w.heap.size, 5, none⟩ = some (.int .i64 o.d.b) := (Box.new w _ _).at_ 5
    have c6 : (w.alloc (.cells #[.bool false, .int .i64 o.d.u, .int .i64 o.d.n, .int .i64 o.d.k, .int .i64 o.d.a, .int .i64 o.d.b, .int .i64 o.m.u, .int .i64 o.m.n] 48)).cell? ⟨w.heap.size, 6, none⟩ = some (.int .i64 o.m.u) := (Box.new w _ _).at_ 6
    have c7 : (w.alloc (.cells #[.bool false, .int .i64 o.d.u, .int .i64 o.d.n, .int .i64 o.d.k, .int .i64 o.d.a, .int .i64 o.d.b, .int .i64 o.m.u, .int .i64 o.m.n] 48)).cell? ⟨w.heap.size, 7, none⟩ = some (.int .i64 o.m.n) := (Box.new w _ _).at_ 7
    go_enter Tryz.func17, Tryz.ntmps17
    go_wp2_with fail
    refine (lot_make _ B l i p s o.d H.out hi).mono ?_
    rintro e w1 ⟨rfl, h1, h2⟩
    have H1 := hide h1
    have H2 := hide (HE.out.ext h2)
    clear h1 h2
    go_wp2_with fail
    go_ret
    exact ⟨rfl, H1.out, H2.out⟩

set_option maxHeartbeats 2000000 in
theorem lot_refer (w : World) (B : Nat) (l : List Ob) (i p : Nat) (s : Led) (o : Opr) (h : Lot w B l) (hi : l[i]? = some (.refr p s)) :
    Calls Tryz.prog 25 #[.pointer (some ⟨p, 0, none⟩), .agg #[.bool o.b, .int .i64 o.d.u, .int .i64 o.d.n, .int .i64 o.d.k, .int .i64 o.d.a, .int .i64 o.d.b, .int .i64 o.m.u, .int .i64 o.m.n]] w fun e w' => e = .returned (.int .i64 (s.code o)) ∧ Lot w' B (l.set i (.refr p (s.step o))) ∧ Ext B w w' := by
  have H := hide (h.keep ((Below.refl _ _).alloc (Nat.le_refl _) (.cells #[.bool o.b, .int .i64 o.d.u, .int .i64 o.d.n, .int .i64 o.d.k, .int .i64 o.d.a, .int .i64 o.d.b, .int .i64 o.m.u, .int .i64 o.m.n] 48)))
  have HE := hide ((Ext.refl h.le).alloc (.cells #[.bool o.b, .int .i64 o.d.u, .int .i64 o.d.n, .int .i64 o.d.k, .int .i64 o.d.a, .int .i64 o.d.b, .int .i64 o.m.u, .int .i64 o.m.n] 48))
  clear h
  cases hb : o.b with
  | true =>
    have e1 : s.code o = wdE s.w o.m := by unfold Led.code; rw [hb, if_pos rfl]
    have e2 : s.step o = ⟨s.d, wdL s.w o.m⟩ := by unfold Led.step; rw [hb, if_pos rfl]
    rw [e1, e2]
    rw [hb] at H HE
    clear hb e1 e2
    have c0 : (w.alloc (.cells #[.bool true, .int .i64 o.d.u, .int .i64 o.d.n, .int .i64 o.d.k, .int .i64 o.d.a, .int .i64 o.d.b, .int .i64 o.m.u, .int .i64 o.m.n] 48)).cell? ⟨w.heap.size, 0, none⟩ = some (.bool true) := (Box.new w _ _).at_ 0
    have c1 : (w.alloc (.cells #[.bool true, .int .i64 o.d.u, .int .i64 o.d.n, .int .i64 o.d.k, .int .i64 o.d.a, .int .i64 o.d.b, .int .i64 o.m.u, .int .i64 o.m.n] 48)).cell? ⟨w.heap.size, 1, none⟩ = some (.int .i64 o.d.u) := (Box.new w _ _).at_ 1
    have c2 : (w.alloc (.cells #[.bool true, .int .i64 o.d.u, .int .i64 o.d.n, .int .i64 o.d.k, .int .i64 o.d.a, .int .i64 o.d.b, .int .i64 o.m.u, .int .i64 o.m.n] 48)).cell? ⟨w.heap.size, 2, none⟩ = some (.int .i64 o.d.n) := (Box.new w _ _).at_ 2
    have c3 : (w.alloc (.cells #[.bool true, .int .i64 o.d.u, .int .i64 o.d.n, .int .i64 o.d.k, .int .i64 o.d.a, .int .i64 o.d.b, .int .i64 o.m.u, .int .i64 o.m.n] 48)).cell? ⟨w.heap.size, 3, none⟩ = some (.int .i64 o.d.k) := (Box.new w _ _).at_ 3
    have c4 : (w.alloc (.cells #[.bool true, .int .i64 o.d.u, .int .i64 o.d.n, .int .i64 o.d.k, .int .i64 o.d.a, .int .i64 o.d.b, .int .i64 o.m.u, .int .i64 o.m.n] 48)).cell? ⟨w.heap.size, 4, none⟩ = some (.int .i64 o.d.a) := (Box.new w _ _).at_ 4
    have c5 : (w.alloc (.cells #[.bool true, .int .i64 o.d.u, .int .i64 o.d.n, .int .i64 o.d.k, .int .i64 o.d.a, .int .i64 o.d.b, .int .i64 o.m.u, .int .i64 o.m.n] 48)).cell? ⟨w.heap.size, 5, none⟩ = some (.int .i64 o.d.b) := (Box.new w _ _).at_ 5
    have c6 : (w.alloc (.cells #[.bool true, .int .i64 o.d.u, .int .i64 o.d.n, .int .i64 o.d.k, .int .i64 o.d.a, .int .i64 o.d.b, .int .i64 o.m.u, .int .i64 o.m.n] 48)).cell? ⟨w.heap.size, 6, none⟩ = some (.int .i64 o.m.u) := (Box.new w _ _).at_ 6
    have c7 : (w.alloc (.cells #[.bool true, .int .i64 o.d.u, .int .i64 o.d.n, .int .i64 o.d.k, .int .i64 o.d.a, .int .i64 o.d.b, .int .i64 o.m.u, .int .i64 o.m.n] 48)).cell? ⟨w.heap.size, 7, none⟩ = some (.int .i64 o.m.n) := (Box.new w _ _).at_ 7
    go_enter Tryz.func25, Tryz.ntmps25
    go_wp2_with fail
    refine (lot_rwd _ B l i p s o.m H.out hi).mono ?_
    rintro e w1 ⟨rfl, h1, h2⟩
    have H1 := hide h1
    have H2 := hide (HE.out.ext h2)
    clear h1 h2
    go_wp2_with fail
    go_ret
    exact ⟨rfl, H1.out, H2.out⟩
  | false =>
    have e1 : s.code o = mkE s.d o.d := by unfold Led.code; rw [hb, if_neg (by decide)]
    have e2 : s.step o = ⟨mkL s.d o.d, s.w⟩ := by unfold Led.step; rw [hb, if_neg (by decide)]
    rw [e1, e2]
    rw [hb] at H HE
    clear hb e1 e2
    have c0 : (w.alloc (.cells #[.bool false, .int .i64 o.d.u, .int .i64 o.d.n, .int .i64 o.d.k, .int .i64 o.d.a, .int .i64 o.d.b, .int .i64 o.m.u, .int .i64 o.m.n] 48)).cell? ⟨w.heap.size, 0, none⟩ = some (.bool false) := (Box.new w _ _).at_ 0
    have c1 : (w.alloc (.cells #[.bool false, .int .i64 o.d.u, .int .i64 o.d.n, .int .i64 o.d.k, .int .i64 o.d.a, .int .i64 o.d.b, .int .i64 o.m.u, .int .i64 o.m.n] 48)).cell? ⟨w.heap.size, 1, none⟩ = some (.int .i64 o.d.u) := (Box.new w _ _).at_ 1
    have c2 : (w.alloc (.cells #[.bool false, .int .i64 o.d.u, .int .i64 o.d.n, .int .i64 o.d.k, .int .i64 o.d.a, .int .i64 o.d.b, .int .i64 o.m.u, .int .i64 o.m.n] 48)).cell? ⟨w.heap.size, 2, none⟩ = some (.int .i64 o.d.n) := (Box.new w _ _).at_ 2
    have c3 : (w.alloc (.cells #[.bool false, .int .i64 o.d.u, .int .i64 o.d.n, .int .i64 o.d.k, .int .i64 o.d.a, .int .i64 o.d.b, .int .i64 o.m.u, .int .i64 o.m.n] 48)).cell? ⟨w.heap.size, 3, none⟩ = some (.int .i64 o.d.k) := (Box.new w _ _).at_ 3
    have c4 : (w.alloc (.cells #[.bool false, .int .i64 o.d.u, .int .i64 o.d.n, .int .i64 o.d.k, .int .i64 o.d.a, .int .i64 o.d.b, .int .i64 o.m.u, .int .i64 o.m.n] 48)).cell? ⟨w.heap.size, 4, none⟩ = some (.int .i64 o.d.a) := (Box.new w _ _).at_ 4
    have c5 : (w.alloc (.cells #[.bool false, .int .i64 o.d.u, .int .i64 o.d.n, .int .i64 o.d.k, .int .i64 o.d.a, .int .i64 o.d.b, .int .i64 o.m.u, .int .i64 o.m.n] 48)).cell? ⟨w.heap.size, 5, none⟩ = some (.int .i64 o.d.b) := (Box.new w _ _).at_ 5
    have c6 : (w.alloc (.cells #[.bool false, .int .i64 o.d.u, .int .i64 o.d.n, .int .i64 o.d.k, .int .i64 o.d.a, .int .i64 o.d.b, .int .i64 o.m.u, .int .i64 o.m.n] 48)).cell? ⟨w.heap.size, 6, none⟩ = some (.int .i64 o.m.u) := (Box.new w _ _).at_ 6
    have c7 : (w.alloc (.cells #[.bool false, .int .i64 o.d.u, .int .i64 o.d.n, .int .i64 o.d.k, .int .i64 o.d.a, .int .i64 o.d.b, .int .i64 o.m.u, .int .i64 o.m.n] 48)).cell? ⟨w.heap.size, 7, none⟩ = some (.int .i64 o.m.n) := (Box.new w _ _).at_ 7
    go_enter Tryz.func25, Tryz.ntmps25
    go_wp2_with fail
    refine (lot_rmake _ B l i p s o.d H.out hi).mono ?_
    rintro e w1 ⟨rfl, h1, h2⟩
    have H1 := hide h1
    have H2 := hide (HE.out.ext h2)
    clear h1 h2
    go_wp2_with fail
    go_ret
    exact ⟨rfl, H1.out, H2.out⟩
end Go.Proofs.YtalbdclcappjpaaGreat
