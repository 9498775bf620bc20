/- The laws' helpers: awake; what the answers are. -/
import Derived.Test.YtlnajliobebgdaaUV
import Derived.Test.YtlnajliobebgdaaUU
import Derived.Test.YtlnajliobebgdaaUS
namespace Go.Proofs.Ytlnajliobebgdaa
open Go Go.RowKit Go.Lib
theorem giv_is {α : Type} {e0 : En α} {w w' : World} {R : List α × Int} {l : List α} {er : Int} {e : Ending} (hR : R = (l, er)) (h : Giv e0 w R e w') : ∃ A c n, e = .returned (.tuple #[.slice A n c, .int .i64 er]) ∧ l.length = n ∧ SL e0 w' A n l ∧ Below w.heap.size w w' := by
  subst hR
  obtain ⟨A, c, h1, h2, h3⟩ := h
  exact ⟨A, c, _, h1, rfl, h2.sl, h3⟩
theorem givM_is {w w' : World} {R : List Ent × List Int × Int} {l : List Ent} {q : List Int} {er : Int} {e : Ending} (hR : R = (l, q, er)) (h : GivM w R e w') : ∃ A c n A' c' n', e = .returned (.tuple #[.slice A n c, .slice A' n' c', .int .i64 er]) ∧ l.length = n ∧ q.length = n' ∧ SL eE w' A n l ∧ SL eI w' A' n' q ∧ Below w.heap.size w w' := by
  subst hR
  obtain ⟨A, c, A', c', h1, h2, h3, h4⟩ := h
  exact ⟨A, c, _, A', c', _, h1, rfl, rfl, h2.sl, h3.sl, h4⟩
theorem full_len {α : Type} (l : List α) : (full l).1.length ≤ 64 := by
  unfold full
  split
  · assumption
  · exact Nat.zero_le _
theorem difR_len (a b : List Ent) : (difR a b).1.length ≤ 64 := by
  unfold difR
  split
  · exact full_len _
  · exact Nat.zero_le _
theorem appR_len (a : List Ent) (c : List Chg) : (appR a c).1.length ≤ 64 := by
  unfold appR
  split
  · split
    · exact Nat.zero_le _
    · exact full_len _
  · exact Nat.zero_le _
theorem comR_len (c d : List Chg) : (comR c d).1.length ≤ 64 := by
  unfold comR
  split
  · split
    · exact Nat.zero_le _
    · exact full_len _
  · exact Nat.zero_le _
theorem invR_len (c : List Chg) : (invR c).1.length ≤ 64 := by
  unfold invR
  split
  · rename_i h
    show (inv c).length ≤ 64
    rw [len_inv]
    exact (vC_iff.1 h).1
  · exact Nat.zero_le _
theorem merR_len (o a b : List Ent) : (merR o a b).1.length ≤ 64 ∧ (merR o a b).2.1.length ≤ 64 := by
  unfold merR
  split
  · split
    · assumption
    · exact ⟨Nat.zero_le _, Nat.zero_le _⟩
  · exact ⟨Nat.zero_le _, Nat.zero_le _⟩
theorem dif_cases (a b : List Ent) : (vE a = true ∧ vE b = true ∧ (difL a b).length ≤ 64 ∧ difR a b = (difL a b, 0)) ∨ ∃ er, (er = 1 ∨ er = 6) ∧ difR a b = ([], er) ∧ difR b a = ([], er) := by
  cases ha : vE a with
  | false => exact .inr ⟨1, .inl rfl, difR_no (.inl ha), difR_no (.inr ha)⟩
  | true =>
    cases hb : vE b with
    | false => exact .inr ⟨1, .inl rfl, difR_no (.inr hb), difR_no (.inl hb)⟩
    | true =>
      by_cases h : (difL a b).length ≤ 64
      · exact .inl ⟨rfl, rfl, h, by rw [difR_ok ha hb]; exact full_ok h⟩
      · exact .inr ⟨6, .inr rfl, by rw [difR_ok ha hb]; exact full_no h, by rw [difR_ok hb ha]; exact full_no (by rw [← len_dif]; exact h)⟩
theorem com_valid {c d l : List Chg} (h : comR c d = (l, 0)) : vC l = true := by
  unfold comR at h
  split at h
  · rename_i hv
    rw [Bool.and_eq_true] at hv
    split at h
    · injection h with _ h; cases h
    · unfold full at h
      split at h
      · rename_i hl
        injection h with h _
        rw [← h]
        exact vC_co hv.1 hv.2 hl
      · injection h with _ h; cases h
  · injection h with _ h; cases h
theorem box2E {w : World} {g : Nat} {t : TypeId} {x y : Ent} (h : Box w g #[.int .i64 x.k, .int .i64 x.v, .int .i64 y.k, .int .i64 y.v] t) : SL eE w (some ⟨g, 0, none⟩) 2 [x, y] :=
  ⟨rfl, fun _ => ⟨g, 0, rfl, h.lt, fun j u hu => by
    have hj : j < 4 := by
      have := (List.getElem?_eq_some_iff.1 hu).1
      rwa [flatE_len] at this
    match j, hj with
    | 0, _ => rw [show (flatE eE [x, y])[0]? = some (.int .i64 x.k) from rfl] at hu; injection hu with hu; subst hu; exact h.at_ 0
    | 1, _ => rw [show (flatE eE [x, y])[1]? = some (.int .i64 x.v) from rfl] at hu; injection hu with hu; subst hu; exact h.at_ 1
    | 2, _ => rw [show (flatE eE [x, y])[2]? = some (.int .i64 y.k) from rfl] at hu; injection hu with hu; subst hu; exact h.at_ 2
    | 3, _ => rw [show (flatE eE [x, y])[3]? = some (.int .i64 y.v) from rfl] at hu; injection hu with hu; subst hu; exact h.at_ 3⟩⟩
theorem ex_dif : ∃ L : List Chg, difR [⟨1, 10⟩, ⟨2, 20⟩] [⟨2, 21⟩, ⟨3, 30⟩] = (L, 0) ∧ L.length = 3 := ⟨[⟨1, 10, 0, true, false⟩, ⟨2, 20, 21, true, true⟩, ⟨3, 0, 30, false, true⟩], by decide +kernel, rfl⟩
theorem ex_mer : merR [⟨1, 10⟩, ⟨2, 20⟩] [⟨1, 11⟩, ⟨2, 20⟩] [⟨1, 12⟩, ⟨2, 22⟩] = ([⟨1, 10⟩, ⟨2, 22⟩], [1], 0) := by decide +kernel
theorem kpE {w w' : World} {A : Option Addr} {n : Nat} {l : List Ent} (h : SL eE w A n l) (b : Below w.heap.size w w') : SL eE w' A n l := h.keep b
theorem kpA {w : World} {A : Option Addr} {n : Nat} {l : List Ent} (h : SL eE w A n l) (o : Obj) : SL eE (w.alloc o) A n l := h.keep ((Below.refl _ _).alloc (Nat.le_refl _) o)
end Go.Proofs.Ytlnajliobebgdaa
