/- The laws' helpers: awake; what the answers are. -/
import Derived.Test.YtadmiecoahohiaaUV
import Derived.Test.YtadmiecoahohiaaUU
import Derived.Test.YtadmiecoahohiaaUS
namespace Go.Proofs.Ytadmiecoahohiaa
open Go Go.RowKit Go.Lib
theorem giv_is {α : Type} {e0 : En α} {w w' : World} {R : List α × Int} {l : List α} {er : Int} {e : Ending} (hR : R = (l, er)) (h : Giv e0 w R e w') : ∃ A c n, e = .returned (.tuple #[.slice A n c, .int .i64 er]) ∧ l.length = n ∧ SL e0 w' A n l ∧ Below w.heap.size w w' := by
  subst hR
  obtain ⟨A, c, h1, h2, h3⟩ := h
  exact ⟨A, c, _, h1, rfl, h2.sl, h3⟩
theorem givM_is {w w' : World} {R : List Ent × List Int × Int} {l : List Ent} {q : List Int} {er : Int} {e : Ending} (hR : R = (l, q, er)) (h : GivM w R e w') : ∃ A c n A' c' n', e = .returned (.tuple #[.slice A n c, .slice A' n' c', .int .i64 er]) ∧ l.length = n ∧ q.length = n' ∧ SL eE w' A n l ∧ SL eI w' A' n' q ∧ Below w.heap.size w w' := by
  subst hR
  obtain ⟨A, c, A', c', h1, h2, h3, h4⟩ := h
  exact ⟨A, c, _, A', c', _, h1, rfl, rfl, h2.sl, h3.sl, h4⟩
theorem full_len {α : Type} (l : List α) : (full l).1.length ≤ 64 := by
  unfold full
  split
  · assumption
  · exact Nat.zero_le _
theorem difR_len (a b : List Ent) : (difR a b).1.length ≤ 64 := by
  unfold difR
  split
  · exact full_len _
  · exact Nat.zero_le _
theorem appR_len (a : List Ent) (c : List Chg) : (appR a c).1.length ≤ 64 := by
  unfold appR
  split
  · split
    · exact Nat.zero_le _
    · exact full_len _
  · exact Nat.zero_le _
theorem comR_len (c d : List Chg) : (comR c d).1.length ≤ 64 := by
  unfold comR
  split
  · split
    · exact Nat.zero_le _
    · exact full_len _
  · exact Nat.zero_le _
theorem invR_len (c : List Chg) : (invR c).1.length ≤ 64 := by
  unfold invR
  split
  · rename_i h
    show (inv c).length ≤ 64
    rw [len_inv]
    exact (vC_iff.1 h).1
  · exact Nat.zero_le _
theorem merR_len (o a b : List Ent) : (merR o a b).1.length ≤ 64 ∧ (merR o a b).2.1.length ≤ 64 := by
  unfold merR
  split
  · split
    · assumption
    · exact ⟨Nat.zero_le _, Nat.zero_le _⟩
  · exact ⟨Nat.zero_le _, Nat.zero_le _⟩
theorem dif_cases (a b : List Ent) : (vE a = true ∧ vE b = true ∧ (difL a b).length ≤ 64 ∧ difR a b = (difL a b, 0)) ∨ ∃ er, (er = 1 ∨ er = 6) ∧ difR a b = ([], er) ∧ difR b a = ([], er) := by
  cases ha : vE a with
  | false => exact .inr ⟨1, .inl rfl, difR_no (.inl ha), difR_no (.inr ha)⟩
  | true =>
    cases hb : vE b with
    | false => exact .inr ⟨1, .inl rfl, difR_no (.inr hb), difR_no (.inl hb)⟩
    | true =>
      by_cases h : (difL a b).length ≤ 64
      · exact .inl ⟨rfl, rfl, h, by rw [difR_ok ha hb]; exact full_ok h⟩
      · exact .inr ⟨6, .inr rfl, by rw [difR_ok ha hb]; exact full_no h, by rw [difR_ok hb ha]; exact full_no (by rw [← len_dif]; exact h)⟩
theorem com_valid {c d l : List Chg} (h : comR c d = (l, 0)) : vC l = true := by
  unfold comR at h
  split at h
  · rename_i hv
    rw [Bool.and_eq_true] at hv
    split at h
    · injection h with _ h; cases h
    · unfold full at h
      split at h
      · rename_i hl
        injection h with h _
        rw [← h]
        exact vC_co hv.1 hv.2 hl
      · injection h with _ h; cases h
  · injection h with _ h; cases h
theorem box2E {w : World} {g : Nat} {t : TypeId} {x y : Ent} (h : Box w g #[.int .i64 x.k, .int .i64 x.v, .int .i64 y.k, .int .i64 y.v] t) : SL eE w (some ⟨g, 0, none⟩) 2 [x, y] :=
  ⟨rfl, fun _ => ⟨g, 0, rfl, h.lt, fun j u hu => by
    have hj : j < 4 := by
      have := (List.getElem?_eq_some_iff.1 hu).1
      rwa [flatE_len] at this
    match j, hj with
    | 0, _ => rw [show (flatE eE [x, y])[0]? = some (.int .i64 x.k) from rfl] at hu; injection hu with hu; subst hu; exact h.at_ 0
    | 1, _ => rw [show (flatE eE [x, y])[1]? = some (.int .i64 x.v) from rfl] at hu; injection hu with hu; subst hu; exact h.at_ 1
    | 2, _ => rw [show (flatE eE [x, y])[2]? = some (.int .i64 y.k) from rfl] at hu; injection hu with hu; subst hu; exact h.at_ 2
    | 3, _ => rw [show (flatE eE [x, y])[3]? = some (.int .i64 y.v) from rfl] at hu; injection hu with hu; subst hu; exact h.at_ 3⟩⟩
theorem ex_dif : ∃ L : List Chg, difR [⟨1, 10⟩, ⟨2, 20⟩] [⟨2, 21⟩, ⟨3, 30⟩] = (L, 0) ∧ L.length = 3 := ⟨[⟨1, 10, 0, true, false⟩, ⟨2, 20, 21, true, true⟩, ⟨3, 0, 30, false, true⟩], by decide +kernel, rfl⟩
theorem ex_mer : merR [⟨1, 10⟩, ⟨2, 20⟩] [⟨1, 11⟩, ⟨2, 20⟩] [⟨1, 12⟩, ⟨2, 22⟩] = ([⟨1, 10⟩, ⟨2, 22⟩], [1], 0) := by decide +kernel
theorem kpE {w w' : World} {A : Option Addr} {n : Nat} {l : List Ent} (h : SL eE w A n l) (b : Below w.heap.size w w') : SL eE w' A n l := h.keep b
theorem kpA {w : World} {A : Option Addr} {n : Nat} {l : List Ent} (h : SL eE w A n l) (o : Obj) : SL eE (w.alloc o) A n l := h.keep ((Below.refl _ _).alloc (Nat.le_refl _) o)
set_option maxHeartbeats 8000000 in
set_option maxRecDepth 100000 in
theorem awake_yes (w : World) : Calls Try.prog 11 #[] w fun e w' => e = .returned (.bool true) ∧ Below w.heap.size w w' := by
  obtain ⟨L, hD, hL⟩ := ex_dif
  have HD := hide hD
  have HM := hide ex_mer
  subst_vars
  have C1 := hide (diff_any (some ⟨w.heap.size, 0, none⟩) 2 2 [⟨1, 10⟩, ⟨2, 20⟩] (some ⟨w.heap.size + 1, 0, none⟩) 2 2 [⟨2, 21⟩, ⟨3, 30⟩] ((w.alloc (.cells #[.int .i64 1, .int .i64 10, .int .i64 2, .int .i64 20] 43)).alloc (.cells #[.int .i64 2, .int .i64 21, .int .i64 3, .int .i64 30] 43)) (kpA (box2E (x := ⟨1, 10⟩) (y := ⟨2, 20⟩) (Box.new _ _ _)) _) (box2E (x := ⟨2, 21⟩) (y := ⟨3, 30⟩) (newE _ _ _ (by simp))) (by decide) (by decide))
  have S1 := hide (kpA (box2E (x := ⟨1, 10⟩) (y := ⟨2, 20⟩) (Box.new w #[.int .i64 1, .int .i64 10, .int .i64 2, .int .i64 20] 43)) (.cells #[.int .i64 2, .int .i64 21, .int .i64 3, .int .i64 30] 43))
  have B1 := hide (Below.allocS (Below.allocS (Below.refl w.heap.size w) (.cells #[.int .i64 1, .int .i64 10, .int .i64 2, .int .i64 20] 43)) (.cells #[.int .i64 2, .int .i64 21, .int .i64 3, .int .i64 30] 43))
  clear hD
  go_enter Try.func11, Try.ntmps11
  go_wp2_with fail
  refine C1.out.mono ?_
  rintro e w1 h
  obtain ⟨A1, c1, n1, rfl, hn, s1, b1⟩ := giv_is HD.out h
  obtain rfl : n1 = 3 := by rw [← hn, hL]
  have S1 := hide (S1.out.keep b1)
  have B1 := hide (Below.next B1.out b1)
  clear h s1 b1 hn C1
  have C2 := hide (merge_any (some ⟨w.heap.size, 0, none⟩) 2 2 [⟨1, 10⟩, ⟨2, 20⟩] (some ⟨w1.heap.size, 0, none⟩) 2 2 [⟨1, 11⟩, ⟨2, 20⟩] (some ⟨w1.heap.size + 1, 0, none⟩) 2 2 [⟨1, 12⟩, ⟨2, 22⟩] ((w1.alloc (.cells #[.int .i64 1, .int .i64 11, .int .i64 2, .int .i64 20] 43)).alloc (.cells #[.int .i64 1, .int .i64 12, .int .i64 2, .int .i64 22] 43)) (kpA (kpA S1.out _) _) (kpA (box2E (x := ⟨1, 11⟩) (y := ⟨2, 20⟩) (Box.new _ _ _)) _) (box2E (x := ⟨1, 12⟩) (y := ⟨2, 22⟩) (newE _ _ _ (by simp))) (by decide) (by decide) (by decide))
  have B2 := hide (Below.allocS (Below.allocS B1.out (.cells #[.int .i64 1, .int .i64 11, .int .i64 2, .int .i64 20] 43)) (.cells #[.int .i64 1, .int .i64 12, .int .i64 2, .int .i64 22] 43))
  go_wp2_with fail
  refine C2.out.mono ?_
  rintro e w2 h
  obtain ⟨A2, c2, n2, A3, c3, n3, rfl, hn2, hn3, s2, s3, b2⟩ := givM_is HM.out h
  obtain rfl : n2 = 2 := hn2.symm
  obtain rfl : n3 = 1 := hn3.symm
  have S2 := hide s2
  have S3 := hide s3
  have B2 := hide (Below.next B2.out b2)
  clear h s2 s3 b2 hn2 hn3 C2
  have C3 := hide (baseE_any A2 2 c2 [⟨1, 10⟩, ⟨2, 22⟩] (some ⟨w2.heap.size, 0, none⟩) 2 2 [⟨1, 10⟩, ⟨2, 22⟩] (w2.alloc (.cells #[.int .i64 1, .int .i64 10, .int .i64 2, .int .i64 22] 43)) (kpA S2.out _) (box2E (x := ⟨1, 10⟩) (y := ⟨2, 22⟩) (Box.new _ _ _)) (by decide) (by decide) true (decide_eq_true rfl))
  go_wp2_with fail
  refine C3.out.mono ?_
  rintro e w3 ⟨rfl, g3⟩
  have S3 := hide ((S3.out.keep ((Below.refl _ _).alloc (Nat.le_refl _) (.cells #[.int .i64 1, .int .i64 10, .int .i64 2, .int .i64 22] 43))).keep g3.below)
  have B3 := hide (Below.next (Below.allocS B2.out (.cells #[.int .i64 1, .int .i64 10, .int .i64 2, .int .i64 22] 43)) g3.below)
  clear g3 C3
  have C4 := hide (baseI_any A3 1 c3 [1] (some ⟨w3.heap.size, 0, none⟩) 1 1 [1] (w3.alloc (.cells #[.int .i64 1] 3)) (S3.out.keep ((Below.refl _ _).alloc (Nat.le_refl _) _)) (boxI (Box.new _ _ _)) (by decide) (by decide) true (decide_eq_true rfl))
  go_wp2_with fail
  refine C4.out.mono ?_
  rintro e w4 ⟨rfl, g4⟩
  have B4 := hide (Below.next (Below.allocS B3.out (.cells #[.int .i64 1] 3)) g4.below)
  clear g4 C4
  go_wp2_with fail
  go_ret
  exact ⟨rfl, B4.out⟩
end Go.Proofs.Ytadmiecoahohiaa
