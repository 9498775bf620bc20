/- Contracts of ParsePairing, the program's and the reference's; of Pairing, either way. -/
import Derived.Test.YtaapcfflnklpjaaGreatDoorLRPP
import Derived.Test.YtaapcfflnklpjaaGreatDoorYB
namespace Go.Proofs.YtaapcfflnklpjaaGreatDoor
open Go Go.RowKit Go.Lib
theorem labT_size1000 (a b c : Int) : (labT a b c).size ≤ 5000 := Nat.le_trans (labT_size a b c) (by decide)
theorem parR_text (a b c : Int) : parR (labT a b c).data.toList = if lB a b c = true then (a, b, c, 0) else (0, 0, 0, 3) := by
  rcases h : lB a b c with _ | _
  · rw [labT_false h]; rfl
  · rw [if_pos rfl]
    have e : labT a b c = strB (labL a b c) := by unfold labT; rw [if_pos h]
    rw [e, data_strB]
    unfold parR
    rw [parL_some.2 ⟨h, rfl⟩]
theorem parR_cases (l : List UInt8) : (∃ x y z, parR l = (x, y, z, 0) ∧ IsLab l x y z) ∨ parR l = (0, 0, 0, 3) := by
  unfold parR
  rcases h : parL l with _ | ⟨x, y, z⟩
  · exact .inr rfl
  · exact .inl ⟨x, y, z, rfl, parL_some.1 h⟩

theorem slash_or : ∀ (l : List UInt8), (∀ c ∈ l, c ≠ 47) ∨ ∃ i, l[i]? = some 47 ∧ ∀ (j : Nat) c, j < i → l[j]? = some c → c ≠ 47
  | [] => .inl (fun _ h => by cases h)
  | b :: l => by
    by_cases hb : b = 47
    · subst hb; exact .inr ⟨0, rfl, fun j c h => by omega⟩
    · rcases slash_or l with h | ⟨i, h1, h2⟩
      · exact .inl fun c hc => by
          rcases List.mem_cons.1 hc with rfl | hc
          · exact hb
          · exact h c hc
      · refine .inr ⟨i + 1, by simpa using h1, fun j c hj hc => ?_⟩
        rcases j with _ | j
        · simp at hc; subst hc; exact hb
        · exact h2 j c (by omega) (by simpa using hc)
theorem ppR_eq {l : List UInt8} {a b c e1 x y z e2 : Int} (hp : parR (Lib.cut l [47]).1 = (a, b, c, e1)) (hq : parR (Lib.cut l [47]).2.1 = (x, y, z, e2)) :
    ppR l = if e1 = 0 ∧ e2 = 0 ∧ a = 0 ∧ x = 1 then ((a, b, c), (x, y, z), 0) else ((0, 0, 0), (0, 0, 0), 3) := by
  unfold ppR
  simp only [hp, hq]
theorem labL_no47 {a b c : Int} (h : lB a b c = true) : ∀ x ∈ labL a b c, x ≠ 47 := by
  obtain ⟨hs, -, h0, h9⟩ := lB_true.1 h
  intro x hx
  unfold labL at hx
  rw [List.mem_append, List.mem_append] at hx
  rcases hx with (hx | hx) | hx
  · unfold sideL at hx
    split at hx
    · rw [List.mem_singleton] at hx; subst hx; decide
    · rw [List.mem_singleton] at hx; subst hx; decide
  · have := dec_digs _ x hx
    rintro rfl
    exact absurd this.1 (by decide)
  · have := stateL_in h0 h9 x hx
    have h97 : ∀ x ∈ stL, x ≠ 47 := by decide
    exact h97 x this
theorem ppR_text {a b c x y z : Int} (h : pB a b c x y z) : ppR (labT a b c ++ ⟨#[47]⟩ ++ labT x y z).data.toList = ((a, b, c), (x, y, z), 0) := by
  obtain ⟨h1, h2, rfl, rfl⟩ := h
  have e : (labT 0 b c ++ ⟨#[47]⟩ ++ labT 1 y z).data.toList = labL 0 b c ++ (47 :: labL 1 y z) := by
    rw [labT_true h1, labT_true h2, show (⟨#[47]⟩ : ByteArray) = strB [47] from rfl, strB_app, strB_app, data_strB]
    simp
  have hc : Lib.cut (labL 0 b c ++ (47 :: labL 1 y z)) [47] = (labL 0 b c, labL 1 y z, true) := by
    rw [cut_hit (i := (labL 0 b c).length) (fun j d hj hd => ?_) (by simp)]
    · simp
    · rw [List.getElem?_append_left hj] at hd
      exact labL_no47 h1 d (List.mem_of_getElem? hd)
  rw [e, ppR_eq (a := 0) (b := b) (c := c) (e1 := 0) (x := 1) (y := y) (z := z) (e2 := 0) (by
    have := parR_text 0 b c
    rw [h1, if_pos rfl, labT_true h1, data_strB] at this
    rw [hc]; exact this) (by
    have := parR_text 1 y z
    rw [h2, if_pos rfl, labT_true h2, data_strB] at this
    rw [hc]; exact this), if_pos ⟨rfl, rfl, rfl, rfl⟩]
theorem ppR_nil : ppR ((⟨#[]⟩ : ByteArray).data.toList) = ((0, 0, 0), (0, 0, 0), 3) := by decide +kernel
theorem ppair_any (s : ByteArray) (w : World) (hT : Lw w) (hs : s.size ≤ 5000) (a b c x y z er : Int) (hr : ppR s.data.toList = ((a, b, c), (x, y, z), er)) :
    Calls Tryz.prog 50 #[.string s] w (GivesPP a b c x y z er w) := by
  have hl := cut_le47 s.data.toList
  have hz := Lib.size_eq s
  obtain ⟨X, hX⟩ : ∃ X, strB (Lib.cut s.data.toList [47]).1 = X := ⟨_, rfl⟩
  obtain ⟨Y, hY⟩ : ∃ X, strB (Lib.cut s.data.toList [47]).2.1 = X := ⟨_, rfl⟩
  obtain ⟨f, hf⟩ : ∃ f, (Lib.cut s.data.toList [47]).2.2 = f := ⟨_, rfl⟩
  have hC : ∀ W, Lw W → Calls Tryz.prog 84 #[.string s, .string ⟨#[47]⟩] W fun e w' => e = .returned (.tuple #[.string X, .string Y, .bool f]) ∧ Below W.heap.size W w' := fun W hW => cut_any s 47 W hW (by omega) X Y f hX hY hf
  have hXs : X.size ≤ 5000 := by rw [← hX, strB_size]; omega
  have hYs : Y.size ≤ 5000 := by rw [← hY, strB_size]; omega
  have dX : (Lib.cut s.data.toList [47]).1 = X.data.toList := by rw [← hX, data_strB]
  have dY : (Lib.cut s.data.toList [47]).2.1 = Y.data.toList := by rw [← hY, data_strB]
  rcases parR_cases X.data.toList with ⟨a1, b1, c1, hp, -⟩ | hp
  · rcases parR_cases Y.data.toList with ⟨x1, y1, z1, hq, -⟩ | hq
    · have hp2 := hp
      have hq2 := hq
      rw [← dX] at hp2
      rw [← dY] at hq2
      have he := ppR_eq hp2 hq2
      rw [hr] at he
      by_cases ha : a1 = 0
      · subst ha
        by_cases hx : x1 = 1
        · subst hx
          rw [if_pos ⟨rfl, rfl, rfl, rfl⟩] at he
          simp only [Prod.mk.injEq] at he
          obtain ⟨⟨rfl, rfl, rfl⟩, ⟨rfl, rfl, rfl⟩, rfl⟩ := he
          exact pp_ok s _ _ _ _ w hT X Y hXs hYs hp hq f hC
        · rw [if_neg (by rintro ⟨h1, h2, h3, h4⟩; first | exact absurd h1 (by decide) | exact absurd h2 (by decide) | exact hx h4 | exact ha h3)] at he
          simp only [Prod.mk.injEq] at he
          obtain ⟨⟨rfl, rfl, rfl⟩, ⟨rfl, rfl, rfl⟩, rfl⟩ := he
          exact pp_y s _ _ _ _ _ w hT X Y hXs hYs hp hq hx f hC
      · rw [if_neg (by rintro ⟨h1, h2, h3, h4⟩; first | exact absurd h1 (by decide) | exact absurd h2 (by decide) | exact hx h4 | exact ha h3)] at he
        simp only [Prod.mk.injEq] at he
        obtain ⟨⟨rfl, rfl, rfl⟩, ⟨rfl, rfl, rfl⟩, rfl⟩ := he
        exact pp_x s _ _ _ _ _ _ w hT X Y hXs hYs hp hq ha f hC
    · have hp2 := hp
      have hq2 := hq
      rw [← dX] at hp2
      rw [← dY] at hq2
      have he := ppR_eq hp2 hq2
      rw [hr] at he
      rw [if_neg (by rintro ⟨h1, h2, h3, h4⟩; first | exact absurd h1 (by decide) | exact absurd h2 (by decide) | exact hx h4 | exact ha h3)] at he
      simp only [Prod.mk.injEq] at he
      obtain ⟨⟨rfl, rfl, rfl⟩, ⟨rfl, rfl, rfl⟩, rfl⟩ := he
      exact pp_e2 s _ _ _ _ _ _ w hT X Y hXs hYs hp hq f hC
  · obtain ⟨x1, y1, z1, e2, hq⟩ : ∃ x y z e, parR Y.data.toList = (x, y, z, e) := ⟨_, _, _, _, rfl⟩
    have hp2 := hp
    have hq2 := hq
    rw [← dX] at hp2
    rw [← dY] at hq2
    have he := ppR_eq hp2 hq2
    rw [hr] at he
    rw [if_neg (by rintro ⟨h1, h2, h3, h4⟩; first | exact absurd h1 (by decide) | exact absurd h2 (by decide) | exact hx h4 | exact ha h3)] at he
    simp only [Prod.mk.injEq] at he
    obtain ⟨⟨rfl, rfl, rfl⟩, ⟨rfl, rfl, rfl⟩, rfl⟩ := he
    exact pp_e1 s _ _ _ _ _ _ _ w hT X Y hXs hYs hp hq f hC
theorem rppair_any (s : ByteArray) (w : World) (hT : Lw w) (hs : s.size ≤ 5000) (a b c x y z er : Int) (hr : ppR s.data.toList = ((a, b, c), (x, y, z), er)) :
    Calls Tryz.prog 54 #[.string s] w (GivesPP a b c x y z er w) := by
  have hl := cut_le47 s.data.toList
  have hz := Lib.size_eq s
  rcases slash_or s.data.toList with hno | ⟨i, hi, hno⟩
  · have he := ppR_eq (l := s.data.toList) (a := (parR s.data.toList).1) (b := (parR s.data.toList).2.1) (c := (parR s.data.toList).2.2.1) (e1 := (parR s.data.toList).2.2.2) (x := 0) (y := 0) (z := 0) (e2 := 3) (by rw [cut_miss hno]) (by rw [cut_miss hno]; rfl)
    rw [hr, if_neg (by rintro ⟨-, h, -⟩; exact absurd h (by decide))] at he
    simp only [Prod.mk.injEq] at he
    obtain ⟨⟨rfl, rfl, rfl⟩, ⟨rfl, rfl, rfl⟩, rfl⟩ := he
    exact rpp_no s w hT hs hno
  have hil : i < s.size := by rw [hz]; exact (List.getElem?_eq_some_iff.1 hi).1
  have h47 : s[i].toNat = 47 := by
    have := at_some s i hil
    rw [hi] at this
    injection this with this
    rw [← this]; rfl
  obtain ⟨X, hX⟩ : ∃ X, s.extract 0 i = X := ⟨_, rfl⟩
  obtain ⟨Y, hY⟩ : ∃ X, s.extract (i + 1) s.size = X := ⟨_, rfl⟩
  have dX : (Lib.cut s.data.toList [47]).1 = X.data.toList := by rw [← hX, cut_hit hno hi]; simp
  have dY : (Lib.cut s.data.toList [47]).2.1 = Y.data.toList := by rw [← hY, cut_hit hno hi, Lib.extract_to_end]
  have hXs : X.size ≤ 5000 := by rw [Lib.size_eq X, ← dX]; omega
  have hYs : Y.size ≤ 5000 := by rw [Lib.size_eq Y, ← dY]; omega
  rcases parR_cases X.data.toList with ⟨a1, b1, c1, hp, -⟩ | hp
  · rcases parR_cases Y.data.toList with ⟨x1, y1, z1, hq, -⟩ | hq
    · have hp2 := hp
      have hq2 := hq
      rw [← dX] at hp2
      rw [← dY] at hq2
      have he := ppR_eq hp2 hq2
      rw [hr] at he
      by_cases ha : a1 = 0
      · subst ha
        by_cases hx : x1 = 1
        · subst hx
          rw [if_pos ⟨rfl, rfl, rfl, rfl⟩] at he
          simp only [Prod.mk.injEq] at he
          obtain ⟨⟨rfl, rfl, rfl⟩, ⟨rfl, rfl, rfl⟩, rfl⟩ := he
          exact rpp_ok s _ _ _ _ w hT X Y hXs hYs hp hq hs i hil h47 hno hX hY
        · rw [if_neg (by rintro ⟨h1, h2, h3, h4⟩; first | exact absurd h1 (by decide) | exact absurd h2 (by decide) | exact hx h4 | exact ha h3)] at he
          simp only [Prod.mk.injEq] at he
          obtain ⟨⟨rfl, rfl, rfl⟩, ⟨rfl, rfl, rfl⟩, rfl⟩ := he
          exact rpp_y s _ _ _ _ _ w hT X Y hXs hYs hp hq hx hs i hil h47 hno hX hY
      · rw [if_neg (by rintro ⟨h1, h2, h3, h4⟩; first | exact absurd h1 (by decide) | exact absurd h2 (by decide) | exact hx h4 | exact ha h3)] at he
        simp only [Prod.mk.injEq] at he
        obtain ⟨⟨rfl, rfl, rfl⟩, ⟨rfl, rfl, rfl⟩, rfl⟩ := he
        exact rpp_x s _ _ _ _ _ _ w hT X Y hXs hYs hp hq ha hs i hil h47 hno hX hY
    · have hp2 := hp
      have hq2 := hq
      rw [← dX] at hp2
      rw [← dY] at hq2
      have he := ppR_eq hp2 hq2
      rw [hr] at he
      rw [if_neg (by rintro ⟨h1, h2, h3, h4⟩; first | exact absurd h1 (by decide) | exact absurd h2 (by decide) | exact hx h4 | exact ha h3)] at he
      simp only [Prod.mk.injEq] at he
      obtain ⟨⟨rfl, rfl, rfl⟩, ⟨rfl, rfl, rfl⟩, rfl⟩ := he
      exact rpp_e2 s _ _ _ _ _ _ w hT X Y hXs hYs hp hq hs i hil h47 hno hX hY
  · obtain ⟨x1, y1, z1, e2, hq⟩ : ∃ x y z e, parR Y.data.toList = (x, y, z, e) := ⟨_, _, _, _, rfl⟩
    have hp2 := hp
    have hq2 := hq
    rw [← dX] at hp2
    rw [← dY] at hq2
    have he := ppR_eq hp2 hq2
    rw [hr] at he
    rw [if_neg (by rintro ⟨h1, h2, h3, h4⟩; first | exact absurd h1 (by decide) | exact absurd h2 (by decide) | exact hx h4 | exact ha h3)] at he
    simp only [Prod.mk.injEq] at he
    obtain ⟨⟨rfl, rfl, rfl⟩, ⟨rfl, rfl, rfl⟩, rfl⟩ := he
    exact rpp_e1 s _ _ _ _ _ _ _ w hT X Y hXs hYs hp hq hs i hil h47 hno hX hY
theorem pair_y (a b c a' b' c' : Int) (w : World) (hT : Lw w) (h : pB a b c a' b' c') (S : ByteArray) (hS : labT a b c ++ ⟨#[47]⟩ ++ labT a' b' c' = S) :
    Calls Tryz.prog 37 #[.agg #[.int .i64 a, .int .i64 b, .int .i64 c], .agg #[.int .i64 a', .int .i64 b', .int .i64 c']] w fun e w' => e = .returned (.tuple #[.string S, .int .i64 0]) ∧ Below w.heap.size w w' := by
  refine (pair_any a b c a' b' c' w hT).mono ?_
  rintro e w' ⟨S', r, rfl, hd, hb⟩
  rcases hd with ⟨-, rfl, rfl⟩ | ⟨hn, -, -⟩
  · exact ⟨by rw [hS], hb⟩
  · exact absurd h hn
theorem pair_n (a b c a' b' c' : Int) (w : World) (hT : Lw w) (h : ¬pB a b c a' b' c') :
    Calls Tryz.prog 37 #[.agg #[.int .i64 a, .int .i64 b, .int .i64 c], .agg #[.int .i64 a', .int .i64 b', .int .i64 c']] w fun e w' => e = .returned (.tuple #[.string ⟨#[]⟩, .int .i64 1]) ∧ Below w.heap.size w w' := by
  refine (pair_any a b c a' b' c' w hT).mono ?_
  rintro e w' ⟨S', r, rfl, hd, hb⟩
  rcases hd with ⟨hy, -, -⟩ | ⟨-, rfl, rfl⟩
  · exact absurd hy h
  · exact ⟨rfl, hb⟩
theorem rpair_y (a b c a' b' c' : Int) (w : World) (hT : Lw w) (h : pB a b c a' b' c') (S : ByteArray) (hS : labT a b c ++ ⟨#[47]⟩ ++ labT a' b' c' = S) :
    Calls Tryz.prog 45 #[.agg #[.int .i64 a, .int .i64 b, .int .i64 c], .agg #[.int .i64 a', .int .i64 b', .int .i64 c']] w fun e w' => e = .returned (.tuple #[.string S, .int .i64 0]) ∧ Below w.heap.size w w' := by
  refine (rpair_any a b c a' b' c' w hT).mono ?_
  rintro e w' ⟨S', r, rfl, hd, hb⟩
  rcases hd with ⟨-, rfl, rfl⟩ | ⟨hn, -, -⟩
  · exact ⟨by rw [hS], hb⟩
  · exact absurd h hn
theorem rpair_n (a b c a' b' c' : Int) (w : World) (hT : Lw w) (h : ¬pB a b c a' b' c') :
    Calls Tryz.prog 45 #[.agg #[.int .i64 a, .int .i64 b, .int .i64 c], .agg #[.int .i64 a', .int .i64 b', .int .i64 c']] w fun e w' => e = .returned (.tuple #[.string ⟨#[]⟩, .int .i64 1]) ∧ Below w.heap.size w w' := by
  refine (rpair_any a b c a' b' c' w hT).mono ?_
  rintro e w' ⟨S', r, rfl, hd, hb⟩
  rcases hd with ⟨hy, -, -⟩ | ⟨-, rfl, rfl⟩
  · exact absurd hy h
  · exact ⟨rfl, hb⟩
end Go.Proofs.YtaapcfflnklpjaaGreatDoor
