/- The reference's list of a string, and that a text of runs gives the list. -/
import Derived.Test.YtdoknlodnpeeoaaDoorLShM
namespace Go.Proofs.YtdoknlodnpeeoaaDoor
open Go Go.RowKit Go.Lib

def dg (c : UInt8) : Bool := decide (48 ≤ c.toNat) && decide (c.toNat ≤ 57)
theorem dg_true {c : UInt8} : dg c = true ↔ 48 ≤ c.toNat ∧ c.toNat ≤ 57 := by unfold dg; simp
theorem dg_false {c : UInt8} : dg c = false ↔ ¬(48 ≤ c.toNat ∧ c.toNat ≤ 57) := by
  rw [← dg_true]; simp
/-- the numbers that stand in a string; p: behind a digit -/
def rnums : Bool → List UInt8 → List Nat
  | _, [] => []
  | p, c :: l => if dg c = true then (if p = true then [] else [numR 3 0 (c :: l)]) ++ rnums true l else rnums false l
def skipD : List UInt8 → List UInt8
  | [] => []
  | c :: l => if dg c = true then skipD l else c :: l
def skipN : List UInt8 → List UInt8
  | [] => []
  | c :: l => if dg c = true then c :: l else skipN l
/-- the numbers between the ends of a run -/
def fillR (e : Nat) : List Nat → List UInt8 → List Nat
  | e2 :: _, c :: _ => if c.toNat = 45 then uptoL (e + 1) (e2 - (e + 1)) else []
  | _, _ => []
def rout : List Nat → List UInt8 → List Nat
  | [], _ => []
  | e :: es, l => e :: (fillR e es (skipD l) ++ rout es (skipN (skipD l)))
/-- no digit at the beginning -/
def NoD (e : List UInt8) : Prop := ∀ c r, e = c :: r → dg c = false
theorem rnums_noD {e : List UInt8} (h : NoD e) (p : Bool) : rnums p e = rnums false e := by
  rcases e with _ | ⟨c, r⟩
  · cases p <;> rfl
  · have := h c r rfl
    unfold rnums
    rw [this]
    rfl
theorem rnums_dig : ∀ (d e : List UInt8), DigL d → rnums true (d ++ e) = rnums true e
  | [], e, _ => rfl
  | c :: d, e, h => by
    have hc := dg_true.2 (h c List.mem_cons_self)
    rw [List.cons_append]
    conv => lhs; unfold rnums
    rw [if_pos hc, if_pos rfl, List.nil_append]
    exact rnums_dig d e fun x hx => h x (List.mem_cons_of_mem _ hx)
theorem rnums_dec (a : Nat) (ha : a ≤ 999) (e : List UInt8) (he : NoD e) : rnums false (Lib.decDigits a ++ e) = a :: rnums false e := by
  have hn : numR 3 0 (Lib.decDigits a ++ e) = a := numR_dec (Lib.decDigits a) 3 0 a e (dec_digs _) (dec_len3 3 _ (by omega) (by omega)) (.inr fun c q h => dg_false.1 (he c q h)) (parse_dec _ _ (Nat.lt_succ_self _) (by omega))
  have hd := dec_digs a
  rcases hx : Lib.decDigits a with _ | ⟨c, d⟩
  · exact absurd hx (dec_ne a)
  · rw [hx] at hn hd
    have hc := dg_true.2 (hd c List.mem_cons_self)
    rw [List.cons_append] at hn ⊢
    conv => lhs; unfold rnums
    rw [if_pos hc, if_neg (by decide), hn, rnums_dig d e fun x hx => hd x (List.mem_cons_of_mem _ hx), rnums_noD he]
    rfl
theorem skipD_dig : ∀ (d e : List UInt8), DigL d → NoD e → skipD (d ++ e) = e
  | [], e, _, he => by
    rw [List.nil_append]
    rcases e with _ | ⟨c, r⟩
    · rfl
    · unfold skipD
      rw [if_neg (by rw [he c r rfl]; decide)]
  | c :: d, e, h, he => by
    rw [List.cons_append]
    conv => lhs; unfold skipD
    rw [if_pos (dg_true.2 (h c List.mem_cons_self))]
    exact skipD_dig d e (fun x hx => h x (List.mem_cons_of_mem _ hx)) he
theorem skipN_dec (a : Nat) (e : List UInt8) : skipN (Lib.decDigits a ++ e) = Lib.decDigits a ++ e := by
  have hd := dec_digs a
  rcases hx : Lib.decDigits a with _ | ⟨c, d⟩
  · exact absurd hx (dec_ne a)
  · rw [hx] at hd
    rw [List.cons_append]
    unfold skipN
    rw [if_pos (dg_true.2 (hd c List.mem_cons_self))]
theorem skipN_no {c : UInt8} (l : List UInt8) (h : dg c = false) : skipN (c :: l) = skipN l := by
  conv => lhs; unfold skipN
  rw [if_neg (by rw [h]; decide)]
theorem rnums_no {c : UInt8} (l : List UInt8) (h : dg c = false) : rnums false (c :: l) = rnums false l := by
  conv => lhs; unfold rnums
  rw [if_neg (by rw [h]; decide)]
/-- behind a group: nothing, or the separator -/
def SepE (e : List UInt8) : Prop := e = [] ∨ ∃ r, e = 44 :: r
theorem SepE.noD {e : List UInt8} (h : SepE e) : NoD e := by
  rintro c r rfl
  rcases h with h | ⟨r', h⟩
  · cases h
  · injection h with h _
    subst h; decide
theorem fillR_sep {e : List UInt8} (h : SepE e) (a : Nat) (es : List Nat) : fillR a es e = [] := by
  rcases h with rfl | ⟨r, rfl⟩
  · cases es <;> rfl
  · cases es
    · rfl
    · rfl
theorem rnums_group {a b : Nat} (ha : a ≤ 999) (hb : b ≤ 999) {e : List UInt8} (h : SepE e) : rnums false (groupL a b ++ e) = (if a = b then [a] else [a, b]) ++ rnums false e := by
  unfold groupL
  split
  · exact rnums_dec a ha e h.noD
  · rw [List.append_assoc, rnums_dec a ha _ (by
      intro c r hc
      injection hc with hc _
      subst hc; decide)]
    rw [List.cons_append, rnums_no _ (by decide), rnums_dec b hb e h.noD]
    rfl
theorem rout_group {a b : Nat} (hab : a ≤ b) {e : List UInt8} (h : SepE e) (es : List Nat) : rout ((if a = b then [a] else [a, b]) ++ es) (groupL a b ++ e) = uptoL a (b - a + 1) ++ rout es (skipN e) := by
  have one : ∀ (x : Nat), rout (x :: es) (Lib.decDigits x ++ e) = x :: rout es (skipN e) := fun x => by
    conv => lhs; unfold rout
    rw [skipD_dig _ _ (dec_digs x) h.noD, fillR_sep h]
    rfl
  by_cases hq : a = b
  · subst hq
    rw [if_pos rfl]
    unfold groupL
    rw [if_pos rfl, Nat.sub_self]
    exact one a
  · rw [if_neg hq]
    unfold groupL
    rw [if_neg hq, List.append_assoc, List.cons_append, List.cons_append, List.cons_append]
    conv => lhs; unfold rout
    rw [skipD_dig _ _ (dec_digs a) (by
      intro c r hc
      injection hc with hc _
      subst hc; decide), List.nil_append, skipN_no _ (by decide), skipN_dec, one b]
    show a :: (uptoL (a + 1) (b - (a + 1)) ++ b :: rout es (skipN e)) = _
    obtain ⟨k, hk⟩ : ∃ k, b = a + 1 + k := ⟨b - (a + 1), by omega⟩
    subst hk
    rw [show a + 1 + k - (a + 1) = k by omega, show a + 1 + k - a + 1 = (k + 1) + 1 by omega, uptoL_cons, List.cons_append]
    congr 1
    show _ = (uptoL (a + 1) k ++ [a + 1 + k]) ++ _
    rw [List.append_assoc]
    rfl
theorem tail_sep (us : List (List UInt8)) : SepE (Lib.joinTail [44, 32] us) := by
  rcases us with _ | ⟨u, us⟩
  · exact .inl rfl
  · exact .inr ⟨_, joinTail_cons5 u us⟩
theorem skipN_group (a b : Nat) (e : List UInt8) : skipN (groupL a b ++ e) = groupL a b ++ e := by
  unfold groupL
  split
  · exact skipN_dec a e
  · rw [List.append_assoc]; exact skipN_dec a _
theorem rout_runs : ∀ (f : Nat) (xs : List Int) (y : Int), 0 ≤ y → xs.length ≤ f → setB 1000 y xs = true →
    rout (rnums false (Lib.joinTail [44, 32] ((runsG f xs).map (·.data.toList)))) (skipN (Lib.joinTail [44, 32] ((runsG f xs).map (·.data.toList)))) = xs.map Int.toNat
  | f, [], _, _, _, _ => by rw [runsG_nil]; rfl
  | 0, x :: l, _, _, h, _ => by simp at h
  | f + 1, x :: l, y, hy, hf, h => by
    have h' := h
    unfold setB at h'
    split at h'
    · cases h'
    · split at h'
      · cases h'
      · obtain ⟨h1, h2, h3⟩ := cons_split 1000 l x (by omega) h'
        have hk := consL_le x l
        obtain ⟨k, hkk⟩ : ∃ k, consL x l = k := ⟨_, rfl⟩
        have e : runsG (f + 1) (x :: l) = strB (groupL x.toNat (x.toNat + k)) :: runsG f (l.drop k) := by
          conv => lhs; unfold runsG
          rw [hkk]
        rw [hkk] at h1 h2 h3 hk
        have ih := rout_runs f (l.drop k) _ (by omega) (by rw [List.length_drop]; simp at hf; omega) h1
        rw [e, List.map_cons, joinTail_cons5, data_strB, rnums_no _ (by decide), rnums_no _ (by decide), skipN_no _ (by decide), skipN_no _ (by decide), skipN_group,
          rnums_group (by rcases h3 with h3 | h3 <;> omega) (by rcases h3 with h3 | h3 <;> omega) (tail_sep _), rout_group (by omega) (tail_sep _), ih, show x.toNat + k - x.toNat + 1 = k + 1 by omega, uptoL_cons, List.cons_append, ← h2]
        rfl
/-- the list that the reference makes of a string -/
def routL (l : List UInt8) : List Nat := rout (rnums false l) l
theorem routL_runs {xs : List Int} (h : setB 1000 1 xs = true) : routL (runsT xs).data.toList = xs.map Int.toNat := by
  have ht := rout_runs xs.length xs 1 (by omega) (Nat.le_refl _) h
  have e : (runsT xs).data.toList = Lib.join ((runsG xs.length xs).map (·.data.toList)) [44, 32] := by
    unfold runsT joinT
    simp
  unfold routL
  rw [e]
  rcases xs with _ | ⟨x, l⟩
  · rfl
  · obtain ⟨us, hu⟩ : ∃ us, (runsG (x :: l).length (x :: l)).map (·.data.toList) = groupL x.toNat (x.toNat + consL x l) :: us := ⟨(runsG l.length (l.drop (consL x l))).map (·.data.toList), by
      show (strB (groupL x.toNat (x.toNat + consL x l))).data.toList :: _ = _
      rw [data_strB]⟩
    rw [hu] at ht ⊢
    rw [joinTail_cons5, rnums_no _ (by decide), rnums_no _ (by decide), skipN_no _ (by decide), skipN_no _ (by decide), skipN_group] at ht
    rw [Lib.join_cons]
    exact ht
theorem rnums_len : ∀ (l : List UInt8) (p : Bool), 2 * (rnums p l).length ≤ l.length + (if p = true then 0 else 1)
  | [], p => by unfold rnums; simp
  | c :: l, p => by
    have h1 := rnums_len l true
    have h2 := rnums_len l false
    unfold rnums
    rw [if_pos rfl] at h1
    rw [if_neg (by decide)] at h2
    rcases p with _ | _ <;> split <;> simp only [List.length_append, List.length_cons, List.length_nil, if_true, Bool.false_eq_true, if_false] <;> omega
theorem rnums_lt : ∀ (l : List UInt8) (p : Bool), ∀ x ∈ rnums p l, x < 1000
  | [], p => fun x hx => by unfold rnums at hx; cases hx
  | c :: l, p => fun x hx => by
    unfold rnums at hx
    split at hx
    · rcases List.mem_append.1 hx with hx | hx
      · split at hx
        · cases hx
        · rw [List.mem_singleton] at hx
          subst hx
          exact numR_lt 3 0 (c :: l)
      · exact rnums_lt l true x hx
    · exact rnums_lt l false x hx
/-- what the reference's Expand gives is what the program's gives -/
theorem exp_rout (l : List UInt8) : expR l = if setB 1000 1 (ints5 (routL l)) = true ∧ runsT (ints5 (routL l)) = strB l then (routL l, 0) else ([], 3) := by
  split
  · rename_i h
    have h1 := exp_runs h.1
    rw [h.2, data_strB] at h1
    rw [h1]
    congr 1
    unfold ints5
    rw [List.map_map]
    conv => rhs; rw [← List.map_id (routL l)]
    rfl
  · rename_i h
    unfold expR expL
    rcases hn : numsL l with _ | L
    · rfl
    · simp only []
      by_cases hr : runT (ints5 L) = strB l
      · exfalso
        unfold runT at hr
        rcases hb : setB 1000 1 (ints5 L) with _ | _
        · rw [hb, if_neg (by decide)] at hr
          have hl : l = [] := by
            have := congrArg (fun x : ByteArray => x.data.toList) hr
            rw [data_strB] at this
            exact this.symm
          subst hl
          have : numsL [] = some [] := rfl
          rw [this] at hn
          injection hn with hn
          subst hn
          exact absurd hb (by decide)
        · rw [hb, if_pos rfl] at hr
          have h1 := routL_runs hb
          rw [hr, data_strB] at h1
          have hi : ints5 (routL l) = ints5 L := by
            rw [h1]
            exact ints5_toNat fun x hx => by have := setB_in 1000 _ 1 hb x hx; omega
          exact h ⟨by rw [hi]; exact hb, by rw [hi]; exact hr⟩
      · rw [if_neg hr]
end Go.Proofs.YtdoknlodnpeeoaaDoor
