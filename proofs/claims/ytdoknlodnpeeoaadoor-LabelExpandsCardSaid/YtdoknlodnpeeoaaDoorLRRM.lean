/- The reference's text of runs is the joined groups. -/
import Derived.Test.YtdoknlodnpeeoaaDoorLRR
namespace Go.Proofs.YtdoknlodnpeeoaaDoor
open Go Go.RowKit Go.Lib

theorem last_cons (x : Int) (l : List Int) : lastO x l = (consL x l == 0) := by
  rcases l with _ | ⟨y, l⟩
  · rfl
  · unfold lastO consL
    by_cases h : y = x + 1
    · rw [if_pos h, h]; simp
    · rw [if_neg h]; simp [h]
theorem cons_end : ∀ (l : List Int) (x : Int), consL (x + (consL x l : Nat)) (l.drop (consL x l)) = 0
  | [], x => rfl
  | y :: l, x => by
    by_cases h : y = x + 1
    · have e : consL x (y :: l) = consL y l + 1 := by
        conv => lhs; unfold consL
        rw [if_pos h]
      rw [e, List.drop_succ_cons, show x + ((consL y l + 1 : Nat) : Int) = y + (consL y l : Nat) by omega]
      exact cons_end l y
    · have e : consL x (y :: l) = 0 := by
        unfold consL
        rw [if_neg h]
      rw [e]
      simpa using e
theorem rest_in : ∀ (l : List Int) (q : Int) (k : Nat), consL q l = k + 1 → restO (some q) l = Lib.decDigits (q + (k + 1 : Nat)).toNat ++ restO (some (q + (k + 1 : Nat))) (l.drop (k + 1))
  | [], q, k, h => by simp [consL] at h
  | x :: l, q, k, h => by
    have hx : x = q + 1 := by
      unfold consL at h
      split at h
      · assumption
      · omega
    have e : consL q (x :: l) = consL x l + 1 := by
      conv => lhs; unfold consL
      rw [if_pos hx]
    have hk : consL x l = k := by omega
    have f2 : firstO (some q) x = false := by show (!(q == x - 1)) = false; rw [hx]; simp
    have e2 : restO (some q) (x :: l) = (if lastO x l then Lib.decDigits x.toNat else []) ++ restO (some x) l := by
      conv => lhs; unfold restO
      rw [f2]
      simp
    rw [e2, last_cons, hk, List.drop_succ_cons]
    rcases k with _ | k
    · rw [List.drop_zero, show q + ((0 + 1 : Nat) : Int) = x by omega]
      rfl
    · rw [rest_in l x k hk, show q + ((k + 1 + 1 : Nat) : Int) = x + ((k + 1 : Nat) : Int) by omega]
      rfl
theorem rest_first (p : Option Int) (x : Int) (l : List Int) (h0 : 0 ≤ x) (hf : firstO p x = true) :
    restO p (x :: l) = (if p.isSome then [44, 32] else []) ++ groupL x.toNat (x.toNat + consL x l) ++ restO (some (x + (consL x l : Nat))) (l.drop (consL x l)) := by
  have e2 : restO p (x :: l) = (if p.isSome then [44, 32] else []) ++ Lib.decDigits x.toNat ++ (if !lastO x l then [45] else []) ++ restO (some x) l := by
    conv => lhs; unfold restO
    rw [hf]
    simp
  rw [e2, last_cons]
  rcases hk : consL x l with _ | k
  · unfold groupL
    simp
  · rw [rest_in l x k hk]
    unfold groupL
    have hne : ¬x.toNat = x.toNat + (k + 1) := by omega
    rw [if_neg hne, show (x + ((k + 1 : Nat) : Int)).toNat = x.toNat + (k + 1) by omega]
    simp
theorem rest_tail : ∀ (f : Nat) (l : List Int) (q : Int), l.length ≤ f → (∀ z ∈ l, 0 ≤ z) → consL q l = 0 → restO (some q) l = Lib.joinTail [44, 32] ((runsG f l).map (·.data.toList))
  | f, [], q, _, _, _ => by rw [runsG_nil]; rfl
  | 0, x :: l, q, h, _, _ => by simp at h
  | f + 1, x :: l, q, h, hz, hc => by
    have hx : ¬x = q + 1 := by
      unfold consL at hc
      split at hc
      · omega
      · assumption
    have hf : firstO (some q) x = true := by
      show (!(q == x - 1)) = true
      rw [beq_eq_false_iff_ne.2 (by omega)]; rfl
    rw [rest_first (some q) x l (hz x List.mem_cons_self) hf, rest_tail f (l.drop (consL x l)) _ (by rw [List.length_drop]; simp at h; omega) (fun z hz' => hz z (List.mem_cons_of_mem _ (List.mem_of_mem_drop hz'))) (cons_end l x)]
    conv => rhs; unfold runsG
    rw [List.map_cons, joinTail_cons5, data_strB]
    simp
theorem rest_runs (xs : List Int) (hz : ∀ z ∈ xs, 0 ≤ z) : strB (restO none xs) = runsT xs := by
  rcases xs with _ | ⟨x, l⟩
  · rfl
  · rw [rest_first none x l (hz x List.mem_cons_self) rfl, rest_tail l.length (l.drop (consL x l)) _ (by rw [List.length_drop]; omega) (fun z hz' => hz z (List.mem_cons_of_mem _ (List.mem_of_mem_drop hz'))) (cons_end l x)]
    unfold runsT joinT
    show _ = (⟨(Lib.join (((strB (groupL x.toNat (x.toNat + consL x l))) :: runsG l.length (l.drop (consL x l))).map (·.data.toList)) [44, 32]).toArray⟩ : ByteArray)
    rw [List.map_cons, Lib.join_cons, data_strB]
    rfl
/-- the reference's Runs gives what the program's gives -/
theorem rruns_all (A : Option Addr) (m c : Nat) (xs : List Int) (w : World) (hx : IL w A m xs) (hm : m ≤ maxLen) (S : ByteArray) (r : Int) (hS : runT xs = S) (hr : runE xs = r) :
    Calls Tryd.prog 21 #[.slice A m c] w fun e w' => e = .returned (.tuple #[.string S, .int .i64 r]) ∧ Below w.heap.size w w' := by
  unfold runT at hS
  unfold runE at hr
  rcases h : setB 1000 1 xs with _ | _
  · rw [h, if_neg (by decide)] at hS hr
    subst hS; subst hr
    exact rruns_bad A m c xs w hx hm h
  · rw [h, if_pos rfl] at hS hr
    subst hr
    exact rruns_ok A m c xs w hx hm h S ((rest_runs xs fun z hz => by have := setB_in 1000 xs 1 h z hz; omega).trans hS)
end Go.Proofs.YtdoknlodnpeeoaaDoor
