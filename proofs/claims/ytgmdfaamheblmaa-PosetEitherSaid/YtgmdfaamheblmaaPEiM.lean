/- The mathematics of PosetEither. -/
import Derived.Test.YtgmdfaamheblmaaAA
namespace Go.Proofs.Ytgmdfaamheblmaa.PM
/-- the place of a number in a list, -1 if it is not there -/
def idxN (x : Nat) : List Nat → Nat → Int
  | [], _ => -1
  | y :: l, k => if y = x then (k : Int) else idxN x l (k + 1)
theorem idxN_at {x : Nat} : ∀ (d : List Nat) (k m : Nat), d.Nodup → d[m]? = some x → idxN x d k = ((k + m : Nat) : Int)
  | [], _, _, _, h => by simp at h
  | y :: l, k, 0, _, h => by
    simp at h; subst h
    unfold idxN
    rw [if_pos rfl]; rfl
  | y :: l, k, m + 1, hn, h => by
    rw [List.nodup_cons] at hn
    have h2 : l[m]? = some x := by simpa using h
    have hne : ¬ y = x := fun e => by subst e; exact hn.1 (List.mem_of_getElem? h2)
    unfold idxN
    rw [if_neg hne, idxN_at l (k + 1) m hn.2 h2]
    congr 1; omega
/-- along every arc the places and the levels rise -/
theorem ord_facts {n : Nat} {T : Nat → Nat → Bool} (hT : Fits n T) (hl : (ord n T).length = n) {p q : Nat} (h : T p q = true) :
    ∃ ip iq : Nat, idxN p (ord n T) 0 = (ip : Int) ∧ idxN q (ord n T) 0 = (iq : Int) ∧ ip < iq ∧ iq ≤ n ∧ lvS n T (ord n T) p < lvS n T (ord n T) q ∧ lvS n T (ord n T) q ≤ n := by
  have hb := ord_beg n T
  obtain ⟨hp, hq⟩ := hT _ _ h
  obtain ⟨k, hk⟩ := List.mem_iff_getElem?.1 (full_mem hb hl q hq)
  obtain ⟨m, hm, hmp⟩ := hb.arcs k q hk p hp h
  have hkl := (List.getElem?_eq_some_iff.1 hk).1
  have hL := lvS_lev hT hb hl
  refine ⟨m, k, by rw [idxN_at _ 0 m hb.nodup hmp, Nat.zero_add], by rw [idxN_at _ 0 k hb.nodup hk, Nat.zero_add], hm, by omega, hL.up p q h, ?_⟩
  have := lev_n hT hb hl hL hq
  omega
/-- the cycle -/
theorem cyc_facts {n : Nat} {T : Nat → Nat → Bool} (hT : Fits n T) (hno : ∀ i, T i i = false) (h : lenP n T < n) :
    2 ≤ (cycP n T).length ∧ (cycP n T).length ≤ n + 1 ∧ (∀ (i x y : Nat), (cycP n T)[i]? = some x → (cycP n T)[(i + 1) % (cycP n T).length]? = some y → T x y = true) ∧
      ∀ (i x s : Nat), 0 < i → (cycP n T)[i]? = some x → (cycP n T)[0]? = some s → s < x := by
  obtain ⟨h1, h2⟩ := lenP_fewest hT h
  have e : cycP n T = startP n T (lenP n T) :: pathP n T (startP n T (lenP n T)) (lenP n T) (startP n T (lenP n T)) := if_pos h
  rw [e]
  generalize lenP n T = K at *
  generalize startP n T K = s at *
  obtain ⟨r1, r2, z, r3, r4⟩ := pathP_ok hT h2 K s 0 rfl h2.at_ (by omega)
  have hlen : (s :: pathP n T s K s).length = K + 1 := by rw [List.length_cons, pathP_len]
  have hK : 1 ≤ K := by
    rcases Nat.eq_zero_or_pos K with h0 | h0
    · subst h0
      simp at r3; subst r3
      rw [hno] at r4; cases r4
    · exact h0
  rw [hlen]
  refine ⟨by omega, by omega, fun i x y hx hy => ?_, fun i x u hi hx hu => ?_⟩
  · have hil := (List.getElem?_eq_some_iff.1 hx).1
    rw [hlen] at hil
    by_cases hi : i + 1 < K + 1
    · rw [Nat.mod_eq_of_lt hi] at hy
      exact r1 i x y hx hy
    · obtain rfl : i = K := by omega
      rw [Nat.mod_self] at hy
      simp at hy; subst hy
      rw [hx] at r3
      injection r3 with r3
      subst r3
      exact r4
  · obtain ⟨i, rfl⟩ : ∃ c, i = c + 1 := ⟨i - 1, by omega⟩
    simp at hu; subst hu
    rw [List.getElem?_cons_succ] at hx
    exact (r2 x (List.mem_of_getElem? hx)).1
end Go.Proofs.Ytgmdfaamheblmaa.PM
