/- The program's journal: frameSize, HasPrefix. -/
import Derived.Test.YtjmpnpflmdpdkaaJIc
namespace Go.Proofs.Ytjmpnpflmdpdkaa
open Go Go.RowKit FM

theorem opE_take {xs : List Nat} {N : Nat} (hN : 8201 ≤ N) : opE (xs.take N) = opE xs ∧ len3 (xs.take N) = len3 xs := by
  by_cases hl : xs.length ≤ N
  · rw [List.take_of_length_le hl]; exact ⟨rfl, rfl⟩
  · have h3 : len3 (xs.take N) = len3 xs := by
      unfold len3
      rw [List.drop_take, List.take_take, Nat.min_eq_left (by omega)]
    have h0 : (xs.take N).getD 0 0 = xs.getD 0 0 := by
      simp only [List.getD_eq_getElem?_getD]
      rw [List.getElem?_take_of_lt (by omega)]
    have hlen : (xs.take N).length = N := by rw [List.length_take]; omega
    refine ⟨?_, h3⟩
    unfold opE
    rw [h3, h0, hlen]
    rw [if_neg (by omega : ¬ N = 0), if_neg (by omega : ¬ xs.length = 0)]
    by_cases g0 : xs.getD 0 0 ≠ 209
    · rw [if_pos g0, if_pos g0]
    · rw [if_neg g0, if_neg g0, if_neg (show ¬ N < 5 by omega), if_neg (show ¬ xs.length < 5 by omega)]
      by_cases g1 : 8192 < len3 xs
      · rw [if_pos g1, if_pos g1]
      · rw [if_neg g1, if_neg g1, if_neg (show ¬ N < len3 xs + 9 by omega), if_neg (show ¬ xs.length < len3 xs + 9 by omega)]
        have e1 : sum4 (xs.take N) (len3 xs) = sum4 xs (len3 xs) := by
          unfold sum4
          rw [List.drop_take, List.take_take, Nat.min_eq_left (by omega)]
        have e2 : (xs.take N).take (len3 xs + 5) = xs.take (len3 xs + 5) := by rw [List.take_take, Nat.min_eq_left (by omega)]
        rw [e1, e2]
/-- the bytes of the frame at the beginning, or none -/
def szF (xs : List Nat) : Nat := if opE xs = 0 then len3 xs + 9 else 0
theorem opE_cases (xs : List Nat) : opE xs = 0 ∨ opE xs = 3 ∨ opE xs = 4 ∨ opE xs = 5 ∨ opE xs = 6 := by
  unfold opE
  split; · simp
  split; · simp
  split; · simp
  split; · simp
  split; · simp
  split <;> simp
theorem szF_le {xs : List Nat} : szF xs ≤ xs.length := by
  unfold szF
  split
  · rename_i h; exact (opE_zero h).2.2.1
  · omega
theorem szF_zero {xs : List Nat} (h : szF xs = 0) : opE xs ≠ 0 := by
  intro e
  unfold szF at h
  rw [if_pos e] at h
  omega
theorem szF_pos {xs : List Nat} (h : 0 < szF xs) : opE xs = 0 ∧ szF xs = len3 xs + 9 ∧ (opD xs).length = len3 xs ∧ opR xs = xs.drop (szF xs) := by
  unfold szF at h ⊢
  split at h
  · rename_i e
    rw [if_pos e]
    have := opE_zero e
    refine ⟨e, rfl, ?_, rfl⟩
    unfold opD
    rw [List.length_drop, List.length_take]; omega
  · omega
theorem oR_len {xs : List Nat} (h : opE xs = 0) : (oR xs).length = xs.length - (len3 xs + 9) := by
  unfold oR opR
  rw [if_pos h, List.length_drop]
/-- the window in which frameSize looks -/
def wN (n : Nat) : Nat := if n ≤ 8201 then n else 8201
theorem wN_take {xs : List Nat} {n : Nat} (hn : xs.length = n) : opE (xs.take (wN n)) = opE xs ∧ len3 (xs.take (wN n)) = len3 xs := by
  unfold wN
  split
  · rw [List.take_of_length_le (by omega)]; exact ⟨rfl, rfl⟩
  · exact opE_take (Nat.le_refl _)
set_option maxHeartbeats 1000000 in
theorem size_any (A : Option Addr) (n c : Nat) (xs : List Nat) (w : World) (hx : BR w A n xs) (hc : n ≤ c) (hm : c ≤ maxLen) (z : Nat) (hz : szF xs = z) :
    Calls Try.prog 35 #[.slice A n c] w fun e w' => e = .returned (.int .i64 (z : Int)) ∧ Below w.heap.size w w' := by
  obtain ⟨m, hmn⟩ : ∃ m, wN n = m := ⟨_, rfl⟩
  have hmle : m ≤ n ∧ m ≤ 8201 := by rw [← hmn]; unfold wN; split <;> omega
  obtain ⟨E, hE⟩ : ∃ E, opE xs = E := ⟨_, rfl⟩
  have hw := wN_take hx.len
  rw [hmn] at hw
  have hE2 : opE (xs.take m) = E := by rw [hw.1, hE]
  have hxt := hx.take_ (m := m) hmle.1
  have HT := hide hxt
  have HE := hide hE2
  have HM : min (n : Int) 8201 = (m : Int) := by rw [← hmn]; unfold wN; split <;> omega
  have hml := hm
  unfold maxLen at hml
  have i1 : (0 : Int) ≤ (m : Int) := by omega
  have i2 : (m : Int) ≤ (c : Int) := by omega
  have hm5 : m ≤ 100000 := by omega
  have hmc : m ≤ c := by omega
  have hcases := opE_cases xs
  rw [hE] at hcases
  have HZ := hide (show E = 0 → len3 xs + 9 = z ∧ (oR (xs.take m)).length = m - z ∧ z ≤ m from fun h0 => by
    have e1 : z = len3 xs + 9 := by rw [← hz]; unfold szF; rw [if_pos (by rw [hE]; exact h0)]
    have e2 := oR_len (xs := xs.take m) (by rw [hE2]; exact h0)
    have e3 := (opE_zero (b := xs.take m) (by rw [hE2]; exact h0)).2.2.1
    rw [hw.2] at e2 e3
    rw [hxt.len] at e2 e3
    omega)
  have HZ0 := hide (show E ≠ 0 → z = 0 from fun h0 => by rw [← hz]; unfold szF; rw [if_neg (by rw [hE]; exact h0)])
  clear hx hE hE2 hmn hw hxt hz
  go_enter Try.func35, Try.ntmps35
  go_wp2_with fail
  (with_reducible refine (open_any _ m _ (xs.take m) _ HT.out hmc hm hm5 _ _ _ E rfl rfl rfl HE.out).mono ?_)
  rintro e w1 ⟨A1, n1, c1, A2, n2, c2, rfl, hr1, hr2, hb⟩
  have HB := hide hb
  have hn2 : (oR (xs.take m)).length = n2 := Row.len hr2
  clear hr1 hr2 hb HT HE
  rcases hcases with rfl | rfl | rfl | rfl | rfl
  · obtain ⟨z1, z2, z3⟩ := HZ.out rfl
    have z4 : n2 = m - z := by omega
    have z5 : (m : Int) - ((m - z : Nat) : Int) = (z : Int) := by omega
    have z6 : IntKind.i64.wrap (z : Int) = (z : Int) := IntWalk.i64_in _ (by omega)
    subst z4
    clear z1 z2 z3 hn2 HZ0 HZ
    go_wp2_with fail
    go_ret
    exact ⟨ret_int (by omega), HB.out⟩
  all_goals
    obtain rfl : z = 0 := HZ0.out (by omega)
    clear hn2 HZ0 HZ
    go_wp2_with fail
    go_ret
    exact ⟨rfl, HB.out⟩
end Go.Proofs.Ytjmpnpflmdpdkaa
