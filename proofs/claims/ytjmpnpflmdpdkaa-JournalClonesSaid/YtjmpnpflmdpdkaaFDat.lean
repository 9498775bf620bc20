/- dataEnd. -/
import Derived.Test.YtjmpnpflmdpdkaaFSea
namespace Go.Proofs.Ytjmpnpflmdpdkaa
open Go Go.RowKit FM

theorem BR.mid {w : World} {b o n : Nat} {xs : List Nat} (h : BR w (some ⟨b, o, none⟩) n xs) {i j : Nat} (hj : i + j ≤ n) : BR w (some ⟨b, o + i, none⟩) j ((xs.drop i).take j) := (h.drop_ (by omega)).take_ (by omega)
theorem ret_ii {a b c : Int} (h : a = b) : Ending.returned (.tuple #[.int .i64 a, .int .i64 c]) = .returned (.tuple #[.int .i64 b, .int .i64 c]) := by rw [h]
theorem getD_of {xs : List Nat} {j x : Nat} (h : xs[j]? = some x) : xs.getD j 0 = x := by simp [List.getD, h]
set_option maxHeartbeats 4000000 in
theorem dataEnd_any (A : Option Addr) (n c : Nat) (xs : List Nat) (w : World) (hx : BR w A n xs) (hc : n ≤ c) (hm : c ≤ maxLen) (N E : Nat) (hN : deN xs = N) (hE : deE xs = E) :
    Calls Try.prog 47 #[.slice A n c] w fun e w' => e = .returned (.tuple #[.int .i64 (N : Int), .int .i64 (E : Int)]) ∧ w = w' := by
  have HL := hide hx.len
  have hlen := hx.len
  unfold maxLen at hm
  by_cases h1 : n = 0
  · have e1 := de1 (b := xs) (by omega)
    obtain rfl : 4 = E := by omega
    obtain rfl : 0 = N := by rw [← hN]; unfold deN; rw [e1]; rfl
    clear hN hE e1 hlen
    subst h1
    go_enter Try.func47, Try.ntmps47
    go_wp2_with fail
    go_ret2
    exact ⟨rfl, rfl⟩
  have n1 : ¬ xs.length = 0 := by omega
  have z1 : ((n : Int) == 0) = false := beq_eq_false_iff_ne.2 (by omega)
  obtain ⟨b, o, x0, rfl, hx0, hxb0, hcell⟩ := hx.at_ (j := 0) (by omega)
  have g0 := getD_of hx0
  rw [Nat.add_zero] at hcell
  clear hx0
  by_cases h2 : x0 = 209
  · subst h2
    by_cases h3 : n < 5
    · have e1 := de3 (b := xs) n1 g0 (by omega)
      obtain rfl : 4 = E := by omega
      obtain rfl : 0 = N := by rw [← hN]; unfold deN; rw [e1]; rfl
      clear hN hE e1 hlen g0 n1
      go_enter Try.func47, Try.ntmps47
      go_wp2_with fail
      go_ret2
      exact ⟨rfl, rfl⟩
    obtain ⟨L, hL⟩ := (⟨_, rfl⟩ : ∃ L, len3 xs = L)
    have hLb : L < 16777216 := by rw [← hL]; exact len3_lt hx.2
    have n3 : ¬ xs.length < 5 := by omega
    have HM := hide (hx.mid (i := 2) (j := 3) (by omega))
    have HLL := hide (show num ((xs.drop 2).take 3) = L from hL)
    by_cases h4 : 8192 < L
    · have e1 := de4 (b := xs) g0 n3 (by omega)
      obtain rfl : 6 = E := by omega
      obtain rfl : 0 = N := by rw [← hN]; unfold deN; rw [e1]; rfl
      clear hN hE e1 hlen g0 n1 n3 hL hx
      go_enter Try.func47, Try.ntmps47
      go_wp2_with fail
      refine (number_any _ 3 _ _ _ HM.out (by omega) L HLL.out).mono ?_
      rintro e w' ⟨rfl, rfl⟩
      go_wp2_with fail
      go_ret2
      exact ⟨rfl, rfl⟩
    by_cases h5 : n < L + 9
    · have e1 := de5 (b := xs) g0 n3 (by omega) (by omega)
      obtain rfl : 4 = E := by omega
      obtain rfl : 0 = N := by rw [← hN]; unfold deN; rw [e1]; rfl
      clear hN hE e1 hlen g0 n1 n3 hL hx
      go_enter Try.func47, Try.ntmps47
      go_wp2_with fail
      refine (number_any _ 3 _ _ _ HM.out (by omega) L HLL.out).mono ?_
      rintro e w' ⟨rfl, rfl⟩
      go_wp2_with fail
      go_ret2
      exact ⟨rfl, rfl⟩
    · have e1 := de6 (b := xs) g0 n3 (by omega) (by omega)
      obtain rfl : 0 = E := by omega
      obtain rfl : L + 5 = N := by rw [← hN]; unfold deN; rw [if_pos e1, hL]
      clear hN hE e1 hlen g0 n1 n3 hL hx
      go_enter Try.func47, Try.ntmps47
      go_wp2_with fail
      refine (number_any _ 3 _ _ _ HM.out (by omega) L HLL.out).mono ?_
      rintro e w' ⟨rfl, rfl⟩
      go_wp2_with fail
      go_ret2
      exact ⟨ret_ii (by omega), rfl⟩
  · have e1 := de2 (b := xs) n1 (by omega)
    obtain rfl : 3 = E := by omega
    obtain rfl : 0 = N := by rw [← hN]; unfold deN; rw [e1]; rfl
    have z2 : ((x0 : Int) == 209) = false := beq_eq_false_iff_ne.2 (by omega)
    have z3 : ((x0 : Int) != 209) = true := by simp only [bne, z2]; rfl
    clear hN hE e1 hlen g0 n1
    go_enter Try.func47, Try.ntmps47
    go_wp2_with fail
    go_ret2
    exact ⟨rfl, rfl⟩
end Go.Proofs.Ytjmpnpflmdpdkaa
