/- The contract of the reference's digits. -/
import Derived.Test.YtihadabaehcmiaaDoorYDig
import Derived.WalkSpells
namespace Go.Proofs.YtihadabaehcmiaaDoor
open Go Go.RowKit Go.Lib

theorem drop_at (s : ByteArray) (k : Nat) (h : k < s.size) : s.data.toList.drop k = s[k] :: s.data.toList.drop (k + 1) := by
  rw [List.drop_eq_getElem_cons (by rw [Array.length_toList]; exact h)]
  rfl
theorem digF5_lt : ∀ (f acc : Nat) (l : List UInt8) (n : Nat) (m : List UInt8) (B : Nat), acc < B → digF5 f acc l = (n, m) → n < 10 ^ f * B
  | 0, acc, l, n, m, B, hb, h => by
    simp only [digF5, Prod.mk.injEq] at h
    omega
  | f + 1, acc, [], n, m, B, hb, h => by
    simp only [digF5, Prod.mk.injEq] at h
    have : 1 ≤ 10 ^ (f + 1) := Nat.one_le_pow _ _ (by decide)
    have := Nat.mul_le_mul_right B this
    omega
  | f + 1, acc, c :: r, n, m, B, hb, h => by
    simp only [digF5] at h
    split at h
    · rename_i hc
      have := digF5_lt f _ r n m (10 * B) (by omega) h
      rw [Nat.pow_succ, Nat.mul_assoc]
      exact this
    · simp only [Prod.mk.injEq] at h
      have : 1 ≤ 10 ^ (f + 1) := Nat.one_le_pow _ _ (by decide)
      have := Nat.mul_le_mul_right B this
      omega
theorem digF5_step {f V k n : Nat} {m : List UInt8} {s : ByteArray} (hk : k < s.size) (h1 : 48 ≤ s[k].toNat) (h2 : s[k].toNat ≤ 57) (h : digF5 (f + 1) V (s.data.toList.drop k) = (n, m)) : digF5 f (10 * V + (s[k].toNat - 48)) (s.data.toList.drop (k + 1)) = (n, m) := by
  rw [drop_at s k hk] at h
  simp only [digF5] at h
  rwa [if_pos ⟨h1, h2⟩] at h
theorem digF5_end {f V k n : Nat} {m : List UInt8} {s : ByteArray} (hk : k < s.size) (h1 : ¬(48 ≤ s[k].toNat ∧ s[k].toNat ≤ 57)) (h : digF5 (f + 1) V (s.data.toList.drop k) = (n, m)) : n = V ∧ m = s.data.toList.drop k := by
  rw [drop_at s k hk] at h
  simp only [digF5] at h
  rw [if_neg h1] at h
  rw [drop_at s k hk]
  injection h with h1 h2
  exact ⟨h1.symm, h2.symm⟩
theorem digF5_stop {V n : Nat} {m l : List UInt8} (h : digF5 0 V l = (n, m)) : n = V ∧ m = l := by
  simp only [digF5] at h
  injection h with h1 h2
  exact ⟨h1.symm, h2.symm⟩
theorem digF5_nil {f V n : Nat} {m : List UInt8} {s : ByteArray} (h : digF5 f V (s.data.toList.drop s.size) = (n, m)) : n = V ∧ m = s.data.toList.drop s.size := by
  have e : s.data.toList.drop s.size = [] := List.drop_eq_nil_of_le (by rw [Array.length_toList]; exact Nat.le_refl _)
  rw [e] at h ⊢
  rcases f with _ | f <;> (simp only [digF5] at h; injection h with h1 h2; exact ⟨h1.symm, h2.symm⟩)

theorem drop_str (s : ByteArray) (k : Nat) : strB (s.data.toList.drop k) = s.extract k s.size := by
  apply ByteArray.ext
  apply Array.toList_inj.1
  rw [ByteArray.data_extract, Array.toList_extract]
  have : (s.data.toList.drop k).length = s.size - k := by rw [List.length_drop, Array.length_toList]; rfl
  simp only [strB, List.extract_eq_take_drop]
  rw [List.take_of_length_le (Nat.le_of_eq this)]
theorem ret_dig {n V k : Nat} {m : List UInt8} {s : ByteArray} (h1 : n = V) (h2 : m = s.data.toList.drop k) : Ending.returned (.tuple #[.int .i64 (V : Int), .string (s.extract k s.size)]) = .returned (.tuple #[.int .i64 (n : Int), .string (strB m)]) := by
  rw [h1, h2, drop_str]
theorem ret_dig0 {n V : Nat} {m : List UInt8} {s : ByteArray} (h1 : n = V) (h2 : m = s.data.toList.drop s.size) : Ending.returned (.tuple #[.int .i64 (V : Int), .string ByteArray.empty]) = .returned (.tuple #[.int .i64 (n : Int), .string (strB m)]) := by
  have e : s.data.toList.drop s.size = [] := List.drop_eq_nil_of_le (by rw [Array.length_toList]; exact Nat.le_refl _)
  rw [h1, h2, e]
  rfl

set_option maxHeartbeats 1000000 in
theorem rdigits_any (s : ByteArray) (w : World) (hs : s.size ≤ 1000) (n : Nat) (m : List UInt8) (h : digF5 5 0 s.data.toList = (n, m)) :
    Calls Tryd.prog 40 #[.string s] w fun e w' => e = .returned (.tuple #[.int .i64 (n : Int), .string (strB m)]) ∧ Below w.heap.size w w' := by
  have HD := hide h
  clear h
  go_enter Tryd.func40, Tryd.ntmps40
  go_wp2
  go_loop [4, 5] (fun c i => ∃ (k V : Nat), k ≤ 5 ∧ k ≤ s.size ∧ V < 10 ^ k ∧ i = .int .i64 (k : Int) ∧ c = .int .i64 (V : Int) ∧ digF5 (5 - k) V (s.data.toList.drop k) = (n, m)) (fun _ i => 5 - (intOf i).toNat)
  case atStart => exact ⟨0, 0, by omega, by omega, by decide, rfl, rfl, HD.out⟩
  case round =>
    obtain ⟨k, V, hk5, hks, hV, rfl, rfl, hval⟩ := hrel
    have hV5 : V < 100000 := Nat.lt_of_lt_of_le hV (Nat.pow_le_pow_right (by decide) hk5)
    by_cases hlt : k < s.size
    · by_cases h5 : k < 5
      · obtain ⟨f, hf⟩ : ∃ f, 5 - k = f + 1 := ⟨4 - k, by omega⟩
        have hf2 : f = 5 - (k + 1) := by omega
        rw [hf] at hval
        by_cases h1 : s[k].toNat < 48
        · have HE := hide (digF5_end hlt (by omega) hval)
          clear hval
          go_wp2
          go_region
          go_wp2
          go_ret2
          exact ⟨ret_dig HE.out.1 HE.out.2, below_drewN (Below.refl _ _) 1⟩
        · by_cases h2 : 57 < s[k].toNat
          · have HE := hide (digF5_end hlt (by omega) hval)
            clear hval
            go_wp2
            go_region
            go_wp2
            go_ret2
            exact ⟨ret_dig HE.out.1 HE.out.2, below_drewN (Below.refl _ _) 1⟩
          · have HN := hide (digF5_step hlt (by omega) (by omega) hval)
            subst hf2
            clear hval
            have hV4 : 10 * V + (s[k].toNat - 48) < 10 ^ (k + 1) := by rw [Nat.pow_succ]; omega
            go_wp2
            go_round
            case rel => exact ⟨k + 1, 10 * V + (s[k].toNat - 48), by omega, by omega, hV4, by go_num, by congr 1; omega, HN.out⟩
            case measure => simp [intOf]; omega
      · obtain rfl : k = 5 := by omega
        have HE := hide (digF5_stop hval)
        clear hval
        go_wp2
        go_region
        go_wp2
        go_ret2
        exact ⟨ret_dig HE.out.1 HE.out.2, below_drewN (Below.refl _ _) 1⟩
    · obtain rfl : k = s.size := by omega
      have HE := hide (digF5_nil hval)
      clear hval
      go_wp2
      go_region
      go_wp2
      go_ret2
      exact ⟨ret_dig0 HE.out.1 HE.out.2, below_drewN (Below.refl _ _) 1⟩

end Go.Proofs.YtihadabaehcmiaaDoor
