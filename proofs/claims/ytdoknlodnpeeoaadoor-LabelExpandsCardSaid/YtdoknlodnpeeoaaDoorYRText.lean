/- The contract of the reference's Text. -/
import Derived.Test.YtdoknlodnpeeoaaDoorYRNorm
namespace Go.Proofs.YtdoknlodnpeeoaaDoor
open Go Go.RowKit

theorem bytesOf_nil : bytesOf ⟨#[]⟩ = [] := rfl
theorem dec_zero (j : Nat) : dec j 0 = List.replicate j 48 := by
  induction j with
  | zero => rfl
  | succ j ih => rw [dec_succ, Nat.zero_div, ih, List.replicate_succ']
theorem dec_pad {n j v : Nat} (h : v < 10 ^ n) : dec (j + n) v = List.replicate j 48 ++ dec n v := by
  have := dec_split j n v 0 h
  rw [Nat.mul_zero, Nat.add_zero, dec_zero] at this
  exact this
theorem dec_asc {m v : Nat} (h : v < 10 ^ m) (h0 : v ≠ 0) : ∃ j, j ≤ m ∧ dec m v = List.replicate j 48 ++ asc v := by
  obtain ⟨n, h1, h2, h3⟩ := asc_pow h0
  have hnm : n + 1 ≤ m := by
    rcases Nat.lt_or_ge n m with h4 | h4
    · exact h4
    · have := Nat.pow_le_pow_right (show 0 < 10 by decide) h4
      omega
  refine ⟨m - (n + 1), by omega, ?_⟩
  rw [h3, ← dec_pad h2]
  congr 1
  omega
/-- one more digit ahead -/
theorem dec_front {m lo d : Nat} (h : lo < 10 ^ m) (hd : d < 10) : [48 + d] ++ dec m lo = dec (m + 1) (lo + 10 ^ m * d) := by
  rw [Nat.add_comm m 1, dec_split 1 m lo d h, dec_one hd]
theorem digit_step (T x i k : Nat) (hT : T < B9 ^ i) : [48 + x / 10 ^ k % 10] ++ dec (9 * i + k) (T + B9 ^ i * (x % 10 ^ k)) = dec (9 * i + (k + 1)) (T + B9 ^ i * (x % 10 ^ (k + 1))) := by
  have hB : B9 ^ i = 10 ^ (9 * i) := pow_B9 i
  have hlo : T + B9 ^ i * (x % 10 ^ k) < 10 ^ (9 * i + k) := by
    have h1 : x % 10 ^ k + 1 ≤ 10 ^ k := Nat.mod_lt _ (Nat.pow_pos (by decide))
    have h2 : B9 ^ i * (x % 10 ^ k + 1) ≤ B9 ^ i * 10 ^ k := Nat.mul_le_mul_left _ h1
    rw [Nat.mul_add, Nat.mul_one] at h2
    rw [Nat.pow_add, ← hB]
    omega
  rw [dec_front hlo (Nat.mod_lt _ (by decide))]
  have e : x % 10 ^ (k + 1) = x % 10 ^ k + 10 ^ k * (x / 10 ^ k % 10) := by rw [Nat.pow_succ, Nat.mod_mul]
  have e2 : 10 ^ (9 * i + k) * (x / 10 ^ k % 10) = B9 ^ i * (10 ^ k * (x / 10 ^ k % 10)) := by rw [Nat.pow_add, ← hB, Nat.mul_assoc]
  rw [e2, e, Nat.mul_add, ← Nat.add_assoc T]
  rfl
theorem RL.one8 (w : World) (t : TypeId) {v : Int} {x : Nat} (e : v = (x : Int)) : RL (w.alloc (.cells #[.int .u8 v] t)) .u8 (some ⟨w.heap.size, 0, none⟩) 1 [x] := RL.one w .u8 t e

set_option maxHeartbeats 2000000 in
set_option maxRecDepth 100000 in
theorem rtext_any (A : Option Addr) (n c : Nat) (xs : List Nat) (w : World) (hr : RL w .u32 A n xs) (hn : n ≤ c) (hc : c ≤ maxLen) (hN : n ≤ 100000) (hx : ∀ x ∈ xs, x < 4294967296) (u : Nat) (hu : val B9 xs = u) :
    Calls Tryd.prog 51 #[.agg #[.slice A n c]] w fun e w' => e = .returned (.string (strN (asc u))) ∧ Below w.heap.size w w' := by
  have HX := hide hx
  have HU := hide hu
  have HL := hide hr.len
  clear hx hu
  go_enter Tryd.func51, Tryd.ntmps51
  go_wp2_with fail
  generalize hW : w.alloc _ = W
  obtain ⟨hbW, b0, hz⟩ := boxes1 hW
  clear hW
  refine (rnorm_any A n c xs _ (hr.below hbW) hn hc (by omega) HX.out u HU.out).mono ?_
  rintro e w1 ⟨A1, n1, c1, rfl, r1, hn1, hc1, hb1⟩
  have hl1 : n1 ≤ n + 1 := dig_len_u32 (n := n1) (m := n) (xs := xs) (by rw [HU.out]; exact r1.len) HL.out HX.out
  have b0 := b0.below' hb1
  have hbA := hbW.trans (hb1.mono hbW.size)
  have f0 := b0.frozen 0
  have g0 := b0.cell
  have r4 : RL (w1.setCell ⟨w.heap.size, 0, none⟩ (.slice A1 n1 c1)) .u32 A1 n1 (dig B9 u) := r1.put b0 _
  have d0 : Box (w1.setCell ⟨w.heap.size, 0, none⟩ (.slice A1 n1 c1)) w.heap.size #[.slice A1 n1 c1] 72 := b0.put _
  have hb4 : Below w.heap.size w (w1.setCell ⟨w.heap.size, 0, none⟩ (.slice A1 n1 c1)) := hbA.setCell (by simp) _
  clear hr hb1 hbW r1 b0 hbA
  have k0 := d0.cell
  have HR4 := hide r4.len
  have hc1' : n1 ≤ maxLen := Nat.le_trans hn1 hc1
  unfold maxLen at hc1'
  go_wp2_with fail
  generalize w1.setCell (⟨w.heap.size, 0, none⟩ : Addr) (.slice A1 n1 c1) = W4 at *
  have lt0 := d0.lt
  clear f0 g0 k0
  go_loopw [3, 4, 5, 6] (fun t i _ _ wr => ∃ (k : Nat) (sv : ByteArray), k ≤ n1 ∧ i = .int .i64 (k : Int) ∧ t = .string sv ∧ Below W4.heap.size W4 wr ∧ bytesOf sv = dec (9 * k) (val B9 ((dig B9 u).take k))) (fun _ i _ _ _ => n1 - (intOf i).toNat)
  case atStart => exact ⟨0, ⟨#[]⟩, by omega, rfl, rfl, Below.refl _ _, rfl⟩
  case round =>
    obtain ⟨i, sv, hi, rfl, rfl, hbel, hsv⟩ := hrel
    have q0 := (d0.below hbel lt0).cell
    have HS := hide hsv
    clear hsv
    by_cases hlt : i < n1
    · obtain ⟨b, o, x, rfl, hx, hcell⟩ := (r4.below hbel).at_ hlt
      have hxb : x < 1000000000 := dig_lt B9 (by decide) u x (List.mem_of_getElem? hx)
      have HX' := hide hx
      have HTB := hide (val_take_lt B9 (by decide) (dig_lt B9 (by decide) u) i)
      clear hx
      go_wp2
      go_loopg [3, 5, 6] 9 (fun gk t n k wq => ∃ (j : Nat) (sq : ByteArray), j + gk = 9 ∧ k = .int .i64 (j : Int) ∧ t = .string sq ∧ n = .int .u32 ((x / 10 ^ j : Nat) : Int) ∧ Below W4.heap.size W4 wq ∧ bytesOf sq = dec (9 * i + j) (val B9 ((dig B9 u).take i) + B9 ^ i * (x % 10 ^ j)))
      case atStart => exact ⟨0, sv, rfl, rfl, rfl, by simp, hbel, by rw [Nat.pow_zero, Nat.mod_one, Nat.mul_zero, Nat.add_zero]; exact HS.out⟩
      case round =>
        obtain ⟨j, sq, hj, rfl, rfl, rfl, hbq, hsq⟩ := hrel
        have HQ := hide hsq
        clear hsq
        by_cases h9 : j = 9
        · subst h9
          have HN := hide (show bytesOf sq = dec (9 * (i + 1)) (val B9 ((dig B9 u).take (i + 1))) from by
            rw [HQ.out, val_take_succ B9 HX'.out, Nat.mod_eq_of_lt (by exact hxb)]; rfl)
          go_wp2
          go_roundw
          case rel => exact ⟨i + 1, sq, by omega, by go_num, rfl, hbq, HN.out⟩
          case measure => simp [intOf]; omega
        · have hjl : j < 9 := by omega
          have hyb : x / 10 ^ j < 1000000000 := Nat.lt_of_le_of_lt (Nat.div_le_self _ _) hxb
          have HD := hide (digit_step (val B9 ((dig B9 u).take i)) x i j HTB.out)
          have HY := hide (show x / 10 ^ j / 10 = x / 10 ^ (j + 1) from by rw [Nat.pow_succ, Nat.div_div_eq_div_mul])
          have HG := hide (show j + 1 + (gk - 1) = 9 from by omega)
          have hgk : 1 ≤ gk := by omega
          have hbs := hbq.size
          obtain ⟨y, hy⟩ : ∃ y, x / 10 ^ j = y := ⟨_, rfl⟩
          rw [hy] at hyb HD HY
          rw [hy]
          clear hy hj
          have hconv := run_conv (wr.alloc (.cells #[.int .u8 (48 + (y : Int) % 10)] 5)) (some ⟨wr.heap.size, 0, none⟩) 1 1 [48 + y % 10] (RL.one8 wr 5 (by omega)) (by omega)
          have c1 : (strN [48 + y % 10]).size = 1 := rfl
          have c2 : sq.size ≤ 1000000 := by rw [← bytesOf_length, HQ.out, dec_length]; omega
          go_wp2
          go_roundg (gk - 1)
          case measure => omega
          case rel => exact ⟨j + 1, strN [48 + y % 10] ++ sq, HG.out, by go_num, rfl, by rw [← HY.out]; go_num, hbq.alloc hbs _, by rw [bytesOf_append, bytesOf_strN (by intro z hz; simp at hz; omega), HQ.out]; exact HD.out⟩
    · obtain rfl : i = n1 := by omega
      have hTu : val B9 ((dig B9 u).take i) = u := val_take_dig B9 (by decide) u i (by rw [HR4.out]; exact Nat.le_refl _)
      have hB4 := hb4.trans (hbel.mono hb4.size)
      have hS0 := HS.out
      rw [hTu] at hS0
      by_cases hu0 : u = 0
      · have hi0 : i = 0 := by have h := HR4.out; rw [hu0] at h; exact h.symm
        have hs0 : sv = ⟨#[]⟩ := bytesOf_inj (by rw [hS0, hi0]; rfl)
        have HE := hide (show strN (asc u) = ⟨#[48]⟩ from by rw [hu0, asc_zero]; rfl)
        subst hs0
        clear hTu hS0 hu0
        go_wp2
        go_loopg [3] 0 (fun gk t wq => gk = 0 ∧ t = .string ⟨#[]⟩ ∧ wq = wr)
        case atStart => exact ⟨rfl, rfl, rfl⟩
        case round =>
          obtain ⟨rfl, rfl, rfl⟩ := hrel
          go_wp2
          go_ret
          exact ⟨by rw [HE.out]; rfl, hB4⟩
      · have hub : u < 10 ^ (9 * i) := by
          rw [← pow_B9]
          exact (dig_length_le B9 (by decide) i u).1 (by rw [HR4.out]; exact Nat.le_refl _)
        obtain ⟨j, hj, hjs⟩ := dec_asc hub hu0
        obtain ⟨m0, h1, h2, h3⟩ := asc_pow hu0
        obtain ⟨y, l, hyl, hy48⟩ := dec_head m0 u h1 h2
        have HYL := hide (show asc u = y :: l from by rw [h3, hyl])
        have HS1 := hide (hS0.trans hjs)
        clear hTu hS0 hub hjs h1 h2 h3 hyl
        go_wp2
        go_loopg [3] j (fun gk t wq => ∃ sq : ByteArray, t = .string sq ∧ wq = wr ∧ bytesOf sq = List.replicate gk 48 ++ asc u)
        case atStart => exact ⟨sv, rfl, rfl, HS1.out⟩
        case round =>
          obtain ⟨sq, rfl, rfl, hsq⟩ := hrel
          have HL2 := hide (bytesOf_length sq)
          have HQ := hide hsq
          have HTD := hide (Lib.toList_data sq)
          rcases gk with _ | gk
          · have hne : bytesOf sq = y :: l := by rw [hsq, List.replicate_zero, List.nil_append, HYL.out]
            have hpos : 0 < sq.size := by rw [← bytesOf_length, hne]; simp
            have h0 := bytesOf_at sq 0 hpos
            rw [hne] at h0
            have hyv : sq[0].toNat = y := by simpa using h0.symm
            have hd : ((sq[0].toNat : Int) == 48) = false := by rw [hyv]; simp; omega
            have hem : ¬ sq.toList = [] := by
              intro h
              rw [HTD.out] at h
              unfold bytesOf at hne
              rw [h] at hne
              cases hne
            have hem2 : sq.toList.isEmpty = false := by simpa using hem
            have HE := hide (show sq = strN (asc u) from by rw [← strN_bytesOf sq, hne, HYL.out])
            clear hsq hne h0 hyv hy48
            go_wp2
            go_ret
            exact ⟨by rw [← HE.out]; rfl, hB4⟩
          · have hne : bytesOf sq = 48 :: (List.replicate gk 48 ++ asc u) := by rw [hsq, List.replicate_succ, List.cons_append]
            have hpos : 0 < sq.size := by rw [← bytesOf_length, hne]; simp
            have hpos1 : 1 ≤ sq.size := hpos
            have h0 := bytesOf_at sq 0 hpos
            rw [hne] at h0
            have hyv : sq[0].toNat = 48 := by simpa using h0.symm
            have hd : ((sq[0].toNat : Int) == 48) = true := by rw [hyv]; rfl
            have HN := hide (show bytesOf (sq.extract 1 sq.size) = List.replicate gk 48 ++ asc u from by
              rw [bytesOf_extract, hne, ← bytesOf_length, hne, List.take_length]; rfl)
            clear hsq hne h0 hyv
            go_wp2
            go_roundg gk
            case measure => omega
            case rel => exact ⟨_, rfl, rfl, HN.out⟩
theorem rtext_g (A : Option Addr) (n c : Nat) (xs : List Nat) (w : World) (hr : RL w .u32 A n xs) (hn : n ≤ c) (hc : c ≤ maxLen) (hN : n ≤ 100000) (hx : ∀ x ∈ xs, x < 4294967296) (u : Nat) (hu : val B9 xs = u) (t : ByteArray) (ht : strN (asc u) = t) :
    Calls Tryd.prog 51 #[.agg #[.slice A n c]] w fun e w' => e = .returned (.string t) ∧ Below w.heap.size w w' := by
  subst ht
  exact rtext_any A n c xs w hr hn hc hN hx u hu
theorem bytes_asc (u : Nat) : bytesOf (strN (asc u)) = asc u := bytesOf_strN (asc_digits u).lt256
theorem size_asc (u : Nat) : (strN (asc u)).size = nd u := by rw [← bytesOf_length, bytes_asc, asc_len]
end Go.Proofs.YtdoknlodnpeeoaaDoor
