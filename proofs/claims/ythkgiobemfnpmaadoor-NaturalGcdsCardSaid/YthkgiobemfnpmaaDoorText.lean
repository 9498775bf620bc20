/- The contract of natural.Text. -/
import Derived.Test.YthkgiobemfnpmaaDoorAppU
import Derived.Laws.BytesArg
import Derived.OwnWalk
namespace Go.Proofs.YthkgiobemfnpmaaDoor
open Go Go.RowKit

/-- a string of bytes -/
def strN (bs : List Nat) : ByteArray := ⟨(bs.map UInt8.ofNat).toArray⟩
theorem run_conv (w : World) (A : Option Addr) (n c : Nat) (bs : List Nat) (hr : RL w .u8 A n bs) (hn : 0 < n) : (convert 60 9 (.slice A n c)).run Tryd.prog w = .ok (.string (strN bs)) w := by
  obtain ⟨b, o, rfl, hc⟩ := hr.2 hn
  have h := run_convert_bytes_arg (P := Tryd.prog) w 60 5 Tryd.underlying60 Tryd.underlying5 b o n c (bs.map (fun x : Nat => (x : Int))) (by rw [List.length_map]; exact hr.len)
    (fun i hi => by
      have hl : i < bs.length := by rw [hr.len]; exact hi
      rw [hc i bs[i] (List.getElem?_eq_getElem hl)]
      simp [List.getD, List.getElem?_eq_getElem hl]) 9 Tryd.underlying9
  rw [h]
  congr 2
  simp [strOfNums, strN]

theorem asc_eq {n v : Nat} (h1 : 10 ^ n ≤ v) (h2 : v < 10 ^ (n + 1)) : asc v = dec (n + 1) v := by rw [asc, Lib.nDigits_unique n v h1 h2]
theorem asc_small {v : Nat} (h : v < 10) : asc v = [48 + v] := by
  rw [asc, Lib.nDigits_small h]
  show [48 + v / 1 % 10] = _
  rw [Nat.div_one, Nat.mod_eq_of_lt h]
theorem nDigits_pow : ∀ (m x V : Nat), V ≠ 0 → x < 10 ^ m → Lib.nDigits (x + 10 ^ m * V) = Lib.nDigits V + m
  | 0, x, V, _, hx => by
    obtain rfl : x = 0 := by simp at hx; exact hx
    simp
  | m + 1, x, V, hV, hx => by
    have e : (x + 10 ^ (m + 1) * V) / 10 = x / 10 + 10 ^ m * V := by
      rw [Nat.pow_succ, Nat.mul_comm (10 ^ m) 10, Nat.mul_assoc, Nat.add_mul_div_left _ _ (by decide)]
    have hbig : ¬ x + 10 ^ (m + 1) * V < 10 := by
      have h1 : 10 ^ 1 * 1 ≤ 10 ^ (m + 1) * V := Nat.mul_le_mul (Nat.pow_le_pow_right (by decide) (by omega)) (Nat.one_le_iff_ne_zero.2 hV)
      omega
    rw [Lib.nDigits_big hbig, e, nDigits_pow m (x / 10) V hV (by rw [Nat.pow_succ] at hx; exact (Nat.div_lt_iff_lt_mul (by decide)).2 hx)]
    omega
theorem dec_split (n m x V : Nat) (hx : x < 10 ^ m) : dec (n + m) (x + 10 ^ m * V) = dec n V ++ dec m x := by
  unfold dec
  rw [List.range_add, List.map_append, List.map_map]
  congr 1
  · apply List.map_congr_left
    intro j hj
    have hj' := List.mem_range.1 hj
    have e1 : n + m - 1 - j = m + (n - 1 - j) := by omega
    rw [e1, Nat.pow_add, ← Nat.div_div_eq_div_mul, Nat.add_mul_div_left _ _ (Nat.pow_pos (by decide)), Nat.div_eq_of_lt hx, Nat.zero_add]
  · apply List.map_congr_left
    intro j hj
    have hj' := List.mem_range.1 hj
    show 48 + (x + 10 ^ m * V) / 10 ^ (n + m - 1 - (n + j)) % 10 = 48 + x / 10 ^ (m - 1 - j) % 10
    have e1 : n + m - 1 - (n + j) = m - 1 - j := by omega
    have e2 : 10 ^ m * V = 10 ^ (m - 1 - j) * (10 * (10 ^ j * V)) := by
      have : 10 ^ m = 10 ^ (m - 1 - j) * (10 * 10 ^ j) := by
        rw [← Nat.pow_succ', ← Nat.pow_add]; congr 1; omega
      rw [this, Nat.mul_assoc, Nat.mul_assoc]
    rw [e1, e2, Nat.add_mul_div_left _ _ (Nat.pow_pos (by decide)), Nat.add_mul_mod_self_left]
theorem d9_dec (x : Nat) : d9 x 9 = dec 9 x := rfl
theorem asc_step {x V : Nat} (hV : V ≠ 0) (hx : x < 1000000000) : asc (x + B9 * V) = asc V ++ d9 x 9 := by
  have h := nDigits_pow 9 x V hV hx
  have e : Lib.nDigits (x + B9 * V) = Lib.nDigits V + 9 := h
  rw [asc, e, d9_dec, asc]
  exact dec_split _ 9 x V hx
theorem asc_pos (v : Nat) : 0 < (asc v).length := by
  rw [asc, dec, List.length_map, List.length_range, Lib.nDigits]
  split <;> omega
theorem asc_len_small {x : Nat} (h : x < 1000000000) : (asc x).length ≤ 9 := by
  rw [asc, dec, List.length_map, List.length_range]
  by_cases h1 : x < 100
  · by_cases h2 : x < 10
    · rw [Lib.nDigits_small h2]; omega
    · rw [Lib.nDigits_unique 1 x (by omega) (by omega)]; omega
  · exact (nd_le x (by omega) h).2

theorem appendUint_any (base : Nat) (A : Option Addr) (n c : Nat) (bs : List Nat) (x : Nat) (w : World) (hb : base ≤ w.heap.size) (hr : Row w base .u8 5 A n c bs) (hN : n ≤ 100000000) (h2 : x < 1000000000) (hT : Tab w) :
    Calls Tryd.prog 53 #[.slice A n c, .int .u64 (x : Int), .int .i64 10] w (GivesRow base (bs ++ asc x) w) := by
  have H : Hid (Calls Tryd.prog 64 #[.slice A n c, .int .u64 (x : Int), .int .i64 10] w (GivesRow base (bs ++ asc x) w)) := by
    by_cases h : x < 100
    · exact appU_small base A n c bs x w hb hr hN h
    · exact appU_big base A n c bs x w hb hr hN (by omega) h2 hT
  clear hr hT
  go_enter Tryd.func53, Tryd.ntmps53
  go_wp2_with fail
  refine H.out.mono ?_
  rintro e w1 ⟨A1, n1, c1, rfl, h1, h2, h3⟩
  go_wp2
  go_ret
  exact ⟨A1, n1, c1, rfl, h1, h2, h3⟩

set_option maxHeartbeats 1000000 in
theorem text_any (A : Option Addr) (n c : Nat) (xs : List Nat) (w : World) (hr : RL w .u32 A n xs) (hn : n ≤ c) (hc : c ≤ maxLen) (hN : n ≤ 900000) (hx : ∀ x ∈ xs, x < 4294967296) (hT : Tab w) (v : Nat) (hv : val B9 xs = v) :
    Calls Tryd.prog 36 #[.agg #[.slice A n c]] w fun e w' => e = .returned (.string (strN (asc v))) ∧ Below w.heap.size w w' := by
  have HX := hide hx
  have HV := hide hv
  clear hx hv
  go_enter Tryd.func36, Tryd.ntmps36
  go_wp2_with fail
  have HB := box1 w (.slice A n c) 24
  generalize w.alloc (Obj.cells #[Value.slice A n c] 24) = W at HB ⊢
  obtain ⟨hW, _, _⟩ := HB
  refine (canon_any A n c xs _ (hr.below hW) hn hc (by omega) HX.out).mono ?_
  rintro e w1 ⟨A1, n1, c1, rfl, hr1, hn1, hc1, hb1⟩
  have hl1 : n1 ≤ n + 1 := dig_len_u32 hr1.len hr.len HX.out
  have hb2 := hW.trans (hb1.mono hW.size)
  have hT1 := hT.below hb2
  rw [HV.out] at hr1
  clear hr hb1 hT
  by_cases h0 : n1 = 0
  · subst h0
    have HE := hide (show asc v = [48] from by
      rw [(dig_eq_nil B9 (by decide)).1 (List.eq_nil_of_length_eq_zero hr1.len)]
      exact asc_small (by decide))
    clear hr1 hT1
    go_wp2
    go_ret
    refine ⟨?_, hb2⟩
    rw [HE.out]; rfl
  · obtain ⟨b, o, t, rfl, ht, hcell⟩ := hr1.at_ (j := n1 - 1) (by omega)
    have htb : t < 1000000000 := dig_lt B9 (by decide) v t (List.mem_of_getElem? ht)
    have htop := (nd_top hr1.len h0 ht).2
    have hn0 : ((n1 : Int) == 0) = false := by simp; exact h0
    have HVT := hide (show val B9 ((dig B9 v).drop (n1 - 1)) = t from by
      rw [val_drop_step B9 ht, List.drop_eq_nil_of_le (by rw [hr1.len]; omega)]; simp [val])
    clear ht
    have hblt : b < w1.heap.size := hr1.lt (by omega) b o rfl
    obtain ⟨i0, hi, hz0, hz1, hz2⟩ := info_parts u8_info
    go_wp2_with (at_make; refine wpList_make_own _ rfl _ _ 60 rfl w1.heap.size 5 i0 _ 1 Tryd.underlying60 hi hz0 hz1 .i64 .i64 _ (9 * n1) rfl rfl (by omega) (by rw [hz2]; omega) (by unfold maxLen; omega) (Nat.le_refl _) ?_; intro w3 hown3 hgr3; have hb3 : Below w1.heap.size w1 w3 := (Below.refl _ _).grown hgr3 (Nat.le_refl _) (fun k hk => by cases hk); have hcell3 : w3.cell? ⟨b, o + (n1 - 1), none⟩ = some (.int .u32 (t : Int)) := (hb3.cell (p := ⟨b, o + (n1 - 1), none⟩) hblt).trans hcell)
    have hrow3 : Row w3 w1.heap.size .u8 5 (some ⟨w1.heap.size, 0, none⟩) 0 (9 * n1) [] := hown3
    have hr3 := hr1.below hb3
    have hT3 := hT1.below hb3
    clear hown3 hgr3
    refine (appendUint_any w1.heap.size _ 0 _ [] t w3 hb3.size hrow3 (by omega) htb hT3).mono ?_
    rintro e w4 ⟨A4, n4, c4, rfl, hrow4, hb4, hsz4⟩
    have hbel4 := hb3.trans hb4
    rw [List.nil_append] at hrow4
    have hl4 : n4 ≤ 9 := by rw [← hrow4.len]; exact asc_len_small htb
    clear hrow3 hb3 hr3 hT3 hb4 hcell3 hcell
    go_wp2
    go_loopw [5, 6] (fun s i wr => ∃ (k : Nat) (A : Option Addr) (m c V : Nat), k + 1 ≤ n1 ∧ i = .int .i64 ((k : Int) - 1) ∧ s = .slice A m c ∧ Row wr w1.heap.size .u8 5 A m c (asc V) ∧ Below w1.heap.size w1 wr ∧ val B9 ((dig B9 v).drop k) = V ∧ V ≠ 0 ∧ m + 9 * k ≤ 9 * n1) (fun _ i _ => (intOf i + 1).toNat)
    case atStart => exact ⟨n1 - 1, A4, n4, c4, t, by omega, by go_num, rfl, hrow4, hbel4, HVT.out, htop, by omega⟩
    case round =>
      obtain ⟨k, A5, m, c5, V, hk, rfl, rfl, hrow, hbr, hval, hVne, hmk⟩ := hrel
      clear hrow4 hbel4
      by_cases hk0 : k = 0
      · subst hk0
        have hVv : V = v := by rw [← hval]; exact val_dig B9 (by decide) v
        rw [hVv] at hrow
        have hconv := run_conv wr A5 m c5 (asc v) hrow.rl (by have := asc_pos v; have := hrow.len; omega)
        have hbF := hb2.trans (hbr.mono hb2.size)
        clear hval hVv
        go_wp2
        go_ret
        exact ⟨rfl, hbF⟩
      · obtain ⟨k, rfl⟩ : ∃ j, k = j + 1 := ⟨k - 1, by omega⟩
        have hr5 := hr1.below hbr
        obtain ⟨x, hx, hcell⟩ := hr5.cell (j := k) (by omega)
        have hxb : x < 1000000000 := dig_lt B9 (by decide) v x (List.mem_of_getElem? hx)
        have HN := hide (show val B9 ((dig B9 v).drop k) = x + B9 * V from by rw [val_drop_step B9 hx, hval])
        have HA := hide (show asc (x + B9 * V) = asc V ++ d9 x 9 from asc_step hVne hxb)
        have hne : x + B9 * V ≠ 0 := by
          have := Nat.mul_pos (show 0 < B9 by decide) (Nat.pos_of_ne_zero hVne)
          omega
        have hbs := hbr.size
        clear hx hval
        rw [show (((k + 1 : Nat) : Int) - 1) = (k : Int) from by omega]
        go_wp2_with fail
        refine (appendLimb_any w1.heap.size A5 m c5 (asc V) x wr hbs hrow (by omega) hxb).mono ?_
        rintro e w6 ⟨A6, n6, c6, rfl, hrow6, hb6, hsz6⟩
        have hl6 : n6 = m + 9 := by
          have h1 := hrow6.len
          rw [List.length_append, hrow.len] at h1
          simp [d9] at h1
          omega
        have HL6 := hide hl6
        rw [← HA.out] at hrow6
        clear hl6
        go_wp2
        go_roundw
        case rel => exact ⟨k, A6, n6, c6, x + B9 * V, by omega, rfl, rfl, hrow6, hbr.trans hb6, HN.out, hne, by have := HL6.out; omega⟩
        case measure => simp [intOf]
end Go.Proofs.YthkgiobemfnpmaaDoor
