/- The law of parsing: the walk. -/
import Derived.Test.YthkgiobemfnpmaaDoorTexts
import Derived.Test.YthkgiobemfnpmaaDoorRParse
namespace Go.Proofs.YthkgiobemfnpmaaDoor
open Go Go.RowKit

theorem rparse_form (s : ByteArray) (w : World) (hs : s.size ≤ 4000) (h : ¬ IsT (bytesOf s)) : Calls Tryd.prog 39 #[.string s] w (GivesNE 0 3 w) := by
  by_cases hd : AllDig (bytesOf s)
  · exact rparse_notext s w hs hd _ rfl (fun h1 => h (isT_iff.2 h1))
  · exact rparse_nodig s w hs hd
theorem rparse_ok' (s : ByteArray) (w : World) (hs : s.size ≤ 4000) (h : IsT (bytesOf s)) (V : Nat) (hV : decV (bytesOf s) = V) : Calls Tryd.prog 39 #[.string s] w (GivesNE V 0 w) :=
  rparse_ok s w hs h.1 V hV (by rw [← hV]; exact asc_decV h)

set_option maxHeartbeats 4000000 in
set_option maxRecDepth 100000 in
theorem parses_full (s : ByteArray) (w : World) (hT : Tab w) (hs : s.size ≤ 4100) (hf : 4000 < s.size) :
    Calls Tryd.prog 12 #[.string s] w fun e w' => e = .returned (.bool true) ∧ Below w.heap.size w w' := by
  have hd41 : decide (4100 < (s.size : Int)) = false := by simp; omega
  have HF := hide hf
  clear hf
  go_enter Tryd.func12, Tryd.ntmps12
  go_wp2_with fail
  refine (awake_any _ hT).mono ?_
  rintro e w1 ⟨rfl, D1⟩
  have T1 := hT.below D1
  clear hT
  go_wp2_with fail
  refine (parse_full s _ HF.out).mono ?_
  rintro e w2 ⟨A2, n2, c2, rfl, h2, hn2, hc2, hx⟩
  have D2 := D1.trans (hx.mono D1.size)
  have T2 := T1.below hx
  clear hx D1 T1
  go_wp2_with fail
  generalize hW : w2.alloc _ = W2
  obtain ⟨hb2, b2, -⟩ := boxes1 hW
  clear hW
  have D3 := D2.trans (hb2.mono D2.size)
  have h3 := h2.below hb2
  have T3 := T2.below hb2
  clear hb2 h2 D2 T2
  refine (rparse_full s _ HF.out).mono ?_
  rintro e w4 ⟨A4, n4, c4, rfl, h4', hn4, hc4, hx⟩
  have D4 := D3.trans (hx.mono D3.size)
  have h5 := h3.below hx
  have T4 := T3.below hx
  have b4 := b2.below' hx
  have k4 := b4.cell
  clear hx h3 D3 T3 b2
  have q4 := (b4.alloc (.cells #[.slice A4 n4 c4] 24)).cell
  go_wp2_with fail
  generalize hW : w4.alloc _ = W4
  obtain ⟨hb5, b5, -⟩ := boxes1 hW
  clear hW
  have D5 := D4.trans (hb5.mono D4.size)
  have h6 := h5.below hb5
  have h7 := h4'.below hb5
  have T5 := T4.below hb5
  have b6 := b4.below' hb5
  clear hb5 h5 h4' D4 T4 b4 k4 q4
  have l6 : n2 ≤ 0 := Nat.le_of_eq h6.len.symm
  refine (same_d A2 n2 c2 0 A4 n4 c4 _ h6 (by omega) h7).mono ?_
  rintro e w7 ⟨rfl, hx⟩
  have D7 := D5.trans (hx.mono D5.size)
  clear hx h6 h7 D5 T5 b5 b6
  go_wp2
  go_ret
  exact ⟨rfl, D7⟩
set_option maxHeartbeats 4000000 in
set_option maxRecDepth 100000 in
theorem parses_form (s : ByteArray) (w : World) (hT : Tab w) (hs : s.size ≤ 4100) (h4 : s.size ≤ 4000) (hf : ¬ IsT (bytesOf s)) :
    Calls Tryd.prog 12 #[.string s] w fun e w' => e = .returned (.bool true) ∧ Below w.heap.size w w' := by
  have hd41 : decide (4100 < (s.size : Int)) = false := by simp; omega
  have HF := hide hf
  clear hf
  go_enter Tryd.func12, Tryd.ntmps12
  go_wp2_with fail
  refine (awake_any _ hT).mono ?_
  rintro e w1 ⟨rfl, D1⟩
  have T1 := hT.below D1
  clear hT
  go_wp2_with fail
  refine (parse_form s _ h4 HF.out).mono ?_
  rintro e w2 ⟨A2, n2, c2, rfl, h2, hn2, hc2, hx⟩
  have D2 := D1.trans (hx.mono D1.size)
  have T2 := T1.below hx
  clear hx D1 T1
  go_wp2_with fail
  generalize hW : w2.alloc _ = W2
  obtain ⟨hb2, b2, -⟩ := boxes1 hW
  clear hW
  have D3 := D2.trans (hb2.mono D2.size)
  have h3 := h2.below hb2
  have T3 := T2.below hb2
  clear hb2 h2 D2 T2
  refine (rparse_form s _ h4 HF.out).mono ?_
  rintro e w4 ⟨A4, n4, c4, rfl, h4', hn4, hc4, hx⟩
  have D4 := D3.trans (hx.mono D3.size)
  have h5 := h3.below hx
  have T4 := T3.below hx
  have b4 := b2.below' hx
  have k4 := b4.cell
  clear hx h3 D3 T3 b2
  have q4 := (b4.alloc (.cells #[.slice A4 n4 c4] 24)).cell
  go_wp2_with fail
  generalize hW : w4.alloc _ = W4
  obtain ⟨hb5, b5, -⟩ := boxes1 hW
  clear hW
  have D5 := D4.trans (hb5.mono D4.size)
  have h6 := h5.below hb5
  have h7 := h4'.below hb5
  have T5 := T4.below hb5
  have b6 := b4.below' hb5
  clear hb5 h5 h4' D4 T4 b4 k4 q4
  have l6 : n2 ≤ 0 := Nat.le_of_eq h6.len.symm
  refine (same_d A2 n2 c2 0 A4 n4 c4 _ h6 (by omega) h7).mono ?_
  rintro e w7 ⟨rfl, hx⟩
  have D7 := D5.trans (hx.mono D5.size)
  clear hx h6 h7 D5 T5 b5 b6
  go_wp2
  go_ret
  exact ⟨rfl, D7⟩
set_option maxHeartbeats 4000000 in
set_option maxRecDepth 100000 in
theorem parses_ok (s : ByteArray) (w : World) (hT : Tab w) (hs : s.size ≤ 4100) (h4 : s.size ≤ 4000) (hf : IsT (bytesOf s)) :
    Calls Tryd.prog 12 #[.string s] w fun e w' => e = .returned (.bool true) ∧ Below w.heap.size w w' := by
  have hd41 : decide (4100 < (s.size : Int)) = false := by simp; omega
  have HF := hide hf
  obtain ⟨V, hV⟩ : ∃ V, decV (bytesOf s) = V := ⟨_, rfl⟩
  have HV := hide hV
  have HS := hide (show strN (asc V) = s from by rw [← hV, asc_decV hf, strN_bytesOf])
  obtain ⟨K, hK⟩ : ∃ K, K = 446 := ⟨_, rfl⟩
  have HLV := hide (show (dig B9 V).length ≤ K from (dig_length_le B9 (by decide) K V).2 (by
    have h1 := decV_lt _ hf.1
    rw [hV, bytesOf_length] at h1
    rw [pow_B9]
    exact Nat.lt_of_lt_of_le h1 (Nat.pow_le_pow_right (by decide) (by omega))))
  have hKb : K ≤ 446 := by omega
  clear hK hV
  clear hf
  go_enter Tryd.func12, Tryd.ntmps12
  go_wp2_with fail
  refine (awake_any _ hT).mono ?_
  rintro e w1 ⟨rfl, D1⟩
  have T1 := hT.below D1
  clear hT
  go_wp2_with fail
  refine (parse_ok s _ h4 HF.out V HV.out).mono ?_
  rintro e w2 ⟨A2, n2, c2, rfl, h2, hn2, hc2, hx⟩
  have D2 := D1.trans (hx.mono D1.size)
  have T2 := T1.below hx
  clear hx D1 T1
  go_wp2_with fail
  generalize hW : w2.alloc _ = W2
  obtain ⟨hb2, b2, -⟩ := boxes1 hW
  clear hW
  have D3 := D2.trans (hb2.mono D2.size)
  have h3 := h2.below hb2
  have T3 := T2.below hb2
  clear hb2 h2 D2 T2
  refine (rparse_ok' s _ h4 HF.out V HV.out).mono ?_
  rintro e w4 ⟨A4, n4, c4, rfl, h4', hn4, hc4, hx⟩
  have D4 := D3.trans (hx.mono D3.size)
  have h5 := h3.below hx
  have T4 := T3.below hx
  have b4 := b2.below' hx
  have k4 := b4.cell
  clear hx h3 D3 T3 b2
  have q4 := (b4.alloc (.cells #[.slice A4 n4 c4] 24)).cell
  go_wp2_with fail
  generalize hW : w4.alloc _ = W4
  obtain ⟨hb5, b5, -⟩ := boxes1 hW
  clear hW
  have D5 := D4.trans (hb5.mono D4.size)
  have h6 := h5.below hb5
  have h7 := h4'.below hb5
  have T5 := T4.below hb5
  have b6 := b4.below' hb5
  clear hb5 h5 h4' D4 T4 b4 k4 q4
  have l6 : n2 ≤ K := by rw [← h6.len]; exact HLV.out
  refine (same_d A2 n2 c2 V A4 n4 c4 _ h6 (by omega) h7).mono ?_
  rintro e w7 ⟨rfl, hx⟩
  have D7 := D5.trans (hx.mono D5.size)
  have h8 := h6.below hx
  have T7 := T5.below hx
  have b7 := b6.below' hx
  have k7 := b7.cell
  clear hx h6 h7 D5 T5 b5 b6
  go_wp2_with fail
  refine (text_g A2 n2 c2 _ _ h8 hn2 hc2 (by omega) (dig_u32 V) T7 V (vd V) s HS.out).mono ?_
  rintro e w8 ⟨rfl, hx⟩
  have D8 := D7.trans (hx.mono D7.size)
  clear hx h8 T7 b7 k7 D7
  go_wp2
  go_ret
  exact ⟨rfl, D8⟩
set_option maxHeartbeats 4000000 in
set_option maxRecDepth 100000 in
theorem parses_no (s : ByteArray) (w : World) (hT : Tab w) (hs : 4100 < s.size) :
    Calls Tryd.prog 12 #[.string s] w fun e w' => e = .returned (.bool true) ∧ Below w.heap.size w w' := by
  have hd41 : decide (4100 < (s.size : Int)) = true := by simp; omega
  clear hs
  go_enter Tryd.func12, Tryd.ntmps12
  go_wp2_with fail
  refine (awake_any _ hT).mono ?_
  rintro e w1 ⟨rfl, D1⟩
  have T1 := hT.below D1
  go_wp2_with fail
  refine (awake_any _ T1).mono ?_
  rintro e w4 ⟨rfl, hx⟩
  have D4 := D1.trans (hx.mono D1.size)
  clear hx
  go_wp2
  go_ret
  exact ⟨rfl, D4⟩
theorem parses_any (s : ByteArray) (w : World) (hT : Tab w) : Calls Tryd.prog 12 #[.string s] w fun e w' => e = .returned (.bool true) ∧ Below w.heap.size w w' := by
  rcases Nat.lt_or_ge 4100 s.size with h | h
  · exact parses_no s w hT h
  · rcases Nat.lt_or_ge 4000 s.size with h1 | h1
    · exact parses_full s w hT h h1
    · by_cases h2 : IsT (bytesOf s)
      · exact parses_ok s w hT h h1 h2
      · exact parses_form s w hT h h1 h2
end Go.Proofs.YthkgiobemfnpmaaDoor
