/- The law of texts: the walk. -/
import Derived.Test.YthkgiobemfnpmaaDoorDivides
import Derived.Test.YthkgiobemfnpmaaDoorMatches
import Derived.Test.YthkgiobemfnpmaaDoorRText
import Derived.Test.YthkgiobemfnpmaaDoorParseN
namespace Go.Proofs.YthkgiobemfnpmaaDoor
open Go Go.RowKit

theorem text_g (A : Option Addr) (n c : Nat) (xs : List Nat) (w : World) (hr : RL w .u32 A n xs) (hn : n ≤ c) (hc : c ≤ maxLen) (hN : n ≤ 900000) (hx : ∀ x ∈ xs, x < 4294967296) (hT : Tab w) (u : Nat) (hu : val B9 xs = u) (t : ByteArray) (ht : strN (asc u) = t) :
    Calls Tryd.prog 36 #[.agg #[.slice A n c]] w fun e w' => e = .returned (.string t) ∧ Below w.heap.size w w' := by
  subst ht
  exact text_any A n c xs w hr hn hc hN hx hT u hu
theorem rtext_g (A : Option Addr) (n c : Nat) (xs : List Nat) (w : World) (hr : RL w .u32 A n xs) (hn : n ≤ c) (hc : c ≤ maxLen) (hN : n ≤ 100000) (hx : ∀ x ∈ xs, x < 4294967296) (u : Nat) (hu : val B9 xs = u) (t : ByteArray) (ht : strN (asc u) = t) :
    Calls Tryd.prog 38 #[.agg #[.slice A n c]] w fun e w' => e = .returned (.string t) ∧ Below w.heap.size w w' := by
  subst ht
  exact rtext_any A n c xs w hr hn hc hN hx u hu
theorem bytes_asc (u : Nat) : bytesOf (strN (asc u)) = asc u := bytesOf_strN (asc_digits u).lt256
theorem size_asc (u : Nat) : (strN (asc u)).size = nd u := by rw [← bytesOf_length, bytes_asc, asc_len]
theorem parse_asc (u : Nat) (t : ByteArray) (ht : strN (asc u) = t) (hs : t.size ≤ 4000) (w : World) : Calls Tryd.prog 37 #[.string t] w (GivesNE u 0 w) := by
  subst ht
  exact parse_ok _ w hs (by rw [bytes_asc]; exact isT_asc u) u (by rw [bytes_asc]; exact decV_asc u)
theorem nd_13 {u : Nat} (h : u < B9 ^ 13) : nd u ≤ 117 := by
  rw [pow_B9] at h
  unfold nd
  split
  · omega
  · exact (dig_length_le 10 (by decide) (9 * 13) u).2 h

set_option maxHeartbeats 4000000 in
set_option maxRecDepth 100000 in
theorem texts_yes (A : Option Addr) (n c : Nat) (xs : List Nat) (w : World)
    (hr : RL w .u32 A n xs) (hn : n ≤ c) (hc : c ≤ maxLen) (hx : ∀ x ∈ xs, x < 4294967296) (hT : Tab w) (hN12 : n ≤ 12) :
    Calls Tryd.prog 11 #[.agg #[.slice A n c]] w fun e w' => e = .returned (.bool true) ∧ Below w.heap.size w w' := by
  have HX := hide hx
  have HU := hide (valB hr hN12 hx)
  obtain ⟨t, ht⟩ : ∃ t, strN (asc (val B9 xs)) = t := ⟨_, rfl⟩
  have hnd : nd (val B9 xs) = t.size := by rw [← ht, size_asc]
  have hts : t.size ≤ 4000 := by rw [← hnd]; exact Nat.le_trans (nd_13 HU.out) (by decide)
  have HT := hide ht
  have HND := hide hnd
  clear hx ht hnd
  go_enter Tryd.func11, Tryd.ntmps11
  go_wp2_with fail
  generalize hW : w.alloc _ = W
  obtain ⟨hbW, b0, -⟩ := boxes1 hW
  clear hW
  have lt0 := b0.lt
  have KS : Hid (∀ w', Below W.heap.size W w' → w'.cell? ⟨w.heap.size, 0, none⟩ = some (.slice A n c)) := fun w' h => (b0.below h lt0).cell
  clear b0 lt0
  have hrW := hr.below hbW
  have T0 := hT.below hbW
  clear hr
  refine (awake_any _ T0).mono ?_
  rintro e w1 ⟨rfl, D1⟩
  obtain k1 := KS.out w1 D1
  go_wp2_with fail
  refine (few_yes A n c A n c _ hN12 hN12).mono ?_
  rintro e w2 ⟨rfl, hx⟩
  have D2 := D1.trans (hx.mono D1.size)
  clear hx k1
  obtain k1 := KS.out w2 D2
  go_wp2_with fail
  refine (text_g A n c xs _ (hrW.below D2) hn hc (by omega) HX.out (T0.below D2) _ rfl t HT.out).mono ?_
  rintro e w3 ⟨rfl, hx⟩
  have D3 := D2.trans (hx.mono D2.size)
  clear hx k1 D1 D2
  obtain k1 := KS.out w3 D3
  go_wp2_with fail
  refine (parse_asc _ t HT.out hts _).mono ?_
  rintro e w4 ⟨Ay, ny, cy, rfl, hy, hny, hcy, hx⟩
  have D4 := D3.trans (hx.mono D3.size)
  clear hx k1 D3
  go_wp2_with fail
  generalize hW : w4.alloc _ = W4
  obtain ⟨hb4, by4, -⟩ := boxes1 hW
  clear hW
  have lty := by4.lt
  have D5 := D4.trans (hb4.mono D4.size)
  have hy := hy.below hb4
  have hs := hrW.below D5
  have B5 := hbW.trans (D5.mono hbW.size)
  have ly := lenB1 hy HU.out
  have KS2 : Hid (∀ w', Below W4.heap.size W4 w' → w'.cell? ⟨w.heap.size, 0, none⟩ = some (.slice A n c) ∧ w'.cell? ⟨w4.heap.size, 0, none⟩ = some (.slice Ay ny cy)) := fun w' h => ⟨KS.out w' (D5.trans (h.mono D5.size)), (by4.below h lty).cell⟩
  clear hb4 by4 lty hrW KS D4 D5 hbW hT T0
  go_region_held3 (fun w' => w'.cell? ⟨w.heap.size, 0, none⟩ = some (.slice A n c) ∧ w'.cell? ⟨w4.heap.size, 0, none⟩ = some (.slice Ay ny cy))
    (first | exact KS2.out _ E8 | exact KS2.out _ E7 | exact KS2.out _ E6 | exact KS2.out _ E5 | exact KS2.out _ ((Below.refl _ _).drew))
    (first
      | (go_at_call_of 38 (Value.slice A n c); (with_reducible refine (rtext_g A n c xs _ (hs.below ((Below.refl _ _).drew)) hn hc (by omega) HX.out (val B9 xs) rfl t HT.out).mono ?_); rintro e w5 ⟨rfl, hx5⟩; have E5 : Below W4.heap.size W4 w5 := ((Below.refl _ _).drew).trans (hx5.mono (Nat.le_refl _)))
      | (go_at_call_of 23 (Value.slice A n c); (with_reducible refine (rnorm_any A n c xs _ (hs.below E5) hn hc (by omega) HX.out (val B9 xs) rfl).mono ?_); rintro e w6 ⟨A6, n6, c6, rfl, h6, hn6, hc6, hx6⟩; have E6 : Below W4.heap.size W4 w6 := E5.trans (hx6.mono E5.size))
      | (go_at_call_of 15 (Value.slice Ay ny cy); (with_reducible refine (same_d Ay ny cy (val B9 xs) A6 n6 c6 _ (hy.below E6) (by omega) h6).mono ?_); rintro e w7 ⟨rfl, hx7⟩; have E7 : Below W4.heap.size W4 w7 := E6.trans (hx7.mono E6.size))
      | (go_at_call_of 24 (Value.slice A n c); (with_reducible refine (digits_g A n c xs _ (hs.below E7) hn hc (by omega) HX.out (val B9 xs) rfl t.size HND.out).mono ?_); rintro e w8 ⟨rfl, hx8⟩; have E8 : Below W4.heap.size W4 w8 := E7.trans (hx8.mono E7.size)))
  have B := B5.trans (E8.mono B5.size)
  clear E5 E6 E7 E8 hx5 hx6 hx7 hx8 B5 KS2 h6 hs hy
  go_wp2
  go_ret
  exact ⟨rfl, B⟩
set_option maxHeartbeats 4000000 in
set_option maxRecDepth 100000 in
theorem texts_no (A : Option Addr) (n c : Nat) (w : World) (hT : Tab w) (h : ¬(n ≤ 12)) :
    Calls Tryd.prog 11 #[.agg #[.slice A n c]] w fun e w' => e = .returned (.bool true) ∧ Below w.heap.size w w' := by
  have HH := hide h
  clear h
  go_enter Tryd.func11, Tryd.ntmps11
  go_wp2_with fail
  generalize hW : w.alloc _ = W
  obtain ⟨hbW, b0, -⟩ := boxes1 hW
  clear hW
  have lt0 := b0.lt
  have KS : Hid (∀ w', Below W.heap.size W w' → w'.cell? ⟨w.heap.size, 0, none⟩ = some (.slice A n c)) := fun w' h => (b0.below h lt0).cell
  clear b0 lt0
  have T0 := hT.below hbW
  refine (awake_any _ T0).mono ?_
  rintro e w1 ⟨rfl, D1⟩
  have T1 := T0.below D1
  obtain k1 := KS.out w1 D1
  go_wp2_with fail
  refine (few_no A n c A n c _ (fun h => HH.out h.1)).mono ?_
  rintro e w2 ⟨rfl, hx⟩
  have D2 := D1.trans (hx.mono D1.size)
  have T2 := T1.below hx
  clear hx k1
  go_wp2_with fail
  refine (awake_any _ T2).mono ?_
  rintro e w4 ⟨rfl, hx⟩
  have D4 := D2.trans (hx.mono D2.size)
  clear hx
  go_wp2
  have B := hbW.trans (D4.mono hbW.size)
  go_ret
  exact ⟨rfl, B⟩
end Go.Proofs.YthkgiobemfnpmaaDoor
