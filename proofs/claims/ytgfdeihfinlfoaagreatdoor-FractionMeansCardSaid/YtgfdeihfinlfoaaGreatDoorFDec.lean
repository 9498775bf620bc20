/- The contract of fraction.Decimal. -/
import Derived.Test.YtgfdeihfinlfoaaGreatDoorFRound
import Derived.Test.YtgfdeihfinlfoaaGreatDoorFTexts
import Derived.Test.YtgfdeihfinlfoaaGreatDoorBaseF
import Derived.Test.YtgfdeihfinlfoaaGreatDoorRepeat
import Derived.Lib.Repeat
namespace Go.Proofs.YtgfdeihfinlfoaaGreatDoor
open Go Go.RowKit

/-- zeros ahead, so that there are more than k digits -/
def dpad (k : Nat) (l : List Nat) : List Nat := List.replicate (k + 1 - l.length) 48 ++ l
/-- a point ahead of the last k digits -/
def dpoint (k : Nat) (l : List Nat) : List Nat := if k = 0 then l else l.take (l.length - k) ++ (46 :: l.drop (l.length - k))
/-- decimal notation -/
def dtext (p : Bool) (z k : Nat) : List Nat := if p = true ∧ z ≠ 0 then 45 :: dpoint k (dpad k (asc z)) else dpoint k (dpad k (asc z))
theorem repeatL_one (c : Nat) : (Lib.repeatL [48] c).map UInt8.toNat = List.replicate c 48 := by
  induction c with
  | zero => rfl
  | succ c ih =>
    show UInt8.toNat 48 :: (Lib.repeatL [48] c).map UInt8.toNat = _
    rw [ih]; rfl
theorem dpad_len (k : Nat) (l : List Nat) : k < (dpad k l).length := by
  unfold dpad
  rw [List.length_append, List.length_replicate]
  omega
theorem nd_size {T L : Nat} (h : T < B9 ^ (L + 2)) (hL : L ≤ 10000) : (asc T).length ≤ 1000000 := by
  have h1 := size_le h hL
  have h2 : (strN (asc T)).size = (asc T).length := by simp [strN, ByteArray.size]
  omega
theorem dec_point {k pt : Nat} {D : ByteArray} {l : List Nat} (hk : k ≠ 0) (hD : bytesOf D = l) (hs : D.size = pt + k) : bytesOf (D.extract 0 pt ++ ⟨#[46]⟩ ++ D.extract pt D.size) = dpoint k l := by
  have hl : l.length = pt + k := by rw [← hD, bytesOf_length, hs]
  rw [bytesOf_append, bytesOf_append, bytesOf_extract, bytesOf_extract, hD, ← bytesOf_length D, hD, List.take_length, List.drop_zero]
  unfold dpoint
  rw [if_neg hk, hl, Nat.add_sub_cancel, List.append_assoc]
  rfl
set_option maxHeartbeats 4000000 in
theorem fdecimal_any (L : Nat) (h1L : 1 ≤ L) (hL : L ≤ 5000) (p : Bool) (A : Option Addr) (n c u : Nat) (B : Option Addr) (m d v : Nat) (k : Nat) (hk : k ≤ 20) (w : World) (hA : Nt w L A n c u) (hB : Nt w L B m d v) (hTab : Tab w) (T : Nat) (hT : rnd u v k = T) (hTL : T < B9 ^ (L + 5)) (S : ByteArray) (hS : bytesOf S = dtext p T k) :
    Calls Tryz.prog 24 #[.agg #[.bool p, .slice A n c, .slice B m d], .int .i64 (k : Int)] w fun e w' => e = .returned (.tuple #[.string S, .int .i64 0]) ∧ Below w.heap.size w w' := by
  have HT := hide hT
  have HTL := hide hTL
  have HS := hide hS
  have HTab := hide hTab
  have d1 : decide ((k : Int) < 0) = false := by simp
  have d2 : decide ((20 : Int) < (k : Int)) = false := by simp; omega
  clear hT hTL hS
  go_enter Tryz.func24, Tryz.ntmps24
  go_wp2_with fail
  generalize hW : w.alloc _ = W
  obtain ⟨hbW, b0, -⟩ := boxesA1 hW
  clear hW
  refine (rounded_any L h1L hL p A n c u B m d v k hk _ (hA.below hbW) (hB.below hbW) T HT.out).mono fun e w1 h => ?_
  obtain ⟨A1, n1, c1, rfl, h1, hb1⟩ := GivesN.cn h
  clear h
  have hbA := hbW.trans (hb1.mono hbW.size)
  have b0 := b0.below' hb1
  clear hb1 hbW hA hB
  go_wp2_with fail
  generalize hW : w1.alloc _ = W1
  obtain ⟨hb, b6, -⟩ := boxesA1 hW
  clear hW
  have hbA := hbA.trans (hb.mono hbA.size)
  have b0 := b0.below' hb
  have h1 := h1.below hb
  clear hb
  have ln := len_le h1.1.len HTL.out
  obtain ⟨s, hs⟩ : ∃ s, strN (asc T) = s := ⟨_, rfl⟩
  have hsb : bytesOf s = asc T := by rw [← hs]; exact bytesOf_strN (asc_digits T).lt256
  have hsl : s.size ≤ 1000000 := by rw [← bytesOf_length, hsb]; exact nd_size (L := L + 3) HTL.out (by omega)
  have HSB := hide hsb
  have HSS := hide hs
  clear hs hsb
  refine (text_g A1 n1 c1 _ _ h1.1 h1.2.1 h1.2.2 (by omega) (dig_u32 T) (HTab.out.below hbA) T (vd T) s HSS.out).mono ?_
  rintro e w2 ⟨rfl, hb2⟩
  have hbA := hbA.trans (hb2.mono hbA.size)
  have b0 := b0.below' hb2
  have b6 := b6.below' hb2
  have h1 := h1.below hb2
  clear hb2
  by_cases hm : s.size < k + 1
  · obtain ⟨z, hz⟩ : ∃ z, k + 1 - s.size = z := ⟨_, rfl⟩
    have hzi : (k : Int) + 1 - (s.size : Int) = (z : Int) := by omega
    have d3 : decide (0 < (k : Int) + 1 - (s.size : Int)) = true := by simp; omega
    have hk0 : k ≠ 0 := by
      have h1 : 0 < s.size := by rw [← bytesOf_length, HSB.out]; exact asc_pos T
      omega
    have d4 : decide (0 < (k : Int)) = true := by simp; omega
    go_wp2_with fail
    refine (Tryz.strings_Repeat ⟨#[48]⟩ z _ (by omega) (by show 1 * z ≤ _; omega)).mono ?_
    rintro e w3 ⟨rfl, hb3⟩
    have hbA := hbA.trans (hb3.mono hbA.size)
    have b0 := b0.below' hb3
    have b6 := b6.below' hb3
    have h1 := h1.below hb3
    clear hb3 hzi d3
    generalize hq : (ByteArray.mk (Lib.repeatL _ z).toArray) = q
    have hqb : bytesOf q = List.replicate z 48 := by rw [← hq]; exact repeatL_one z
    have hql : q.size = z := by rw [← bytesOf_length, hqb, List.length_replicate]
    have hcs : q.size + s.size ≤ 2000000 := by omega
    have HQB := hide hqb
    have HZ := hide hz
    have HQL := hide hql
    clear hq hqb hz hql
    go_wp2_with fail
    obtain ⟨pt, hp⟩ : ∃ pt, q.size + s.size - k = pt := ⟨_, rfl⟩
    have hpt : (q.size : Int) + (s.size : Int) - (k : Int) = (pt : Int) := by have := HQL.out; have := HZ.out; omega
    rw [hpt]
    generalize hD : q ++ s = D
    have hDl : D.size = pt + k := by rw [← hD, ByteArray.size_append]; have := HQL.out; have := HZ.out; omega
    have hpl : pt ≤ D.size := by omega
    have HP := hide hp
    have HD := hide (show bytesOf D = dpad k (asc T) from by
      rw [← hD, bytesOf_append, HQB.out, HSB.out]
      unfold dpad
      rw [← HSB.out, bytesOf_length, HZ.out])
    have HDL := hide hDl
    have e1 : pt + 1 ≤ 3000000 := by omega
    have e2 : pt + 1 + (D.size - pt) ≤ 3000000 := by omega
    clear hp hpt hD hcs hDl
    go_region
    generalize hX : D.extract 0 pt ++ _ ++ D.extract pt D.size = X
    have hXb : bytesOf X = dpoint k (dpad k (asc T)) := by
      rw [← hX]
      exact dec_point hk0 HD.out HDL.out
    have hXl : X.size ≤ 9000000 := by
      rw [← hX, ByteArray.size_append, ByteArray.size_append]
      have h1 : (D.extract 0 pt).size ≤ D.size := by rw [ByteArray.size_extract]; omega
      have h2 : (D.extract pt D.size).size ≤ D.size := by rw [ByteArray.size_extract]; omega
      have h3 : ∀ b : UInt8, (⟨#[b]⟩ : ByteArray).size = 1 := fun _ => rfl
      have h4 := HDL.out
      rw [h3]
      omega
    have HX := hide hXb
    clear hX hXb e1 e2 hpl
    have k0 : w3.cell? ⟨w.heap.size, 0, none⟩ = some (.bool p) := b0.at_ 0
    have k6 : w3.cell? ⟨w1.heap.size, 0, none⟩ = some (.slice A1 n1 c1) := b6.at_ 0
    have f1 : 1 + X.size ≤ 9000001 := by omega
    cases p
    · obtain rfl : X = S := bytesOf_inj (by rw [HX.out, HS.out]; unfold dtext; rw [if_neg (by simp)])
      go_wp2_with fail
      refine bodyPost_ret (v := .tuple #[.string X, .int .i64 0]) (by simp [results, Tryz.results24, go_sem]) rfl ?_
      exact ⟨rfl, (by ((repeat (first | (with_reducible assumption) | (with_reducible exact Below.refl _ _) | (with_reducible refine Below.drewS ?_) | (with_reducible refine Below.allocS ?_ _) | (with_reducible refine Below.setS ?_ (by first | omega | (simp; omega)) _))); (first | done | fail)))⟩
    · go_wp2_with fail
      by_cases hT0 : T = 0
      · refine (isZero_any (L + 5) (by omega) A1 n1 c1 T _ (Cn.nt (Cn.below h1 (by ((repeat (first | (with_reducible assumption) | (with_reducible exact Below.refl _ _) | (with_reducible refine Below.drewS ?_) | (with_reducible refine Below.allocS ?_ _) | (with_reducible refine Below.setS ?_ (by first | omega | (simp; omega)) _))); (first | done | fail)))) HTL.out) true (by simp [hT0])).mono ?_
        rintro e w9 ⟨rfl, hb9⟩
        have hbZ := hbA.trans ((Below.next (by ((repeat (first | (with_reducible assumption) | (with_reducible exact Below.refl _ _) | (with_reducible refine Below.drewS ?_) | (with_reducible refine Below.allocS ?_ _) | (with_reducible refine Below.setS ?_ (by first | omega | (simp; omega)) _))); (first | done | fail))) hb9).mono hbA.size)
        obtain rfl : X = S := bytesOf_inj (by rw [HX.out, HS.out]; unfold dtext; rw [if_neg (by simp [hT0])])
        clear hb9 hT0 k0 k6
        go_wp2
        refine bodyPost_ret (v := .tuple #[.string X, .int .i64 0]) (by simp [results, Tryz.results24, go_sem]) rfl ?_
        exact ⟨rfl, hbZ⟩
      · refine (isZero_any (L + 5) (by omega) A1 n1 c1 T _ (Cn.nt (Cn.below h1 (by ((repeat (first | (with_reducible assumption) | (with_reducible exact Below.refl _ _) | (with_reducible refine Below.drewS ?_) | (with_reducible refine Below.allocS ?_ _) | (with_reducible refine Below.setS ?_ (by first | omega | (simp; omega)) _))); (first | done | fail)))) HTL.out) false (by simp [hT0])).mono ?_
        rintro e w9 ⟨rfl, hb9⟩
        have hbZ := hbA.trans ((Below.next (by ((repeat (first | (with_reducible assumption) | (with_reducible exact Below.refl _ _) | (with_reducible refine Below.drewS ?_) | (with_reducible refine Below.allocS ?_ _) | (with_reducible refine Below.setS ?_ (by first | omega | (simp; omega)) _))); (first | done | fail))) hb9).mono hbA.size)
        have hXS : (⟨#[45]⟩ : ByteArray) ++ X = S := bytesOf_inj (by
          rw [bytesOf_append, HX.out, HS.out]; unfold dtext; rw [if_pos ⟨rfl, hT0⟩]; rfl)
        have HXS := hide hXS
        clear hb9 hT0 k0 k6 hXS
        go_wp2
        refine bodyPost_ret (v := .tuple #[.string ((⟨#[45]⟩ : ByteArray) ++ X), .int .i64 0]) (by simp [results, Tryz.results24, go_sem]) rfl ?_
        exact ⟨congrArg (fun t => Ending.returned (.tuple #[.string t, .int .i64 0])) HXS.out, hbZ⟩
  · have hzi : decide (0 < (k : Int) + 1 - (s.size : Int)) = false := by simp; omega
    have hdp : dpad k (asc T) = asc T := by
      unfold dpad
      rw [show k + 1 - (asc T).length = 0 by rw [← HSB.out, bytesOf_length]; omega]
      rfl
    by_cases hk0 : k = 0
    · have d4 : decide (0 < (k : Int)) = false := by simp; omega
      have HX := hide (show bytesOf s = dpoint k (dpad k (asc T)) from by rw [hdp, HSB.out]; unfold dpoint; rw [if_pos hk0])
      clear hdp
      have k0 : w2.cell? ⟨w.heap.size, 0, none⟩ = some (.bool p) := b0.at_ 0
      have k6 : w2.cell? ⟨w1.heap.size, 0, none⟩ = some (.slice A1 n1 c1) := b6.at_ 0
      have f1 : 1 + s.size ≤ 9000001 := by omega
      cases p
      · obtain rfl : s = S := bytesOf_inj (by rw [HX.out, HS.out]; unfold dtext; rw [if_neg (by simp)])
        go_wp2_with fail
        refine bodyPost_ret (v := .tuple #[.string s, .int .i64 0]) (by simp [results, Tryz.results24, go_sem]) rfl ?_
        exact ⟨rfl, (by ((repeat (first | (with_reducible assumption) | (with_reducible exact Below.refl _ _) | (with_reducible refine Below.drewS ?_) | (with_reducible refine Below.allocS ?_ _) | (with_reducible refine Below.setS ?_ (by first | omega | (simp; omega)) _))); (first | done | fail)))⟩
      · go_wp2_with fail
        by_cases hT0 : T = 0
        · refine (isZero_any (L + 5) (by omega) A1 n1 c1 T _ (Cn.nt (Cn.below h1 (by ((repeat (first | (with_reducible assumption) | (with_reducible exact Below.refl _ _) | (with_reducible refine Below.drewS ?_) | (with_reducible refine Below.allocS ?_ _) | (with_reducible refine Below.setS ?_ (by first | omega | (simp; omega)) _))); (first | done | fail)))) HTL.out) true (by simp [hT0])).mono ?_
          rintro e w9 ⟨rfl, hb9⟩
          have hbZ := hbA.trans ((Below.next (by ((repeat (first | (with_reducible assumption) | (with_reducible exact Below.refl _ _) | (with_reducible refine Below.drewS ?_) | (with_reducible refine Below.allocS ?_ _) | (with_reducible refine Below.setS ?_ (by first | omega | (simp; omega)) _))); (first | done | fail))) hb9).mono hbA.size)
          obtain rfl : s = S := bytesOf_inj (by rw [HX.out, HS.out]; unfold dtext; rw [if_neg (by simp [hT0])])
          clear hb9 hT0 k0 k6
          go_wp2
          refine bodyPost_ret (v := .tuple #[.string s, .int .i64 0]) (by simp [results, Tryz.results24, go_sem]) rfl ?_
          exact ⟨rfl, hbZ⟩
        · refine (isZero_any (L + 5) (by omega) A1 n1 c1 T _ (Cn.nt (Cn.below h1 (by ((repeat (first | (with_reducible assumption) | (with_reducible exact Below.refl _ _) | (with_reducible refine Below.drewS ?_) | (with_reducible refine Below.allocS ?_ _) | (with_reducible refine Below.setS ?_ (by first | omega | (simp; omega)) _))); (first | done | fail)))) HTL.out) false (by simp [hT0])).mono ?_
          rintro e w9 ⟨rfl, hb9⟩
          have hbZ := hbA.trans ((Below.next (by ((repeat (first | (with_reducible assumption) | (with_reducible exact Below.refl _ _) | (with_reducible refine Below.drewS ?_) | (with_reducible refine Below.allocS ?_ _) | (with_reducible refine Below.setS ?_ (by first | omega | (simp; omega)) _))); (first | done | fail))) hb9).mono hbA.size)
          have hXS : (⟨#[45]⟩ : ByteArray) ++ s = S := bytesOf_inj (by
            rw [bytesOf_append, HX.out, HS.out]; unfold dtext; rw [if_pos ⟨rfl, hT0⟩]; rfl)
          have HXS := hide hXS
          clear hb9 hT0 k0 k6 hXS
          go_wp2
          refine bodyPost_ret (v := .tuple #[.string ((⟨#[45]⟩ : ByteArray) ++ s), .int .i64 0]) (by simp [results, Tryz.results24, go_sem]) rfl ?_
          exact ⟨congrArg (fun t => Ending.returned (.tuple #[.string t, .int .i64 0])) HXS.out, hbZ⟩
    · have d4 : decide (0 < (k : Int)) = true := by simp; omega
      go_wp2_with fail
      obtain ⟨pt, hp⟩ : ∃ pt, s.size - k = pt := ⟨_, rfl⟩
      have hpt : (s.size : Int) - (k : Int) = (pt : Int) := by omega
      rw [hpt]
      have hDl : s.size = pt + k := by omega
      have hpl : pt ≤ s.size := by omega
      have HD := hide (show bytesOf s = dpad k (asc T) from by rw [hdp]; exact HSB.out)
      have HDL := hide hDl
      have e1 : pt + 1 ≤ 3000000 := by omega
      have e2 : pt + 1 + (s.size - pt) ≤ 3000000 := by omega
      clear hp hpt hDl hdp
      go_region
      generalize hX : s.extract 0 pt ++ _ ++ s.extract pt s.size = X
      have hXb : bytesOf X = dpoint k (dpad k (asc T)) := by
        rw [← hX]
        exact dec_point hk0 HD.out HDL.out
      have hXl : X.size ≤ 9000000 := by
        rw [← hX, ByteArray.size_append, ByteArray.size_append]
        have h1 : (s.extract 0 pt).size ≤ s.size := by rw [ByteArray.size_extract]; omega
        have h2 : (s.extract pt s.size).size ≤ s.size := by rw [ByteArray.size_extract]; omega
        have h3 : ∀ b : UInt8, (⟨#[b]⟩ : ByteArray).size = 1 := fun _ => rfl
        have h4 := HDL.out
        rw [h3]
        omega
      have HX := hide hXb
      clear hX hXb e1 e2 hpl
      have k0 : w2.cell? ⟨w.heap.size, 0, none⟩ = some (.bool p) := b0.at_ 0
      have k6 : w2.cell? ⟨w1.heap.size, 0, none⟩ = some (.slice A1 n1 c1) := b6.at_ 0
      have f1 : 1 + X.size ≤ 9000001 := by omega
      cases p
      · obtain rfl : X = S := bytesOf_inj (by rw [HX.out, HS.out]; unfold dtext; rw [if_neg (by simp)])
        go_wp2_with fail
        refine bodyPost_ret (v := .tuple #[.string X, .int .i64 0]) (by simp [results, Tryz.results24, go_sem]) rfl ?_
        exact ⟨rfl, (by ((repeat (first | (with_reducible assumption) | (with_reducible exact Below.refl _ _) | (with_reducible refine Below.drewS ?_) | (with_reducible refine Below.allocS ?_ _) | (with_reducible refine Below.setS ?_ (by first | omega | (simp; omega)) _))); (first | done | fail)))⟩
      · go_wp2_with fail
        by_cases hT0 : T = 0
        · refine (isZero_any (L + 5) (by omega) A1 n1 c1 T _ (Cn.nt (Cn.below h1 (by ((repeat (first | (with_reducible assumption) | (with_reducible exact Below.refl _ _) | (with_reducible refine Below.drewS ?_) | (with_reducible refine Below.allocS ?_ _) | (with_reducible refine Below.setS ?_ (by first | omega | (simp; omega)) _))); (first | done | fail)))) HTL.out) true (by simp [hT0])).mono ?_
          rintro e w9 ⟨rfl, hb9⟩
          have hbZ := hbA.trans ((Below.next (by ((repeat (first | (with_reducible assumption) | (with_reducible exact Below.refl _ _) | (with_reducible refine Below.drewS ?_) | (with_reducible refine Below.allocS ?_ _) | (with_reducible refine Below.setS ?_ (by first | omega | (simp; omega)) _))); (first | done | fail))) hb9).mono hbA.size)
          obtain rfl : X = S := bytesOf_inj (by rw [HX.out, HS.out]; unfold dtext; rw [if_neg (by simp [hT0])])
          clear hb9 hT0 k0 k6
          go_wp2
          refine bodyPost_ret (v := .tuple #[.string X, .int .i64 0]) (by simp [results, Tryz.results24, go_sem]) rfl ?_
          exact ⟨rfl, hbZ⟩
        · refine (isZero_any (L + 5) (by omega) A1 n1 c1 T _ (Cn.nt (Cn.below h1 (by ((repeat (first | (with_reducible assumption) | (with_reducible exact Below.refl _ _) | (with_reducible refine Below.drewS ?_) | (with_reducible refine Below.allocS ?_ _) | (with_reducible refine Below.setS ?_ (by first | omega | (simp; omega)) _))); (first | done | fail)))) HTL.out) false (by simp [hT0])).mono ?_
          rintro e w9 ⟨rfl, hb9⟩
          have hbZ := hbA.trans ((Below.next (by ((repeat (first | (with_reducible assumption) | (with_reducible exact Below.refl _ _) | (with_reducible refine Below.drewS ?_) | (with_reducible refine Below.allocS ?_ _) | (with_reducible refine Below.setS ?_ (by first | omega | (simp; omega)) _))); (first | done | fail))) hb9).mono hbA.size)
          have hXS : (⟨#[45]⟩ : ByteArray) ++ X = S := bytesOf_inj (by
            rw [bytesOf_append, HX.out, HS.out]; unfold dtext; rw [if_pos ⟨rfl, hT0⟩]; rfl)
          have HXS := hide hXS
          clear hb9 hT0 k0 k6 hXS
          go_wp2
          refine bodyPost_ret (v := .tuple #[.string ((⟨#[45]⟩ : ByteArray) ++ X), .int .i64 0]) (by simp [results, Tryz.results24, go_sem]) rfl ?_
          exact ⟨congrArg (fun t => Ending.returned (.tuple #[.string t, .int .i64 0])) HXS.out, hbZ⟩
end Go.Proofs.YtgfdeihfinlfoaaGreatDoor
