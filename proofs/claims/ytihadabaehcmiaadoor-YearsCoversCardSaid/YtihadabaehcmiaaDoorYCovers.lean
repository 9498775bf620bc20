/- The body of YearsCovers. -/
import Derived.Test.YtihadabaehcmiaaDoorYRCov2
namespace Go.Proofs.YtihadabaehcmiaaDoor
open Go Go.RowKit

theorem bad_perm {xs ys : List (Int × Int)} (h : xs.Perm ys) : badY xs = badY ys := by
  unfold badY
  rw [Bool.eq_iff_iff, List.any_eq_true, List.any_eq_true]
  exact ⟨fun ⟨y, hy, k⟩ => ⟨y, h.mem_iff.1 hy, k⟩, fun ⟨y, hy, k⟩ => ⟨y, h.mem_iff.2 hy, k⟩⟩
/-- what holds at the head of a round: the years from k on, the last first -/
def BackIn (w4 : World) (ys : List (Int × Int)) (v i : Value) (wr : World) : Prop :=
  ∃ k : Nat, k ≤ ys.length ∧ ((k = 0 ∧ i = .int .i64 (-1)) ∨ ∃ j : Nat, k = j + 1 ∧ i = .int .i64 j) ∧ OwnY wr w4.heap.size v (ys.drop k).reverse ∧ Below w4.heap.size w4 wr
theorem back_step {w4 : World} {ys : List (Int × Int)} {j m : Nat} {v v' : Value} {y : Int × Int} {wr W' w5 : World} {i : Value} (hj : ys[j]? = some y) (hB : Below w4.heap.size w4 wr) (hB' : Below wr.heap.size wr W') (hm : m = ((ys.drop (j + 1)).reverse).length + 1)
    (hv : OwnY wr w4.heap.size v (ys.drop (j + 1)).reverse) (ho : w5.ownsRow w4.heap.size 23 2 v' m (flatY (ys.drop (j + 1)).reverse ++ encY y)) (hgr : W'.grownBy w5 v.ownBlock) (hi : (j = 0 ∧ i = .int .i64 (-1)) ∨ ∃ q : Nat, j = q + 1 ∧ i = .int .i64 q) : BackIn w4 ys v' i w5 := by
  subst hm
  have hl := (List.getElem?_eq_some_iff.1 hj).1
  have hd : (ys.drop j).reverse = (ys.drop (j + 1)).reverse ++ [y] := by
    obtain ⟨h1, h2⟩ := List.getElem?_eq_some_iff.1 hj
    rw [List.drop_eq_getElem_cons h1, h2, List.reverse_cons]
  refine ⟨j, by omega, hi, ?_, ?_⟩
  · rw [hd]
    unfold OwnY
    rw [flatY_app, List.length_append]
    exact ho
  · have hBW := hB.trans (hB'.mono hB.size)
    have hlt := World.ownsRow.lt hv
    generalize v.ownBlock = b at hgr hlt
    rcases b with _ | g
    · exact hBW.trans ⟨hgr.os, hgr.tape, hgr.output, hgr.size, fun i hi => hgr.block i (Nat.lt_of_lt_of_le hi hBW.size) (by simp)⟩
    · exact below_only hBW hgr hBW.size (hlt g rfl).1
theorem i_step (j : Nat) : ∃ i : Int, ((j : Int) - 1 = i) ∧ ((j = 0 ∧ i = -1) ∨ ∃ q : Nat, j = q + 1 ∧ i = q) := by
  rcases j with _ | q
  · exact ⟨-1, by omega, Or.inl ⟨rfl, rfl⟩⟩
  · exact ⟨q, by omega, Or.inr ⟨q, rfl, rfl⟩⟩
set_option maxHeartbeats 2000000 in
theorem covers_big (A : Option Addr) (n c : Nat) (w : World) (hT : Lw w) (hn : n ≤ maxLen) (h : 80 < n) :
    Calls Tryd.prog 10 #[.slice A n c] w fun e w' => e = .returned (.bool true) ∧ Below w.heap.size w w' := by
  unfold maxLen at hn
  have HT := hide hT
  have d64 : decide ((80 : Int) < (n : Int)) = true := decide_eq_true (by omega)
  clear hT
  go_enter Tryd.func10, Tryd.ntmps10
  go_wp2_with fail
  refine (awake_yes _ HT.out).mono ?_
  rintro e w1 ⟨rfl, hb⟩
  have B := hb
  go_wp2_with fail
  refine (awake_yes _ (HT.out.below B)).mono ?_
  rintro e w2 ⟨rfl, hb⟩
  go_wp2_with fail
  go_ret
  exact ⟨rfl, B.trans (hb.mono B.size)⟩
set_option maxHeartbeats 4000000 in
set_option maxRecDepth 100000 in
theorem covers_small (A : Option Addr) (n c : Nat) (ys : List (Int × Int)) (w : World) (hT : Lw w) (hr : YL w A n ys) (hn : n ≤ 80) :
    Calls Tryd.prog 10 #[.slice A n c] w fun e w' => e = .returned (.bool true) ∧ Below w.heap.size w w' := by
  have HT := hide hT
  have HR := hide hr
  have d64 : decide ((80 : Int) < (n : Int)) = false := decide_eq_false (by omega)
  obtain rfl : ys.length = n := hr.1
  clear hT hr
  go_enter Tryd.func10, Tryd.ntmps10
  go_wp2_with fail
  refine (awake_yes _ HT.out).mono ?_
  rintro e w1 ⟨rfl, hb⟩
  have HR1 := hide (HR.out.keep hb)
  have B := hb
  clear hb
  go_wp2_with fail
  refine (cover_any _ _ _ _ _ HR1.out (by unfold maxLen; omega)).mono ?_
  rintro e w2 ⟨X1, n1, c1, cov, er, rfl, hy1, hm1, hb, hq1⟩
  have HR2 := hide (HR1.out.keep hb)
  replace B := B.trans (hb.mono B.size)
  have HY1 := hide hy1
  have HM1 := hide hm1
  have HQ1 := hide hq1
  clear hb hy1 hm1 hq1
  go_wp2_with fail
  refine (rcover_any _ _ _ _ _ HR2.out (by unfold maxLen; omega)).mono ?_
  rintro e w3 ⟨X2, n2, c2, cov2, er2, rfl, hy2, hm2, hb, hq2⟩
  have HR3 := hide (HR2.out.keep hb)
  have HY1b := hide (HY1.out.keep hb)
  replace B := B.trans (hb.mono B.size)
  have HY2 := hide hy2
  have HM2 := hide hm2
  obtain ⟨rfl, rfl⟩ : er2 = er ∧ cov2 = cov := by
    rcases HQ1.out with ⟨h1, h2, h3⟩ | ⟨h1, h2, h3, h4⟩ | ⟨h1, h2, h3, h4, _⟩ <;> rcases hq2 with ⟨g1, g2, g3⟩ | ⟨g1, g2, g3, g4⟩ | ⟨g1, g2, g3, g4, g5⟩
    · exact ⟨by rw [g2, h2], by rw [g3, h3]⟩
    · omega
    · omega
    · omega
    · exact ⟨by rw [g3, h3], by rw [g4, h4]⟩
    · rw [h2] at g2; cases g2
    · omega
    · rw [h2] at g2; cases g2
    · exact ⟨by rw [g3, h3], sep_uniq _ _ g4 h4.sep fun m => (g5 m).trans (h4.on m).symm⟩
  clear hb hy2 hm2 hq2
  go_wp2_with fail
  refine (lists_v _ _ _ _ _ _ _ _ _ HY1b.out HY2.out HM1.out HM2.out true (by simp)).mono ?_
  rintro e w4 ⟨rfl, hb⟩
  have HR4 := hide (HR3.out.keep hb)
  have HY4 := hide (HY1b.out.keep hb)
  replace B := B.trans (hb.mono B.size)
  clear hb
  obtain ⟨i0, hi, hz0, hz1, hz2⟩ := info_parts infoY
  have Hz0 := hide hz0
  have Hz1 := hide hz1
  have Hz2 := hide hz2
  have Hi := hide hi
  clear hz0 hz1 hz2 hi
  obtain ⟨i1, hi1, hi2⟩ := i_step ys.length
  have HI2 := hide hi2
  clear hi2
  go_wp2_with fail
  go_loopw [7, 8] (fun v i wr => BackIn w4 ys v i wr) (fun _ i _ => (intOf i + 1).toNat)
  case atStart =>
    refine ⟨ys.length, Nat.le_refl _, ?_, ?_, Below.refl _ _⟩
    · rcases HI2.out with ⟨a, b⟩ | ⟨q, a, b⟩
      · exact Or.inl ⟨a, by rw [← b]⟩
      · exact Or.inr ⟨q, a, by rw [← b]⟩
    · rw [List.drop_length]
      exact World.ownsRow_nil _ _ _ _
  case round =>
    obtain ⟨k, hk, hi, ho, hB⟩ := hrel
    have HO := hide ho
    have HB := hide hB
    have hBs := hB.size
    clear ho hB
    rcases hi with ⟨rfl, rfl⟩ | ⟨j, rfl, rfl⟩
    · have ho2 := HO.out
      rw [List.drop_zero] at ho2
      obtain ⟨X3, c3, e3, hl1, hl2, hy3⟩ := own_yl ho2
      rw [List.length_reverse] at e3 hl1 hy3
      subst e3
      have HY3 := hide hy3
      have HY1r := hide (HY4.out.keep HB.out)
      have Br := B.trans (HB.out.mono B.size)
      have hn3 : ys.length ≤ maxLen := Nat.le_trans hl1 hl2
      clear hy3 ho2 hl1 hl2
      go_wp2_with fail
      refine (cover_any _ _ _ _ _ HY3.out hn3).mono ?_
      rintro e w5 ⟨X5, n5, c5, cov5, er5, rfl, hy5, hm5, hb, hq5⟩
      have hp : ys.reverse.Perm ys := List.reverse_perm ys
      have hbp := bad_perm hp
      obtain ⟨rfl, rfl⟩ : er5 = er2 ∧ cov5 = cov2 := by
        have hl : ys.reverse.length = ys.length := List.length_reverse
        rcases HQ1.out with ⟨h1, h2, h3⟩ | ⟨h1, h2, h3, h4⟩ | ⟨h1, h2, h3, h4, _⟩ <;> rcases hq5 with ⟨g1, g2, g3⟩ | ⟨g1, g2, g3, g4⟩ | ⟨g1, g2, g3, g4, _⟩
        · exact ⟨by rw [g2, h2], by rw [g3, h3]⟩
        · omega
        · omega
        · omega
        · exact ⟨by rw [g3, h3], by rw [g4, h4]⟩
        · rw [hbp, h2] at g2; cases g2
        · omega
        · rw [hbp, h2] at g2; cases g2
        · exact ⟨by rw [g3, h3], sep_uniq _ _ g4.sep h4.sep fun m => ((g4.on m).trans (on_perm hp m)).trans (h4.on m).symm⟩
      have HY5 := hide hy5
      have HM5 := hide hm5
      have HY6 := hide (HY1r.out.keep hb)
      have B5 := Br.trans (hb.mono Br.size)
      clear hb hy5 hm5 hq5 hp hbp
      go_wp2_with fail
      refine (lists_v _ _ _ _ _ _ _ _ _ HY5.out HY6.out HM5.out HM1.out true (by simp)).mono ?_
      rintro e w6 ⟨rfl, hb⟩
      go_wp2_with fail
      go_ret
      exact ⟨rfl, B5.trans (hb.mono B5.size)⟩
    · obtain ⟨b, o, y, rfl, hbl, h1, q1, q2⟩ := (HR4.out.keep HB.out).at_ (j := j) (by omega)
      have G := hide h1
      obtain ⟨i2, hi3, hi4⟩ := i_step j
      have HI4 := hide hi4
      have hln : ((ys.drop (j + 1)).reverse).length ≤ 80 := by simp; omega
      have HO2 := hide (show wr.ownsRow w4.heap.size 23 2 _ ((ys.drop (j + 1)).reverse).length (flatY (ys.drop (j + 1)).reverse) from HO.out)
      have hjn : j < ys.length := by omega
      clear h1 hi4 hbl hk
      generalize hbk : (ys.drop (j + 1)).reverse = bk at *
      have HBK := hide hbk
      clear hbk
      go_wp2_with (at_builtin; refine wpList_append_own _ rfl _ _ 42 rfl w4.heap.size 23 i0 _ 2 16 Tryd.underlying42 Hi.out Hz0.out Hz1.out Hz2.out rfl (by decide) _ bk.length (flatY bk) rfl (own_keep HO2.out ((Below.refl _ _).alloc (Nat.le_refl _) _)) _ 1 1 (encY y) rfl rfl ?c1 ?c2 ?c3 ?c4 ?c5 ?_)
      case c1 => exact enc_new y rfl rfl
      case c2 => exact enc_one _
      case c3 => unfold maxLen; omega
      case c4 => omega
      case c5 => simp; omega
      intro v' w5 ho5 hgr5 _
      go_wp2_with fail
      go_roundw
      case rel => exact back_step G.out HB.out ((Below.refl _ _).alloc (Nat.le_refl _) _) (by rw [HBK.out]) (by rw [HBK.out]; exact HO.out) (by rw [HBK.out]; exact ho5) hgr5 (by rcases HI4.out with ⟨a, b⟩ | ⟨q, a, b⟩; (exact Or.inl ⟨a, by rw [← b, ← hi3]⟩); (exact Or.inr ⟨q, a, by rw [← b, ← hi3]⟩))
      case measure => simp [intOf]; omega
theorem covers_all (A : Option Addr) (n c : Nat) (ys : List (Int × Int)) (w : World) (hT : Lw w) (hr : YL w A n ys) (hn : n ≤ maxLen) :
    Calls Tryd.prog 10 #[.slice A n c] w fun e w' => e = .returned (.bool true) ∧ Below w.heap.size w w' := by
  by_cases h : 80 < n
  · exact covers_big A n c w hT hn h
  · exact covers_small A n c ys w hT hr (by omega)
end Go.Proofs.YtihadabaehcmiaaDoor
