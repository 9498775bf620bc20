/- The body of LabelTexts. -/
import Derived.Test.YtdoknlodnpeeoaaDoorLBCmp
namespace Go.Proofs.YtdoknlodnpeeoaaDoor
open Go Go.RowKit Go.Lib

theorem labT_size1000 (a b c : Int) : (labT a b c).size ≤ 1000 := Nat.le_trans (labT_size a b c) (by decide)
theorem parR_text (a b c : Int) : parR (labT a b c).data.toList = if lB a b c = true then (a, b, c, 0) else (0, 0, 0, 3) := by
  rcases h : lB a b c with _ | _
  · rw [labT_false h]; rfl
  · rw [if_pos rfl]
    have e : labT a b c = strB (labL a b c) := by unfold labT; rw [if_pos h]
    rw [e, data_strB]
    unfold parR
    rw [parL_some.2 ⟨h, rfl⟩]
set_option maxRecDepth 100000 in
set_option maxHeartbeats 16000000 in
theorem txt_y (a b c : Int) (w : World) (hT : Lw w) (h : lB a b c = true) :
    Calls Tryd.prog 3 #[.agg #[.int .i64 a, .int .i64 b, .int .i64 c]] w fun e w' => e = .returned (.bool true) ∧ Below w.heap.size w w' := by
  have HT := hide hT
  have H1 := hide h
  obtain ⟨S, hS⟩ : ∃ S, labT a b c = S := ⟨_, rfl⟩
  have HS := hide hS
  have HP := hide (show parR S.data.toList = (a, b, c, 0) from by rw [← hS, parR_text, h]; rfl)
  have HZ := hide (show S.size ≤ 1000 from by rw [← hS]; exact labT_size1000 a b c)
  clear h hS
  clear hT
  go_enter Tryd.func3, Tryd.ntmps3
  go_wp2_with fail
  generalize hW : w.alloc _ = W0
  obtain ⟨B, ba, -⟩ := boxC hW
  clear hW
  have lba := ba.lt
  have zba0 : W0.cell? ⟨w.heap.size, 0, none⟩ = some (.int .i64 a) := ba.at_ 0
  have zba1 : W0.cell? ⟨w.heap.size, 1, none⟩ = some (.int .i64 b) := ba.at_ 1
  have zba2 : W0.cell? ⟨w.heap.size, 2, none⟩ = some (.int .i64 c) := ba.at_ 2
  go_wp2_with fail
  refine (awake_yes _ (HT.out.below B)).mono ?_
  rintro e w1 ⟨rfl, hb⟩
  clear zba0 zba1 zba2
  replace B := B.trans (hb.mono B.size)
  replace ba := ba.below' hb
  clear hb
  have lba := ba.lt
  have zba0 : w1.cell? ⟨w.heap.size, 0, none⟩ = some (.int .i64 a) := ba.at_ 0
  have zba1 : w1.cell? ⟨w.heap.size, 1, none⟩ = some (.int .i64 b) := ba.at_ 1
  have zba2 : w1.cell? ⟨w.heap.size, 2, none⟩ = some (.int .i64 c) := ba.at_ 2
  go_wp2_with fail
  refine (text_any a b c _ (HT.out.below B) S HS.out).mono ?_
  rintro e w2 ⟨rfl, hb⟩
  clear zba0 zba1 zba2
  replace B := B.trans (hb.mono B.size)
  replace ba := ba.below' hb
  clear hb
  have lba := ba.lt
  have zba0 : w2.cell? ⟨w.heap.size, 0, none⟩ = some (.int .i64 a) := ba.at_ 0
  have zba1 : w2.cell? ⟨w.heap.size, 1, none⟩ = some (.int .i64 b) := ba.at_ 1
  have zba2 : w2.cell? ⟨w.heap.size, 2, none⟩ = some (.int .i64 c) := ba.at_ 2
  clear zba0 zba1 zba2
  have KS : Hid (∀ w', Below w2.heap.size w2 w' → w'.cell? ⟨w.heap.size, 0, none⟩ = some (.int .i64 a) ∧ w'.cell? ⟨w.heap.size, 1, none⟩ = some (.int .i64 b) ∧ w'.cell? ⟨w.heap.size, 2, none⟩ = some (.int .i64 c)) := fun w' h => ⟨(ba.below h lba).at_ 0, (ba.below h lba).at_ 1, (ba.below h lba).at_ 2⟩
  have KT : Hid (∀ w', Below w2.heap.size w2 w' → Lw w') := fun w' h => HT.out.below (B.trans (h.mono B.size))
  obtain ⟨k0, k1, k2⟩ := KS.out _ (Below.refl _ _)
  go_wp2_with fail
  skip
  go_region_held3 (fun w' => w'.cell? ⟨w.heap.size, 0, none⟩ = some (.int .i64 a) ∧ w'.cell? ⟨w.heap.size, 1, none⟩ = some (.int .i64 b) ∧ w'.cell? ⟨w.heap.size, 2, none⟩ = some (.int .i64 c))
    (exact KS.out _ (by ((repeat (first | (with_reducible assumption) | (with_reducible exact Below.refl _ _) | (with_reducible refine Below.drewS ?_) | (with_reducible refine Below.allocS ?_ _) | (with_reducible refine Below.setS ?_ (by first | omega | (simp; omega)) _))); (first | done | fail))))
    (first
      | (go_at_call 13; (with_reducible refine (valid_any a b c _ true H1.out).mono ?_); rintro e wa ⟨rfl, hbwa⟩; have Ewa : Below w2.heap.size w2 wa := Below.next (by ((repeat (first | (with_reducible assumption) | (with_reducible exact Below.refl _ _) | (with_reducible refine Below.drewS ?_) | (with_reducible refine Below.allocS ?_ _) | (with_reducible refine Below.setS ?_ (by first | omega | (simp; omega)) _))); (first | done | fail))) hbwa)
      | (go_at_call 14; (with_reducible refine (rvalid_any a b c _ true H1.out).mono ?_); rintro e wb ⟨rfl, hbwb⟩; have Ewb : Below w2.heap.size w2 wb := Below.next (by ((repeat (first | (with_reducible assumption) | (with_reducible exact Below.refl _ _) | (with_reducible refine Below.drewS ?_) | (with_reducible refine Below.allocS ?_ _) | (with_reducible refine Below.setS ?_ (by first | omega | (simp; omega)) _))); (first | done | fail))) hbwb)
      | (go_at_call 15; (with_reducible refine (rtext5_any a b c _ (KT.out _ (by ((repeat (first | (with_reducible assumption) | (with_reducible exact Below.refl _ _) | (with_reducible refine Below.drewS ?_) | (with_reducible refine Below.allocS ?_ _) | (with_reducible refine Below.setS ?_ (by first | omega | (simp; omega)) _))); (first | done | fail)))) S HS.out).mono ?_); rintro e wc ⟨rfl, hbwc⟩; have Ewc : Below w2.heap.size w2 wc := Below.next (by ((repeat (first | (with_reducible assumption) | (with_reducible exact Below.refl _ _) | (with_reducible refine Below.drewS ?_) | (with_reducible refine Below.allocS ?_ _) | (with_reducible refine Below.setS ?_ (by first | omega | (simp; omega)) _))); (first | done | fail))) hbwc))
  all_goals
    clear k0 k1 k2
    replace B := B.trans (Ewc.mono B.size)
    replace ba := ba.below' Ewc
    clear KS KT Ewa Ewb Ewc hbwa hbwb hbwc
    have lba := ba.lt
    have zba0 : wc.cell? ⟨w.heap.size, 0, none⟩ = some (.int .i64 a) := ba.at_ 0
    have zba1 : wc.cell? ⟨w.heap.size, 1, none⟩ = some (.int .i64 b) := ba.at_ 1
    have zba2 : wc.cell? ⟨w.heap.size, 2, none⟩ = some (.int .i64 c) := ba.at_ 2
    go_wp2_with fail
    refine (parse_any S _ (HT.out.below B) HZ.out a b c 0 HP.out).mono ?_
    rintro e w3 ⟨rfl, hb⟩
    clear zba0 zba1 zba2
    replace B := B.trans (hb.mono B.size)
    replace ba := ba.below' hb
    clear hb
    have lba := ba.lt
    have zba0 : w3.cell? ⟨w.heap.size, 0, none⟩ = some (.int .i64 a) := ba.at_ 0
    have zba1 : w3.cell? ⟨w.heap.size, 1, none⟩ = some (.int .i64 b) := ba.at_ 1
    have zba2 : w3.cell? ⟨w.heap.size, 2, none⟩ = some (.int .i64 c) := ba.at_ 2
    go_wp2_with fail
    generalize hW : w3.alloc _ = W8
    obtain ⟨hb, bx, -⟩ := boxC hW
    clear hW
    clear zba0 zba1 zba2
    replace B := B.trans (hb.mono B.size)
    replace ba := ba.below' hb
    clear hb
    generalize w3.heap.size = g8 at *
    have lba := ba.lt
    have zba0 : W8.cell? ⟨w.heap.size, 0, none⟩ = some (.int .i64 a) := ba.at_ 0
    have zba1 : W8.cell? ⟨w.heap.size, 1, none⟩ = some (.int .i64 b) := ba.at_ 1
    have zba2 : W8.cell? ⟨w.heap.size, 2, none⟩ = some (.int .i64 c) := ba.at_ 2
    have lbx := bx.lt
    have zbx0 : W8.cell? ⟨g8, 0, none⟩ = some (.int .i64 a) := bx.at_ 0
    have zbx1 : W8.cell? ⟨g8, 1, none⟩ = some (.int .i64 b) := bx.at_ 1
    have zbx2 : W8.cell? ⟨g8, 2, none⟩ = some (.int .i64 c) := bx.at_ 2
    go_wp2_with fail
    refine (rvalid_any a b c _ true H1.out).mono ?_
    rintro e w4 ⟨rfl, hb⟩
    clear zba0 zba1 zba2 zbx0 zbx1 zbx2
    replace B := B.trans (hb.mono B.size)
    replace ba := ba.below' hb
    replace bx := bx.below' hb
    clear hb
    have lba := ba.lt
    have zba0 : w4.cell? ⟨w.heap.size, 0, none⟩ = some (.int .i64 a) := ba.at_ 0
    have zba1 : w4.cell? ⟨w.heap.size, 1, none⟩ = some (.int .i64 b) := ba.at_ 1
    have zba2 : w4.cell? ⟨w.heap.size, 2, none⟩ = some (.int .i64 c) := ba.at_ 2
    have lbx := bx.lt
    have zbx0 : w4.cell? ⟨g8, 0, none⟩ = some (.int .i64 a) := bx.at_ 0
    have zbx1 : w4.cell? ⟨g8, 1, none⟩ = some (.int .i64 b) := bx.at_ 1
    have zbx2 : w4.cell? ⟨g8, 2, none⟩ = some (.int .i64 c) := bx.at_ 2
    go_wp2_with fail
    go_ret
    exact ⟨rfl, B⟩
set_option maxRecDepth 100000 in
set_option maxHeartbeats 16000000 in
theorem txt_n (a b c : Int) (w : World) (hT : Lw w) (h : lB a b c = false) :
    Calls Tryd.prog 3 #[.agg #[.int .i64 a, .int .i64 b, .int .i64 c]] w fun e w' => e = .returned (.bool true) ∧ Below w.heap.size w w' := by
  have HT := hide hT
  have H1 := hide h
  obtain ⟨S, hS⟩ : ∃ S, labT a b c = S := ⟨_, rfl⟩
  have HS := hide hS
  have HP := hide (show parR S.data.toList = (0, 0, 0, 3) from by rw [← hS, parR_text, h]; rfl)
  have HZ := hide (show S.size ≤ 1000 from by rw [← hS]; exact labT_size1000 a b c)
  have hz : (S.toList == []) = true := by rw [← hS, labT_false h, Lib.toList_data]; rfl
  clear h hS
  clear hT
  go_enter Tryd.func3, Tryd.ntmps3
  go_wp2_with fail
  generalize hW : w.alloc _ = W0
  obtain ⟨B, ba, -⟩ := boxC hW
  clear hW
  have lba := ba.lt
  have zba0 : W0.cell? ⟨w.heap.size, 0, none⟩ = some (.int .i64 a) := ba.at_ 0
  have zba1 : W0.cell? ⟨w.heap.size, 1, none⟩ = some (.int .i64 b) := ba.at_ 1
  have zba2 : W0.cell? ⟨w.heap.size, 2, none⟩ = some (.int .i64 c) := ba.at_ 2
  go_wp2_with fail
  refine (awake_yes _ (HT.out.below B)).mono ?_
  rintro e w1 ⟨rfl, hb⟩
  clear zba0 zba1 zba2
  replace B := B.trans (hb.mono B.size)
  replace ba := ba.below' hb
  clear hb
  have lba := ba.lt
  have zba0 : w1.cell? ⟨w.heap.size, 0, none⟩ = some (.int .i64 a) := ba.at_ 0
  have zba1 : w1.cell? ⟨w.heap.size, 1, none⟩ = some (.int .i64 b) := ba.at_ 1
  have zba2 : w1.cell? ⟨w.heap.size, 2, none⟩ = some (.int .i64 c) := ba.at_ 2
  go_wp2_with fail
  refine (text_any a b c _ (HT.out.below B) S HS.out).mono ?_
  rintro e w2 ⟨rfl, hb⟩
  clear zba0 zba1 zba2
  replace B := B.trans (hb.mono B.size)
  replace ba := ba.below' hb
  clear hb
  have lba := ba.lt
  have zba0 : w2.cell? ⟨w.heap.size, 0, none⟩ = some (.int .i64 a) := ba.at_ 0
  have zba1 : w2.cell? ⟨w.heap.size, 1, none⟩ = some (.int .i64 b) := ba.at_ 1
  have zba2 : w2.cell? ⟨w.heap.size, 2, none⟩ = some (.int .i64 c) := ba.at_ 2
  clear zba0 zba1 zba2
  have KS : Hid (∀ w', Below w2.heap.size w2 w' → w'.cell? ⟨w.heap.size, 0, none⟩ = some (.int .i64 a) ∧ w'.cell? ⟨w.heap.size, 1, none⟩ = some (.int .i64 b) ∧ w'.cell? ⟨w.heap.size, 2, none⟩ = some (.int .i64 c)) := fun w' h => ⟨(ba.below h lba).at_ 0, (ba.below h lba).at_ 1, (ba.below h lba).at_ 2⟩
  have KT : Hid (∀ w', Below w2.heap.size w2 w' → Lw w') := fun w' h => HT.out.below (B.trans (h.mono B.size))
  obtain ⟨k0, k1, k2⟩ := KS.out _ (Below.refl _ _)
  go_wp2_with fail
  skip
  go_region_held3 (fun w' => w'.cell? ⟨w.heap.size, 0, none⟩ = some (.int .i64 a) ∧ w'.cell? ⟨w.heap.size, 1, none⟩ = some (.int .i64 b) ∧ w'.cell? ⟨w.heap.size, 2, none⟩ = some (.int .i64 c))
    (exact KS.out _ (by ((repeat (first | (with_reducible assumption) | (with_reducible exact Below.refl _ _) | (with_reducible refine Below.drewS ?_) | (with_reducible refine Below.allocS ?_ _) | (with_reducible refine Below.setS ?_ (by first | omega | (simp; omega)) _))); (first | done | fail))))
    (first
      | (go_at_call 13; (with_reducible refine (valid_any a b c _ false H1.out).mono ?_); rintro e wa ⟨rfl, hbwa⟩; have Ewa : Below w2.heap.size w2 wa := Below.next (by ((repeat (first | (with_reducible assumption) | (with_reducible exact Below.refl _ _) | (with_reducible refine Below.drewS ?_) | (with_reducible refine Below.allocS ?_ _) | (with_reducible refine Below.setS ?_ (by first | omega | (simp; omega)) _))); (first | done | fail))) hbwa)
      | (go_at_call 14; (with_reducible refine (rvalid_any a b c _ false H1.out).mono ?_); rintro e wb ⟨rfl, hbwb⟩; have Ewb : Below w2.heap.size w2 wb := Below.next (by ((repeat (first | (with_reducible assumption) | (with_reducible exact Below.refl _ _) | (with_reducible refine Below.drewS ?_) | (with_reducible refine Below.allocS ?_ _) | (with_reducible refine Below.setS ?_ (by first | omega | (simp; omega)) _))); (first | done | fail))) hbwb)
      | (go_at_call 15; (with_reducible refine (rtext5_any a b c _ (KT.out _ (by ((repeat (first | (with_reducible assumption) | (with_reducible exact Below.refl _ _) | (with_reducible refine Below.drewS ?_) | (with_reducible refine Below.allocS ?_ _) | (with_reducible refine Below.setS ?_ (by first | omega | (simp; omega)) _))); (first | done | fail)))) S HS.out).mono ?_); rintro e wc ⟨rfl, hbwc⟩; have Ewc : Below w2.heap.size w2 wc := Below.next (by ((repeat (first | (with_reducible assumption) | (with_reducible exact Below.refl _ _) | (with_reducible refine Below.drewS ?_) | (with_reducible refine Below.allocS ?_ _) | (with_reducible refine Below.setS ?_ (by first | omega | (simp; omega)) _))); (first | done | fail))) hbwc))
  all_goals
    clear k0 k1 k2
    replace B := B.trans (Ewc.mono B.size)
    replace ba := ba.below' Ewc
    clear KS KT Ewa Ewb Ewc hbwa hbwb hbwc
    have lba := ba.lt
    have zba0 : wc.cell? ⟨w.heap.size, 0, none⟩ = some (.int .i64 a) := ba.at_ 0
    have zba1 : wc.cell? ⟨w.heap.size, 1, none⟩ = some (.int .i64 b) := ba.at_ 1
    have zba2 : wc.cell? ⟨w.heap.size, 2, none⟩ = some (.int .i64 c) := ba.at_ 2
    go_wp2_with fail
    refine (parse_any S _ (HT.out.below B) HZ.out 0 0 0 3 HP.out).mono ?_
    rintro e w3 ⟨rfl, hb⟩
    clear zba0 zba1 zba2
    replace B := B.trans (hb.mono B.size)
    replace ba := ba.below' hb
    clear hb
    have lba := ba.lt
    have zba0 : w3.cell? ⟨w.heap.size, 0, none⟩ = some (.int .i64 a) := ba.at_ 0
    have zba1 : w3.cell? ⟨w.heap.size, 1, none⟩ = some (.int .i64 b) := ba.at_ 1
    have zba2 : w3.cell? ⟨w.heap.size, 2, none⟩ = some (.int .i64 c) := ba.at_ 2
    go_wp2_with fail
    generalize hW : w3.alloc _ = W8
    obtain ⟨hb, bx, -⟩ := boxC hW
    clear hW
    clear zba0 zba1 zba2
    replace B := B.trans (hb.mono B.size)
    replace ba := ba.below' hb
    clear hb
    generalize w3.heap.size = g8 at *
    have lba := ba.lt
    have zba0 : W8.cell? ⟨w.heap.size, 0, none⟩ = some (.int .i64 a) := ba.at_ 0
    have zba1 : W8.cell? ⟨w.heap.size, 1, none⟩ = some (.int .i64 b) := ba.at_ 1
    have zba2 : W8.cell? ⟨w.heap.size, 2, none⟩ = some (.int .i64 c) := ba.at_ 2
    have lbx := bx.lt
    have zbx0 : W8.cell? ⟨g8, 0, none⟩ = some (.int .i64 0) := bx.at_ 0
    have zbx1 : W8.cell? ⟨g8, 1, none⟩ = some (.int .i64 0) := bx.at_ 1
    have zbx2 : W8.cell? ⟨g8, 2, none⟩ = some (.int .i64 0) := bx.at_ 2
    go_wp2_with fail
    refine (rvalid_any a b c _ false H1.out).mono ?_
    rintro e w4 ⟨rfl, hb⟩
    clear zba0 zba1 zba2 zbx0 zbx1 zbx2
    replace B := B.trans (hb.mono B.size)
    replace ba := ba.below' hb
    replace bx := bx.below' hb
    clear hb
    have lba := ba.lt
    have zba0 : w4.cell? ⟨w.heap.size, 0, none⟩ = some (.int .i64 a) := ba.at_ 0
    have zba1 : w4.cell? ⟨w.heap.size, 1, none⟩ = some (.int .i64 b) := ba.at_ 1
    have zba2 : w4.cell? ⟨w.heap.size, 2, none⟩ = some (.int .i64 c) := ba.at_ 2
    have lbx := bx.lt
    have zbx0 : w4.cell? ⟨g8, 0, none⟩ = some (.int .i64 0) := bx.at_ 0
    have zbx1 : w4.cell? ⟨g8, 1, none⟩ = some (.int .i64 0) := bx.at_ 1
    have zbx2 : w4.cell? ⟨g8, 2, none⟩ = some (.int .i64 0) := bx.at_ 2
    go_wp2_with fail
    go_ret
    exact ⟨rfl, B⟩
theorem texts_all (a b c : Int) (w : World) (hT : Lw w) :
    Calls Tryd.prog 3 #[.agg #[.int .i64 a, .int .i64 b, .int .i64 c]] w fun e w' => e = .returned (.bool true) ∧ Below w.heap.size w w' := by
  rcases h : lB a b c with _ | _
  · exact txt_n a b c w hT h
  · exact txt_y a b c w hT h
end Go.Proofs.YtdoknlodnpeeoaaDoor
