/- The body of LabelDifferent. -/
import Derived.Test.YtdoknlodnpeeoaaDoorLBCmp
namespace Go.Proofs.YtdoknlodnpeeoaaDoor
open Go Go.RowKit Go.Lib

set_option maxRecDepth 100000 in
set_option maxHeartbeats 16000000 in
theorem dif_no1 (a b c x y z : Int) (w : World) (hT : Lw w) (h : lB a b c = false) :
    Calls Tryd.prog 6 #[.agg #[.int .i64 a, .int .i64 b, .int .i64 c], .agg #[.int .i64 x, .int .i64 y, .int .i64 z]] w fun e w' => e = .returned (.bool true) ∧ Below w.heap.size w w' := by
  have HT := hide hT
  have H1 := hide h
  clear h
  clear hT
  go_enter Tryd.func6, Tryd.ntmps6
  go_wp2_with fail
  generalize hW : (w.alloc _).alloc _ = W0
  obtain ⟨B, ba, bb⟩ := boxD hW
  clear hW
  have lba := ba.lt
  have zba0 : W0.cell? ⟨w.heap.size, 0, none⟩ = some (.int .i64 a) := ba.at_ 0
  have zba1 : W0.cell? ⟨w.heap.size, 1, none⟩ = some (.int .i64 b) := ba.at_ 1
  have zba2 : W0.cell? ⟨w.heap.size, 2, none⟩ = some (.int .i64 c) := ba.at_ 2
  have lbb := bb.lt
  have zbb0 : W0.cell? ⟨w.heap.size + 1, 0, none⟩ = some (.int .i64 x) := bb.at_ 0
  have zbb1 : W0.cell? ⟨w.heap.size + 1, 1, none⟩ = some (.int .i64 y) := bb.at_ 1
  have zbb2 : W0.cell? ⟨w.heap.size + 1, 2, none⟩ = some (.int .i64 z) := bb.at_ 2
  go_wp2_with fail
  refine (awake_yes _ (HT.out.below B)).mono ?_
  rintro e w1 ⟨rfl, hb⟩
  clear zba0 zba1 zba2 zbb0 zbb1 zbb2
  replace B := B.trans (hb.mono B.size)
  replace ba := ba.below' hb
  replace bb := bb.below' hb
  clear hb
  have lba := ba.lt
  have zba0 : w1.cell? ⟨w.heap.size, 0, none⟩ = some (.int .i64 a) := ba.at_ 0
  have zba1 : w1.cell? ⟨w.heap.size, 1, none⟩ = some (.int .i64 b) := ba.at_ 1
  have zba2 : w1.cell? ⟨w.heap.size, 2, none⟩ = some (.int .i64 c) := ba.at_ 2
  have lbb := bb.lt
  have zbb0 : w1.cell? ⟨w.heap.size + 1, 0, none⟩ = some (.int .i64 x) := bb.at_ 0
  have zbb1 : w1.cell? ⟨w.heap.size + 1, 1, none⟩ = some (.int .i64 y) := bb.at_ 1
  have zbb2 : w1.cell? ⟨w.heap.size + 1, 2, none⟩ = some (.int .i64 z) := bb.at_ 2
  go_wp2_with fail
  refine (rvalid_any a b c _ false H1.out).mono ?_
  rintro e w2 ⟨rfl, hb⟩
  clear zba0 zba1 zba2 zbb0 zbb1 zbb2
  replace B := B.trans (hb.mono B.size)
  replace ba := ba.below' hb
  replace bb := bb.below' hb
  clear hb
  have lba := ba.lt
  have zba0 : w2.cell? ⟨w.heap.size, 0, none⟩ = some (.int .i64 a) := ba.at_ 0
  have zba1 : w2.cell? ⟨w.heap.size, 1, none⟩ = some (.int .i64 b) := ba.at_ 1
  have zba2 : w2.cell? ⟨w.heap.size, 2, none⟩ = some (.int .i64 c) := ba.at_ 2
  have lbb := bb.lt
  have zbb0 : w2.cell? ⟨w.heap.size + 1, 0, none⟩ = some (.int .i64 x) := bb.at_ 0
  have zbb1 : w2.cell? ⟨w.heap.size + 1, 1, none⟩ = some (.int .i64 y) := bb.at_ 1
  have zbb2 : w2.cell? ⟨w.heap.size + 1, 2, none⟩ = some (.int .i64 z) := bb.at_ 2
  go_wp2_with fail
  refine (awake_yes _ (HT.out.below B)).mono ?_
  rintro e w3 ⟨rfl, hb⟩
  clear zba0 zba1 zba2 zbb0 zbb1 zbb2
  replace B := B.trans (hb.mono B.size)
  replace ba := ba.below' hb
  replace bb := bb.below' hb
  clear hb
  go_wp2_with fail
  go_ret
  exact ⟨rfl, B⟩
set_option maxRecDepth 100000 in
set_option maxHeartbeats 16000000 in
theorem dif_no2 (a b c x y z : Int) (w : World) (hT : Lw w) (h1 : lB a b c = true) (h : lB x y z = false) :
    Calls Tryd.prog 6 #[.agg #[.int .i64 a, .int .i64 b, .int .i64 c], .agg #[.int .i64 x, .int .i64 y, .int .i64 z]] w fun e w' => e = .returned (.bool true) ∧ Below w.heap.size w w' := by
  have HT := hide hT
  have H1 := hide h
  clear h
  have H0 := hide h1
  clear h1
  clear hT
  go_enter Tryd.func6, Tryd.ntmps6
  go_wp2_with fail
  generalize hW : (w.alloc _).alloc _ = W0
  obtain ⟨B, ba, bb⟩ := boxD hW
  clear hW
  have lba := ba.lt
  have zba0 : W0.cell? ⟨w.heap.size, 0, none⟩ = some (.int .i64 a) := ba.at_ 0
  have zba1 : W0.cell? ⟨w.heap.size, 1, none⟩ = some (.int .i64 b) := ba.at_ 1
  have zba2 : W0.cell? ⟨w.heap.size, 2, none⟩ = some (.int .i64 c) := ba.at_ 2
  have lbb := bb.lt
  have zbb0 : W0.cell? ⟨w.heap.size + 1, 0, none⟩ = some (.int .i64 x) := bb.at_ 0
  have zbb1 : W0.cell? ⟨w.heap.size + 1, 1, none⟩ = some (.int .i64 y) := bb.at_ 1
  have zbb2 : W0.cell? ⟨w.heap.size + 1, 2, none⟩ = some (.int .i64 z) := bb.at_ 2
  go_wp2_with fail
  refine (awake_yes _ (HT.out.below B)).mono ?_
  rintro e w1 ⟨rfl, hb⟩
  clear zba0 zba1 zba2 zbb0 zbb1 zbb2
  replace B := B.trans (hb.mono B.size)
  replace ba := ba.below' hb
  replace bb := bb.below' hb
  clear hb
  have lba := ba.lt
  have zba0 : w1.cell? ⟨w.heap.size, 0, none⟩ = some (.int .i64 a) := ba.at_ 0
  have zba1 : w1.cell? ⟨w.heap.size, 1, none⟩ = some (.int .i64 b) := ba.at_ 1
  have zba2 : w1.cell? ⟨w.heap.size, 2, none⟩ = some (.int .i64 c) := ba.at_ 2
  have lbb := bb.lt
  have zbb0 : w1.cell? ⟨w.heap.size + 1, 0, none⟩ = some (.int .i64 x) := bb.at_ 0
  have zbb1 : w1.cell? ⟨w.heap.size + 1, 1, none⟩ = some (.int .i64 y) := bb.at_ 1
  have zbb2 : w1.cell? ⟨w.heap.size + 1, 2, none⟩ = some (.int .i64 z) := bb.at_ 2
  go_wp2_with fail
  refine (rvalid_any a b c _ true H0.out).mono ?_
  rintro e w2 ⟨rfl, hb⟩
  clear zba0 zba1 zba2 zbb0 zbb1 zbb2
  replace B := B.trans (hb.mono B.size)
  replace ba := ba.below' hb
  replace bb := bb.below' hb
  clear hb
  have lba := ba.lt
  have zba0 : w2.cell? ⟨w.heap.size, 0, none⟩ = some (.int .i64 a) := ba.at_ 0
  have zba1 : w2.cell? ⟨w.heap.size, 1, none⟩ = some (.int .i64 b) := ba.at_ 1
  have zba2 : w2.cell? ⟨w.heap.size, 2, none⟩ = some (.int .i64 c) := ba.at_ 2
  have lbb := bb.lt
  have zbb0 : w2.cell? ⟨w.heap.size + 1, 0, none⟩ = some (.int .i64 x) := bb.at_ 0
  have zbb1 : w2.cell? ⟨w.heap.size + 1, 1, none⟩ = some (.int .i64 y) := bb.at_ 1
  have zbb2 : w2.cell? ⟨w.heap.size + 1, 2, none⟩ = some (.int .i64 z) := bb.at_ 2
  go_wp2_with fail
  refine (rvalid_any x y z _ false H1.out).mono ?_
  rintro e w3 ⟨rfl, hb⟩
  clear zba0 zba1 zba2 zbb0 zbb1 zbb2
  replace B := B.trans (hb.mono B.size)
  replace ba := ba.below' hb
  replace bb := bb.below' hb
  clear hb
  have lba := ba.lt
  have zba0 : w3.cell? ⟨w.heap.size, 0, none⟩ = some (.int .i64 a) := ba.at_ 0
  have zba1 : w3.cell? ⟨w.heap.size, 1, none⟩ = some (.int .i64 b) := ba.at_ 1
  have zba2 : w3.cell? ⟨w.heap.size, 2, none⟩ = some (.int .i64 c) := ba.at_ 2
  have lbb := bb.lt
  have zbb0 : w3.cell? ⟨w.heap.size + 1, 0, none⟩ = some (.int .i64 x) := bb.at_ 0
  have zbb1 : w3.cell? ⟨w.heap.size + 1, 1, none⟩ = some (.int .i64 y) := bb.at_ 1
  have zbb2 : w3.cell? ⟨w.heap.size + 1, 2, none⟩ = some (.int .i64 z) := bb.at_ 2
  go_wp2_with fail
  refine (awake_yes _ (HT.out.below B)).mono ?_
  rintro e w4 ⟨rfl, hb⟩
  clear zba0 zba1 zba2 zbb0 zbb1 zbb2
  replace B := B.trans (hb.mono B.size)
  replace ba := ba.below' hb
  replace bb := bb.below' hb
  clear hb
  go_wp2_with fail
  go_ret
  exact ⟨rfl, B⟩
set_option maxRecDepth 100000 in
set_option maxHeartbeats 16000000 in
theorem dif_eq (a b c : Int) (w : World) (hT : Lw w) (h1 : lB a b c = true) :
    Calls Tryd.prog 6 #[.agg #[.int .i64 a, .int .i64 b, .int .i64 c], .agg #[.int .i64 a, .int .i64 b, .int .i64 c]] w fun e w' => e = .returned (.bool true) ∧ Below w.heap.size w w' := by
  have HT := hide hT
  have H1 := hide h1
  obtain ⟨S, hS⟩ : ∃ S, labT a b c = S := ⟨_, rfl⟩
  have HS := hide hS
  clear h1 hS
  clear hT
  go_enter Tryd.func6, Tryd.ntmps6
  go_wp2_with fail
  generalize hW : (w.alloc _).alloc _ = W0
  obtain ⟨B, ba, bb⟩ := boxD hW
  clear hW
  have lba := ba.lt
  have zba0 : W0.cell? ⟨w.heap.size, 0, none⟩ = some (.int .i64 a) := ba.at_ 0
  have zba1 : W0.cell? ⟨w.heap.size, 1, none⟩ = some (.int .i64 b) := ba.at_ 1
  have zba2 : W0.cell? ⟨w.heap.size, 2, none⟩ = some (.int .i64 c) := ba.at_ 2
  have lbb := bb.lt
  have zbb0 : W0.cell? ⟨w.heap.size + 1, 0, none⟩ = some (.int .i64 a) := bb.at_ 0
  have zbb1 : W0.cell? ⟨w.heap.size + 1, 1, none⟩ = some (.int .i64 b) := bb.at_ 1
  have zbb2 : W0.cell? ⟨w.heap.size + 1, 2, none⟩ = some (.int .i64 c) := bb.at_ 2
  go_wp2_with fail
  refine (awake_yes _ (HT.out.below B)).mono ?_
  rintro e w1 ⟨rfl, hb⟩
  clear zba0 zba1 zba2 zbb0 zbb1 zbb2
  replace B := B.trans (hb.mono B.size)
  replace ba := ba.below' hb
  replace bb := bb.below' hb
  clear hb
  have lba := ba.lt
  have zba0 : w1.cell? ⟨w.heap.size, 0, none⟩ = some (.int .i64 a) := ba.at_ 0
  have zba1 : w1.cell? ⟨w.heap.size, 1, none⟩ = some (.int .i64 b) := ba.at_ 1
  have zba2 : w1.cell? ⟨w.heap.size, 2, none⟩ = some (.int .i64 c) := ba.at_ 2
  have lbb := bb.lt
  have zbb0 : w1.cell? ⟨w.heap.size + 1, 0, none⟩ = some (.int .i64 a) := bb.at_ 0
  have zbb1 : w1.cell? ⟨w.heap.size + 1, 1, none⟩ = some (.int .i64 b) := bb.at_ 1
  have zbb2 : w1.cell? ⟨w.heap.size + 1, 2, none⟩ = some (.int .i64 c) := bb.at_ 2
  go_wp2_with fail
  refine (rvalid_any a b c _ true H1.out).mono ?_
  rintro e w2 ⟨rfl, hb⟩
  clear zba0 zba1 zba2 zbb0 zbb1 zbb2
  replace B := B.trans (hb.mono B.size)
  replace ba := ba.below' hb
  replace bb := bb.below' hb
  clear hb
  have lba := ba.lt
  have zba0 : w2.cell? ⟨w.heap.size, 0, none⟩ = some (.int .i64 a) := ba.at_ 0
  have zba1 : w2.cell? ⟨w.heap.size, 1, none⟩ = some (.int .i64 b) := ba.at_ 1
  have zba2 : w2.cell? ⟨w.heap.size, 2, none⟩ = some (.int .i64 c) := ba.at_ 2
  have lbb := bb.lt
  have zbb0 : w2.cell? ⟨w.heap.size + 1, 0, none⟩ = some (.int .i64 a) := bb.at_ 0
  have zbb1 : w2.cell? ⟨w.heap.size + 1, 1, none⟩ = some (.int .i64 b) := bb.at_ 1
  have zbb2 : w2.cell? ⟨w.heap.size + 1, 2, none⟩ = some (.int .i64 c) := bb.at_ 2
  go_wp2_with fail
  refine (rvalid_any a b c _ true H1.out).mono ?_
  rintro e w3 ⟨rfl, hb⟩
  clear zba0 zba1 zba2 zbb0 zbb1 zbb2
  replace B := B.trans (hb.mono B.size)
  replace ba := ba.below' hb
  replace bb := bb.below' hb
  clear hb
  have lba := ba.lt
  have zba0 : w3.cell? ⟨w.heap.size, 0, none⟩ = some (.int .i64 a) := ba.at_ 0
  have zba1 : w3.cell? ⟨w.heap.size, 1, none⟩ = some (.int .i64 b) := ba.at_ 1
  have zba2 : w3.cell? ⟨w.heap.size, 2, none⟩ = some (.int .i64 c) := ba.at_ 2
  have lbb := bb.lt
  have zbb0 : w3.cell? ⟨w.heap.size + 1, 0, none⟩ = some (.int .i64 a) := bb.at_ 0
  have zbb1 : w3.cell? ⟨w.heap.size + 1, 1, none⟩ = some (.int .i64 b) := bb.at_ 1
  have zbb2 : w3.cell? ⟨w.heap.size + 1, 2, none⟩ = some (.int .i64 c) := bb.at_ 2
  clear zba0 zba1 zba2 zbb0 zbb1 zbb2
  have KS : Hid (∀ w', Below w3.heap.size w3 w' → w'.cell? ⟨w.heap.size, 0, none⟩ = some (.int .i64 a) ∧ w'.cell? ⟨w.heap.size, 1, none⟩ = some (.int .i64 b) ∧ w'.cell? ⟨w.heap.size, 2, none⟩ = some (.int .i64 c) ∧ w'.cell? ⟨w.heap.size + 1, 0, none⟩ = some (.int .i64 a) ∧ w'.cell? ⟨w.heap.size + 1, 1, none⟩ = some (.int .i64 b) ∧ w'.cell? ⟨w.heap.size + 1, 2, none⟩ = some (.int .i64 c)) := fun w' h => ⟨(ba.below h lba).at_ 0, (ba.below h lba).at_ 1, (ba.below h lba).at_ 2, (bb.below h lbb).at_ 0, (bb.below h lbb).at_ 1, (bb.below h lbb).at_ 2⟩
  have KT : Hid (∀ w', Below w3.heap.size w3 w' → Lw w') := fun w' h => HT.out.below (B.trans (h.mono B.size))
  obtain ⟨k0, k1, k2, k3, k4, k5⟩ := KS.out _ (Below.refl _ _)
  go_wp2_with fail
  go_region_held3 (fun w' => w'.cell? ⟨w.heap.size, 0, none⟩ = some (.int .i64 a) ∧ w'.cell? ⟨w.heap.size, 1, none⟩ = some (.int .i64 b) ∧ w'.cell? ⟨w.heap.size, 2, none⟩ = some (.int .i64 c) ∧ w'.cell? ⟨w.heap.size + 1, 0, none⟩ = some (.int .i64 a) ∧ w'.cell? ⟨w.heap.size + 1, 1, none⟩ = some (.int .i64 b) ∧ w'.cell? ⟨w.heap.size + 1, 2, none⟩ = some (.int .i64 c))
    (exact KS.out _ (by ((repeat (first | (with_reducible assumption) | (with_reducible exact Below.refl _ _) | (with_reducible refine Below.drewS ?_) | (with_reducible refine Below.allocS ?_ _) | (with_reducible refine Below.setS ?_ (by first | omega | (simp; omega)) _))); (first | done | fail))))
    (first
      | (go_at_call_of 12 (Value.agg #[.int .i64 a, .int .i64 b, .int .i64 c]); (with_reducible refine (text_any a b c _ (KT.out _ (by ((repeat (first | (with_reducible assumption) | (with_reducible exact Below.refl _ _) | (with_reducible refine Below.drewS ?_) | (with_reducible refine Below.allocS ?_ _) | (with_reducible refine Below.setS ?_ (by first | omega | (simp; omega)) _))); (first | done | fail)))) S HS.out).mono ?_); rintro e wa ⟨rfl, hbwa⟩; have Ewa : Below w3.heap.size w3 wa := Below.next (by ((repeat (first | (with_reducible assumption) | (with_reducible exact Below.refl _ _) | (with_reducible refine Below.drewS ?_) | (with_reducible refine Below.allocS ?_ _) | (with_reducible refine Below.setS ?_ (by first | omega | (simp; omega)) _))); (first | done | fail))) hbwa))
  all_goals
    go_wp2_with fail
    go_ret
    exact ⟨rfl, B.trans (Below.mono (by ((repeat (first | (with_reducible assumption) | (with_reducible exact Below.refl _ _) | (with_reducible refine Below.drewS ?_) | (with_reducible refine Below.allocS ?_ _) | (with_reducible refine Below.setS ?_ (by first | omega | (simp; omega)) _))); (first | done | fail))) B.size)⟩
set_option maxRecDepth 100000 in
set_option maxHeartbeats 16000000 in
theorem dif_ne (a b c x y z : Int) (w : World) (hT : Lw w) (h1 : lB a b c = true) (h2 : lB x y z = true) (hne : ¬(a = x ∧ b = y ∧ c = z)) :
    Calls Tryd.prog 6 #[.agg #[.int .i64 a, .int .i64 b, .int .i64 c], .agg #[.int .i64 x, .int .i64 y, .int .i64 z]] w fun e w' => e = .returned (.bool true) ∧ Below w.heap.size w w' := by
  have HT := hide hT
  have H1 := hide h1
  obtain ⟨S, hS⟩ : ∃ S, labT a b c = S := ⟨_, rfl⟩
  have HS := hide hS
  have H2 := hide h2
  obtain ⟨U, hU⟩ : ∃ S, labT x y z = S := ⟨_, rfl⟩
  have HU := hide hU
  have hSU : (S.toList == U.toList) = false := beq_eq_false_iff_ne.2 fun h => by
    have h := toList_inj h
    rw [← hS, ← hU] at h
    unfold labT at h
    rw [if_pos h1, if_pos h2] at h
    have h := congrArg (fun t : ByteArray => t.data.toList) h
    rw [data_strB, data_strB] at h
    exact hne (labL_inj h1 h2 h)
  clear h1 hS h2 hU
  clear hT
  go_enter Tryd.func6, Tryd.ntmps6
  go_wp2_with fail
  generalize hW : (w.alloc _).alloc _ = W0
  obtain ⟨B, ba, bb⟩ := boxD hW
  clear hW
  have lba := ba.lt
  have zba0 : W0.cell? ⟨w.heap.size, 0, none⟩ = some (.int .i64 a) := ba.at_ 0
  have zba1 : W0.cell? ⟨w.heap.size, 1, none⟩ = some (.int .i64 b) := ba.at_ 1
  have zba2 : W0.cell? ⟨w.heap.size, 2, none⟩ = some (.int .i64 c) := ba.at_ 2
  have lbb := bb.lt
  have zbb0 : W0.cell? ⟨w.heap.size + 1, 0, none⟩ = some (.int .i64 x) := bb.at_ 0
  have zbb1 : W0.cell? ⟨w.heap.size + 1, 1, none⟩ = some (.int .i64 y) := bb.at_ 1
  have zbb2 : W0.cell? ⟨w.heap.size + 1, 2, none⟩ = some (.int .i64 z) := bb.at_ 2
  go_wp2_with fail
  refine (awake_yes _ (HT.out.below B)).mono ?_
  rintro e w1 ⟨rfl, hb⟩
  clear zba0 zba1 zba2 zbb0 zbb1 zbb2
  replace B := B.trans (hb.mono B.size)
  replace ba := ba.below' hb
  replace bb := bb.below' hb
  clear hb
  have lba := ba.lt
  have zba0 : w1.cell? ⟨w.heap.size, 0, none⟩ = some (.int .i64 a) := ba.at_ 0
  have zba1 : w1.cell? ⟨w.heap.size, 1, none⟩ = some (.int .i64 b) := ba.at_ 1
  have zba2 : w1.cell? ⟨w.heap.size, 2, none⟩ = some (.int .i64 c) := ba.at_ 2
  have lbb := bb.lt
  have zbb0 : w1.cell? ⟨w.heap.size + 1, 0, none⟩ = some (.int .i64 x) := bb.at_ 0
  have zbb1 : w1.cell? ⟨w.heap.size + 1, 1, none⟩ = some (.int .i64 y) := bb.at_ 1
  have zbb2 : w1.cell? ⟨w.heap.size + 1, 2, none⟩ = some (.int .i64 z) := bb.at_ 2
  go_wp2_with fail
  refine (rvalid_any a b c _ true H1.out).mono ?_
  rintro e w2 ⟨rfl, hb⟩
  clear zba0 zba1 zba2 zbb0 zbb1 zbb2
  replace B := B.trans (hb.mono B.size)
  replace ba := ba.below' hb
  replace bb := bb.below' hb
  clear hb
  have lba := ba.lt
  have zba0 : w2.cell? ⟨w.heap.size, 0, none⟩ = some (.int .i64 a) := ba.at_ 0
  have zba1 : w2.cell? ⟨w.heap.size, 1, none⟩ = some (.int .i64 b) := ba.at_ 1
  have zba2 : w2.cell? ⟨w.heap.size, 2, none⟩ = some (.int .i64 c) := ba.at_ 2
  have lbb := bb.lt
  have zbb0 : w2.cell? ⟨w.heap.size + 1, 0, none⟩ = some (.int .i64 x) := bb.at_ 0
  have zbb1 : w2.cell? ⟨w.heap.size + 1, 1, none⟩ = some (.int .i64 y) := bb.at_ 1
  have zbb2 : w2.cell? ⟨w.heap.size + 1, 2, none⟩ = some (.int .i64 z) := bb.at_ 2
  go_wp2_with fail
  refine (rvalid_any x y z _ true H2.out).mono ?_
  rintro e w3 ⟨rfl, hb⟩
  clear zba0 zba1 zba2 zbb0 zbb1 zbb2
  replace B := B.trans (hb.mono B.size)
  replace ba := ba.below' hb
  replace bb := bb.below' hb
  clear hb
  have lba := ba.lt
  have zba0 : w3.cell? ⟨w.heap.size, 0, none⟩ = some (.int .i64 a) := ba.at_ 0
  have zba1 : w3.cell? ⟨w.heap.size, 1, none⟩ = some (.int .i64 b) := ba.at_ 1
  have zba2 : w3.cell? ⟨w.heap.size, 2, none⟩ = some (.int .i64 c) := ba.at_ 2
  have lbb := bb.lt
  have zbb0 : w3.cell? ⟨w.heap.size + 1, 0, none⟩ = some (.int .i64 x) := bb.at_ 0
  have zbb1 : w3.cell? ⟨w.heap.size + 1, 1, none⟩ = some (.int .i64 y) := bb.at_ 1
  have zbb2 : w3.cell? ⟨w.heap.size + 1, 2, none⟩ = some (.int .i64 z) := bb.at_ 2
  clear zba0 zba1 zba2 zbb0 zbb1 zbb2
  have KS : Hid (∀ w', Below w3.heap.size w3 w' → w'.cell? ⟨w.heap.size, 0, none⟩ = some (.int .i64 a) ∧ w'.cell? ⟨w.heap.size, 1, none⟩ = some (.int .i64 b) ∧ w'.cell? ⟨w.heap.size, 2, none⟩ = some (.int .i64 c) ∧ w'.cell? ⟨w.heap.size + 1, 0, none⟩ = some (.int .i64 x) ∧ w'.cell? ⟨w.heap.size + 1, 1, none⟩ = some (.int .i64 y) ∧ w'.cell? ⟨w.heap.size + 1, 2, none⟩ = some (.int .i64 z)) := fun w' h => ⟨(ba.below h lba).at_ 0, (ba.below h lba).at_ 1, (ba.below h lba).at_ 2, (bb.below h lbb).at_ 0, (bb.below h lbb).at_ 1, (bb.below h lbb).at_ 2⟩
  have KT : Hid (∀ w', Below w3.heap.size w3 w' → Lw w') := fun w' h => HT.out.below (B.trans (h.mono B.size))
  obtain ⟨k0, k1, k2, k3, k4, k5⟩ := KS.out _ (Below.refl _ _)
  rcases (show (a ≠ x) ∨ (a = x ∧ b ≠ y) ∨ (a = x ∧ b = y ∧ c ≠ z) by omega) with g1 | ⟨g1, g2⟩ | ⟨g1, g2, g3⟩
  · have q1 : (a == x) = false := beq_eq_false_iff_ne.2 g1
    clear hne g1
    go_wp2_with fail
    go_region_held3 (fun w' => w'.cell? ⟨w.heap.size, 0, none⟩ = some (.int .i64 a) ∧ w'.cell? ⟨w.heap.size, 1, none⟩ = some (.int .i64 b) ∧ w'.cell? ⟨w.heap.size, 2, none⟩ = some (.int .i64 c) ∧ w'.cell? ⟨w.heap.size + 1, 0, none⟩ = some (.int .i64 x) ∧ w'.cell? ⟨w.heap.size + 1, 1, none⟩ = some (.int .i64 y) ∧ w'.cell? ⟨w.heap.size + 1, 2, none⟩ = some (.int .i64 z))
      (exact KS.out _ (by ((repeat (first | (with_reducible assumption) | (with_reducible exact Below.refl _ _) | (with_reducible refine Below.drewS ?_) | (with_reducible refine Below.allocS ?_ _) | (with_reducible refine Below.setS ?_ (by first | omega | (simp; omega)) _))); (first | done | fail))))
      (first
        | (go_at_call_of 12 (Value.agg #[.int .i64 a, .int .i64 b, .int .i64 c]); (with_reducible refine (text_any a b c _ (KT.out _ (by ((repeat (first | (with_reducible assumption) | (with_reducible exact Below.refl _ _) | (with_reducible refine Below.drewS ?_) | (with_reducible refine Below.allocS ?_ _) | (with_reducible refine Below.setS ?_ (by first | omega | (simp; omega)) _))); (first | done | fail)))) S HS.out).mono ?_); rintro e wa ⟨rfl, hbwa⟩; have Ewa : Below w3.heap.size w3 wa := Below.next (by ((repeat (first | (with_reducible assumption) | (with_reducible exact Below.refl _ _) | (with_reducible refine Below.drewS ?_) | (with_reducible refine Below.allocS ?_ _) | (with_reducible refine Below.setS ?_ (by first | omega | (simp; omega)) _))); (first | done | fail))) hbwa)
        | (go_at_call_of 12 (Value.agg #[.int .i64 x, .int .i64 y, .int .i64 z]); (with_reducible refine (text_any x y z _ (KT.out _ (by ((repeat (first | (with_reducible assumption) | (with_reducible exact Below.refl _ _) | (with_reducible refine Below.drewS ?_) | (with_reducible refine Below.allocS ?_ _) | (with_reducible refine Below.setS ?_ (by first | omega | (simp; omega)) _))); (first | done | fail)))) U HU.out).mono ?_); rintro e wb ⟨rfl, hbwb⟩; have Ewb : Below w3.heap.size w3 wb := Below.next (by ((repeat (first | (with_reducible assumption) | (with_reducible exact Below.refl _ _) | (with_reducible refine Below.drewS ?_) | (with_reducible refine Below.allocS ?_ _) | (with_reducible refine Below.setS ?_ (by first | omega | (simp; omega)) _))); (first | done | fail))) hbwb))
    all_goals
      go_wp2_with fail
      go_ret
      exact ⟨rfl, B.trans (Below.mono (by ((repeat (first | (with_reducible assumption) | (with_reducible exact Below.refl _ _) | (with_reducible refine Below.drewS ?_) | (with_reducible refine Below.allocS ?_ _) | (with_reducible refine Below.setS ?_ (by first | omega | (simp; omega)) _))); (first | done | fail))) B.size)⟩
  · have q1 : (a == x) = true := beq_iff_eq.2 g1
    have q2 : (b == y) = false := beq_eq_false_iff_ne.2 g2
    clear hne g1 g2
    go_wp2_with fail
    go_region_held3 (fun w' => w'.cell? ⟨w.heap.size, 0, none⟩ = some (.int .i64 a) ∧ w'.cell? ⟨w.heap.size, 1, none⟩ = some (.int .i64 b) ∧ w'.cell? ⟨w.heap.size, 2, none⟩ = some (.int .i64 c) ∧ w'.cell? ⟨w.heap.size + 1, 0, none⟩ = some (.int .i64 x) ∧ w'.cell? ⟨w.heap.size + 1, 1, none⟩ = some (.int .i64 y) ∧ w'.cell? ⟨w.heap.size + 1, 2, none⟩ = some (.int .i64 z))
      (exact KS.out _ (by ((repeat (first | (with_reducible assumption) | (with_reducible exact Below.refl _ _) | (with_reducible refine Below.drewS ?_) | (with_reducible refine Below.allocS ?_ _) | (with_reducible refine Below.setS ?_ (by first | omega | (simp; omega)) _))); (first | done | fail))))
      (first
        | (go_at_call_of 12 (Value.agg #[.int .i64 a, .int .i64 b, .int .i64 c]); (with_reducible refine (text_any a b c _ (KT.out _ (by ((repeat (first | (with_reducible assumption) | (with_reducible exact Below.refl _ _) | (with_reducible refine Below.drewS ?_) | (with_reducible refine Below.allocS ?_ _) | (with_reducible refine Below.setS ?_ (by first | omega | (simp; omega)) _))); (first | done | fail)))) S HS.out).mono ?_); rintro e wa ⟨rfl, hbwa⟩; have Ewa : Below w3.heap.size w3 wa := Below.next (by ((repeat (first | (with_reducible assumption) | (with_reducible exact Below.refl _ _) | (with_reducible refine Below.drewS ?_) | (with_reducible refine Below.allocS ?_ _) | (with_reducible refine Below.setS ?_ (by first | omega | (simp; omega)) _))); (first | done | fail))) hbwa)
        | (go_at_call_of 12 (Value.agg #[.int .i64 x, .int .i64 y, .int .i64 z]); (with_reducible refine (text_any x y z _ (KT.out _ (by ((repeat (first | (with_reducible assumption) | (with_reducible exact Below.refl _ _) | (with_reducible refine Below.drewS ?_) | (with_reducible refine Below.allocS ?_ _) | (with_reducible refine Below.setS ?_ (by first | omega | (simp; omega)) _))); (first | done | fail)))) U HU.out).mono ?_); rintro e wb ⟨rfl, hbwb⟩; have Ewb : Below w3.heap.size w3 wb := Below.next (by ((repeat (first | (with_reducible assumption) | (with_reducible exact Below.refl _ _) | (with_reducible refine Below.drewS ?_) | (with_reducible refine Below.allocS ?_ _) | (with_reducible refine Below.setS ?_ (by first | omega | (simp; omega)) _))); (first | done | fail))) hbwb))
    all_goals
      go_wp2_with fail
      go_ret
      exact ⟨rfl, B.trans (Below.mono (by ((repeat (first | (with_reducible assumption) | (with_reducible exact Below.refl _ _) | (with_reducible refine Below.drewS ?_) | (with_reducible refine Below.allocS ?_ _) | (with_reducible refine Below.setS ?_ (by first | omega | (simp; omega)) _))); (first | done | fail))) B.size)⟩
  · have q1 : (a == x) = true := beq_iff_eq.2 g1
    have q2 : (b == y) = true := beq_iff_eq.2 g2
    have q3 : (c == z) = false := beq_eq_false_iff_ne.2 g3
    clear hne g1 g2 g3
    go_wp2_with fail
    go_region_held3 (fun w' => w'.cell? ⟨w.heap.size, 0, none⟩ = some (.int .i64 a) ∧ w'.cell? ⟨w.heap.size, 1, none⟩ = some (.int .i64 b) ∧ w'.cell? ⟨w.heap.size, 2, none⟩ = some (.int .i64 c) ∧ w'.cell? ⟨w.heap.size + 1, 0, none⟩ = some (.int .i64 x) ∧ w'.cell? ⟨w.heap.size + 1, 1, none⟩ = some (.int .i64 y) ∧ w'.cell? ⟨w.heap.size + 1, 2, none⟩ = some (.int .i64 z))
      (exact KS.out _ (by ((repeat (first | (with_reducible assumption) | (with_reducible exact Below.refl _ _) | (with_reducible refine Below.drewS ?_) | (with_reducible refine Below.allocS ?_ _) | (with_reducible refine Below.setS ?_ (by first | omega | (simp; omega)) _))); (first | done | fail))))
      (first
        | (go_at_call_of 12 (Value.agg #[.int .i64 a, .int .i64 b, .int .i64 c]); (with_reducible refine (text_any a b c _ (KT.out _ (by ((repeat (first | (with_reducible assumption) | (with_reducible exact Below.refl _ _) | (with_reducible refine Below.drewS ?_) | (with_reducible refine Below.allocS ?_ _) | (with_reducible refine Below.setS ?_ (by first | omega | (simp; omega)) _))); (first | done | fail)))) S HS.out).mono ?_); rintro e wa ⟨rfl, hbwa⟩; have Ewa : Below w3.heap.size w3 wa := Below.next (by ((repeat (first | (with_reducible assumption) | (with_reducible exact Below.refl _ _) | (with_reducible refine Below.drewS ?_) | (with_reducible refine Below.allocS ?_ _) | (with_reducible refine Below.setS ?_ (by first | omega | (simp; omega)) _))); (first | done | fail))) hbwa)
        | (go_at_call_of 12 (Value.agg #[.int .i64 x, .int .i64 y, .int .i64 z]); (with_reducible refine (text_any x y z _ (KT.out _ (by ((repeat (first | (with_reducible assumption) | (with_reducible exact Below.refl _ _) | (with_reducible refine Below.drewS ?_) | (with_reducible refine Below.allocS ?_ _) | (with_reducible refine Below.setS ?_ (by first | omega | (simp; omega)) _))); (first | done | fail)))) U HU.out).mono ?_); rintro e wb ⟨rfl, hbwb⟩; have Ewb : Below w3.heap.size w3 wb := Below.next (by ((repeat (first | (with_reducible assumption) | (with_reducible exact Below.refl _ _) | (with_reducible refine Below.drewS ?_) | (with_reducible refine Below.allocS ?_ _) | (with_reducible refine Below.setS ?_ (by first | omega | (simp; omega)) _))); (first | done | fail))) hbwb))
    all_goals
      go_wp2_with fail
      go_ret
      exact ⟨rfl, B.trans (Below.mono (by ((repeat (first | (with_reducible assumption) | (with_reducible exact Below.refl _ _) | (with_reducible refine Below.drewS ?_) | (with_reducible refine Below.allocS ?_ _) | (with_reducible refine Below.setS ?_ (by first | omega | (simp; omega)) _))); (first | done | fail))) B.size)⟩
theorem different_all (a b c x y z : Int) (w : World) (hT : Lw w) :
    Calls Tryd.prog 6 #[.agg #[.int .i64 a, .int .i64 b, .int .i64 c], .agg #[.int .i64 x, .int .i64 y, .int .i64 z]] w fun e w' => e = .returned (.bool true) ∧ Below w.heap.size w w' := by
  rcases h1 : lB a b c with _ | _
  · exact dif_no1 a b c x y z w hT h1
  · rcases h2 : lB x y z with _ | _
    · exact dif_no2 a b c x y z w hT h1 h2
    · by_cases h : a = x ∧ b = y ∧ c = z
      · obtain ⟨rfl, rfl, rfl⟩ := h
        exact dif_eq a b c w hT h1
      · exact dif_ne a b c x y z w hT h1 h2 h
end Go.Proofs.YtdoknlodnpeeoaaDoor
