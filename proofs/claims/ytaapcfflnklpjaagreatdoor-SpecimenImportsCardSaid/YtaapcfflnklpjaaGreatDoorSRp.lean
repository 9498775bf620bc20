/- The reference's Parse. -/
import Derived.Test.YtaapcfflnklpjaaGreatDoorSRw
import Derived.Test.YtaapcfflnklpjaaGreatDoorSRn
import Derived.Test.YtaapcfflnklpjaaGreatDoorSF
import Derived.Test.YtaapcfflnklpjaaGreatDoorSPC
import Derived.Test.YtaapcfflnklpjaaGreatDoorSD
import Derived.Deep.RegionHeld3
namespace Go.Proofs.YtaapcfflnklpjaaGreatDoor
open Go Go.RowKit Go.Lib
/-- what the words make -/
def wX (a b c d : List UInt8) : Spc := ⟨numS 7 0 a, (ppR b).1.2.1, (ppR b).2.1.2.1, (ppR b).1.2.2, (ppR b).2.1.2.2, ((numS 7 0 c : Nat) : Int).tmod 12, numS 7 0 d⟩
theorem pr_words {l a b c d : List UInt8} {X : Spc} {er : Int} (hw : wordsL l = [a, b, c, d]) (hp : PR l X er) :
    ((ppR b).2.2 = 0 ∧ vS (wX a b c d) = true ∧ spT (wX a b c d) = strB l → X = wX a b c d ∧ er = 0) ∧ (¬((ppR b).2.2 = 0 ∧ vS (wX a b c d) = true ∧ spT (wX a b c d) = strB l) → X = Spc.zero ∧ er = 3) := by
  constructor
  · rintro ⟨_, h2, h3⟩
    rw [spT_true h2] at h3
    exact hp.uniq (.inl ⟨rfl, h2, strB_inj h3⟩)
  · intro hn
    rcases hp with ⟨h1, h2⟩ | ⟨h1, h2, _⟩
    · exfalso
      obtain ⟨a', b', c', d', _, e1, _, e3, _, _, n1, n2, n3⟩ := h2.parts
      rw [hw] at e1
      injection e1 with g1 e1
      injection e1 with g2 e1
      injection e1 with g3 e1
      injection e1 with g4 _
      subst g1; subst g2; subst g3; subst g4
      have hx : wX a b c d = X := by
        unfold wX
        rw [e3, n1, n2, n3]
      exact hn ⟨by rw [e3], by rw [hx]; exact h2.1, by rw [hx, spT_true h2.1, h2.2]⟩
    · exact ⟨h2, h1⟩
theorem pr_long {l : List UInt8} {X : Spc} {er : Int} (hl : 100 < l.length) (hp : PR l X er) : X = Spc.zero ∧ er = 3 := by
  rcases hp with ⟨h1, h2, h3⟩ | ⟨h1, h2, _⟩
  · have := (spL_len h2).1
    rw [h3] at this
    omega
  · exact ⟨h2, h1⟩
theorem pr_few {l : List UInt8} {X : Spc} {er : Int} (hl : (wordsL l).length ≠ 4) (hp : PR l X er) : X = Spc.zero ∧ er = 3 := by
  rcases hp with ⟨h1, h2⟩ | ⟨h1, h2, _⟩
  · obtain ⟨a, b, c, d, _, e1, _⟩ := h2.parts
    rw [e1] at hl
    exact absurd rfl hl
  · exact ⟨h2, h1⟩
def MadeS (W : World) (x : Spc) (s : Value) (wx : World) : Prop := ∃ g, s = .pointer (some ⟨g, 0, none⟩) ∧ W.heap.size ≤ g ∧ Box wx g #[.int .i64 x.i, .int .i64 x.o, .int .i64 x.r, .int .i64 x.a, .int .i64 x.b, .int .i64 x.h, .int .i64 x.m] 23 ∧ Below W.heap.size W wx
set_option maxHeartbeats 4000000 in
theorem rp_long (s : ByteArray) (w : World) (hs : s.size ≤ 4200) (h : 100 < s.size) :
    Calls Tryz.prog 18 #[.string s] w fun e w' => e = .returned (.tuple #[.agg #[.int .i64 0, .int .i64 0, .int .i64 0, .int .i64 0, .int .i64 0, .int .i64 0, .int .i64 0], .int .i64 3]) ∧ Below w.heap.size w w' := by
  have d0 : decide ((100 : Int) < (s.size : Int)) = true := decide_eq_true (by omega)
  go_enter Tryz.func18, Tryz.ntmps18
  go_wp2_with fail
  generalize hW : w.alloc _ = W
  have HB := hide (show Below w.heap.size w W by rw [← hW]; exact (Below.refl _ _).alloc (Nat.le_refl _) _)
  have hX : Box W w.heap.size #[.int .i64 0, .int .i64 0, .int .i64 0, .int .i64 0, .int .i64 0, .int .i64 0, .int .i64 0] 23 := by rw [← hW]; exact Box.new _ _ _
  clear hW
  refine (words_any s W hs).mono ?_
  rintro e w1 ⟨g, n, c, us, rfl, hws, hw, hsz, hb⟩
  have bx := hX.below' hb
  have y0 := bx.at_ 0
  have y1 := bx.at_ 1
  have y2 := bx.at_ 2
  have y3 := bx.at_ 3
  have y4 := bx.at_ 4
  have y5 := bx.at_ 5
  have y6 := bx.at_ 6
  have f0 := bx.frozen 0
  have f1 := bx.frozen 1
  have f2 := bx.frozen 2
  have f3 := bx.frozen 3
  have f4 := bx.frozen 4
  have f5 := bx.frozen 5
  have f6 := bx.frozen 6
  have l2 := bx.lt
  simp at y0 y1 y2 y3 y4 y5 y6
  clear hX bx hws hw hsz
  have HB1 := hide (nxt HB.out hb)
  clear hb
  go_wp2_with fail
  refine bodyPost_ret (v := .tuple #[.agg #[.int .i64 0, .int .i64 0, .int .i64 0, .int .i64 0, .int .i64 0, .int .i64 0, .int .i64 0], .int .i64 3]) (by simp [results, Tryz.results18, go_sem, *]) rfl ?_
  exact ⟨rfl, set7 HB1.out (Nat.le_refl _) _ _ _ _ _ _ _⟩
set_option maxHeartbeats 4000000 in
theorem rp_few (s : ByteArray) (w : World) (hs : s.size ≤ 4200) (h : ¬ 100 < s.size) (h4 : (wordsL s.data.toList).length ≠ 4) :
    Calls Tryz.prog 18 #[.string s] w fun e w' => e = .returned (.tuple #[.agg #[.int .i64 0, .int .i64 0, .int .i64 0, .int .i64 0, .int .i64 0, .int .i64 0, .int .i64 0], .int .i64 3]) ∧ Below w.heap.size w w' := by
  have d0 : decide ((100 : Int) < (s.size : Int)) = false := decide_eq_false (by omega)
  have H4 := hide h4
  clear h4
  go_enter Tryz.func18, Tryz.ntmps18
  go_wp2_with fail
  generalize hW : w.alloc _ = W
  have HB := hide (show Below w.heap.size w W by rw [← hW]; exact (Below.refl _ _).alloc (Nat.le_refl _) _)
  have hX : Box W w.heap.size #[.int .i64 0, .int .i64 0, .int .i64 0, .int .i64 0, .int .i64 0, .int .i64 0, .int .i64 0] 23 := by rw [← hW]; exact Box.new _ _ _
  clear hW
  refine (words_any s W hs).mono ?_
  rintro e w1 ⟨g, n, c, us, rfl, hws, hw, hsz, hb⟩
  have hn : n ≠ 4 := fun h => H4.out (by rw [← hw, List.length_map, hws.1, h])
  have d1 : ((n : Int) != 4) = true := by simp; omega
  have bx := hX.below' hb
  have y0 := bx.at_ 0
  have y1 := bx.at_ 1
  have y2 := bx.at_ 2
  have y3 := bx.at_ 3
  have y4 := bx.at_ 4
  have y5 := bx.at_ 5
  have y6 := bx.at_ 6
  have f0 := bx.frozen 0
  have f1 := bx.frozen 1
  have f2 := bx.frozen 2
  have f3 := bx.frozen 3
  have f4 := bx.frozen 4
  have f5 := bx.frozen 5
  have f6 := bx.frozen 6
  have l2 := bx.lt
  simp at y0 y1 y2 y3 y4 y5 y6
  clear hX bx hws hw hsz hn
  have HB1 := hide (nxt HB.out hb)
  clear hb
  go_wp2_with fail
  refine bodyPost_ret (v := .tuple #[.agg #[.int .i64 0, .int .i64 0, .int .i64 0, .int .i64 0, .int .i64 0, .int .i64 0, .int .i64 0], .int .i64 3]) (by simp [results, Tryz.results18, go_sem, *]) rfl ?_
  exact ⟨rfl, set7 HB1.out (Nat.le_refl _) _ _ _ _ _ _ _⟩
set_option maxHeartbeats 8000000 in
set_option maxRecDepth 100000 in
theorem rp_four (s : ByteArray) (w : World) (hT : Lw w) (hs : s.size ≤ 4200) (h : ¬ 100 < s.size) (h4 : (wordsL s.data.toList).length = 4) (X : Spc) (er : Int) (hp : PR s.data.toList X er) :
    Calls Tryz.prog 18 #[.string s] w fun e w' => e = .returned (.tuple #[.agg #[.int .i64 X.i, .int .i64 X.o, .int .i64 X.r, .int .i64 X.a, .int .i64 X.b, .int .i64 X.h, .int .i64 X.m], .int .i64 er]) ∧ Below w.heap.size w w' := by
  have d0 : decide ((100 : Int) < (s.size : Int)) = false := decide_eq_false (by omega)
  have H4 := hide h4
  have HP := hide hp
  have HT := hide hT
  clear h4 hp hT
  go_enter Tryz.func18, Tryz.ntmps18
  go_wp2_with fail
  generalize hW : w.alloc _ = W
  have HB := hide (show Below w.heap.size w W by rw [← hW]; exact (Below.refl _ _).alloc (Nat.le_refl _) _)
  have HX := hide (show Box W w.heap.size #[.int .i64 0, .int .i64 0, .int .i64 0, .int .i64 0, .int .i64 0, .int .i64 0, .int .i64 0] 23 by rw [← hW]; exact Box.new _ _ _)
  clear hW
  refine (words_any s W hs).mono ?_
  rintro e w1 ⟨g, n, c, us, rfl, hws, hw, hsz, hb⟩
  obtain rfl : n = 4 := by rw [← H4.out, ← hw, List.length_map, hws.1]
  obtain ⟨a, b, c4, d, rfl⟩ : ∃ a b c4 d, us = [a, b, c4, d] := by
    match us, hws.1 with
    | [a, b, c4, d], _ => exact ⟨a, b, c4, d, rfl⟩
  have HWL := hide (show wordsL s.data.toList = [a.data.toList, b.data.toList, c4.data.toList, d.data.toList] from hw.symm)
  have ha : a.size ≤ 4200 := Nat.le_trans (hsz a (by simp)) hs
  have hbz : b.size ≤ 4200 := Nat.le_trans (hsz b (by simp)) hs
  have hcz : c4.size ≤ 4200 := Nat.le_trans (hsz c4 (by simp)) hs
  have hd : d.size ≤ 4200 := Nat.le_trans (hsz d (by simp)) hs
  have HSA := hide ha
  have HSB := hide (show b.size ≤ 5000 by omega)
  have HSC := hide hcz
  have HSD := hide hd
  have KW := hide (fun (w' : World) (h : Below w1.heap.size w1 w') => And.intro (show w'.cell? ⟨g, 0, none⟩ = some (.string a) from (h.cell (p := ⟨g, 0, none⟩) hws.2.1).trans (hws.2.2 0 a rfl)) (And.intro (show w'.cell? ⟨g, 1, none⟩ = some (.string b) from (h.cell (p := ⟨g, 1, none⟩) hws.2.1).trans (hws.2.2 1 b rfl)) (And.intro (show w'.cell? ⟨g, 2, none⟩ = some (.string c4) from (h.cell (p := ⟨g, 2, none⟩) hws.2.1).trans (hws.2.2 2 c4 rfl)) (show w'.cell? ⟨g, 3, none⟩ = some (.string d) from (h.cell (p := ⟨g, 3, none⟩) hws.2.1).trans (hws.2.2 3 d rfl)))))
  have HX1 := hide (HX.out.below' hb)
  have HB1 := hide (nxt HB.out hb)
  have HLT := hide (show w.heap.size < w1.heap.size from Nat.lt_of_lt_of_le HX.out.lt hb.size)
  clear hws hw hsz hb ha hbz hcz hd
  obtain ⟨k0, k1, k2, k3⟩ := KW.out _ (Below.refl _ _)
  rcases hpp : ppR b.data.toList with ⟨⟨p1, p2, p3⟩, ⟨q1, q2, q3⟩, ep⟩
  have HPP := hide hpp
  clear hpp
  go_wp2_with fail
  clear k0 k1 k2 k3
  refine (rppair_any b _ (HT.out.below HB1.out) HSB.out p1 p2 p3 q1 q2 q3 ep HPP.out).mono ?_
  rintro e w2 ⟨rfl, hb2⟩
  go_wp2_with fail
  generalize hW2 : (w2.alloc _).alloc _ = W2
  obtain ⟨B2, hk2⟩ := box33 hW2
  have HB2 := hide (nxt hb2 B2)
  have KS := hide (fun (w' : World) (h : Below W2.heap.size W2 w') => And.intro (KW.out w' (nxt HB2.out h)) (hk2 w' h))
  clear hW2 B2 hk2 hb2
  obtain ⟨⟨k0, k1, k2, k3⟩, m0, m1, m2, n0, n1, n2⟩ := KS.out _ (Below.refl _ _)
  obtain ⟨na, hna⟩ : ∃ n, numS 7 0 a.data.toList = n := ⟨_, rfl⟩
  obtain ⟨nc, hnc⟩ : ∃ n, numS 7 0 c4.data.toList = n := ⟨_, rfl⟩
  obtain ⟨nd, hnd⟩ : ∃ n, numS 7 0 d.data.toList = n := ⟨_, rfl⟩
  obtain ⟨hh, hhh⟩ : ∃ h, (nc : Int).tmod 12 = h := ⟨_, rfl⟩
  have HNA := hide hna
  have HNC := hide hnc
  have HND := hide hnd
  have HXX := hide (show wX a.data.toList b.data.toList c4.data.toList d.data.toList = ⟨na, p2, q2, p3, q3, hh, nd⟩ by unfold wX; rw [hna, hnc, hnd, hhh, HPP.out])
  clear hna hnc hnd
  go_wp2_with fail
  go_cut [8] from 28 to 50 (fun s8 wx => MadeS W2 ⟨na, p2, q2, p3, q3, hh, nd⟩ s8 wx)
  case first =>
    go_region_held3 (fun w' => (w'.cell? ⟨g, 0, none⟩ = some (.string a) ∧ w'.cell? ⟨g, 1, none⟩ = some (.string b) ∧ w'.cell? ⟨g, 2, none⟩ = some (.string c4) ∧ w'.cell? ⟨g, 3, none⟩ = some (.string d)) ∧ w'.cell? ⟨w2.heap.size, 0, none⟩ = some (.int .i64 p1) ∧ w'.cell? ⟨w2.heap.size, 1, none⟩ = some (.int .i64 p2) ∧ w'.cell? ⟨w2.heap.size, 2, none⟩ = some (.int .i64 p3) ∧ w'.cell? ⟨w2.heap.size + 1, 0, none⟩ = some (.int .i64 q1) ∧ w'.cell? ⟨w2.heap.size + 1, 1, none⟩ = some (.int .i64 q2) ∧ w'.cell? ⟨w2.heap.size + 1, 2, none⟩ = some (.int .i64 q3))
      (exact KS.out _ (by ((repeat (first | (with_reducible assumption) | (with_reducible exact Below.refl _ _) | (with_reducible refine Below.drewS ?_) | (with_reducible refine Below.allocS ?_ _) | (with_reducible refine Below.setS ?_ (by first | omega | (simp; omega)) _))); (first | done | fail))))
      (first
        | (go_at_call 55; (with_reducible refine (rnum_any a _ HSA.out na HNA.out).mono ?_); rintro e wa ⟨rfl, rfl⟩)
        | (go_at_call 55; (with_reducible refine (rnum_any c4 _ HSC.out nc HNC.out).mono ?_); rintro e wb ⟨rfl, rfl⟩)
        | (go_at_call 55; (with_reducible refine (rnum_any d _ HSD.out nd HND.out).mono ?_); rintro e wc ⟨rfl, rfl⟩))
    all_goals
      go_wp2_with fail
      go_meet
      exact ⟨_, rfl, Nat.le_refl _, Box.new W2 _ _, ((Below.refl _ _).alloc (Nat.le_refl _) _).drew⟩
  case rest =>
  obtain ⟨g8, rfl, hg8, b8, hb⟩ := hcut
  have HBC := hide (nxt HB1.out (nxt HB2.out hb))
  have HXC := hide (HX1.out.below' (nxt HB2.out hb))
  clear k0 k1 k2 k3 m0 m1 m2 n0 n1 n2 hb hhh KS KW
  have pr := pr_words HWL.out HP.out
  rw [HXX.out, HPP.out, strB_data] at pr
  clear HXX
  generalize hx : (Spc.mk (na : Int) p2 q2 p3 q3 hh (nd : Int)) = x at *
  have HPR := hide pr
  have HBX := hide b8
  clear hx pr hg8
  have l8 := b8.lt
  clear b8
  generalize wc = V at *
  have KX := hide (fun (w' : World) (h : Below V.heap.size V w') => C7.of (HBX.out.below' h))
  by_cases h1 : ep = 0
  · subst h1
    obtain ⟨k0, k1, k2, k3, k4, k5, k6⟩ := KX.out _ (Below.refl _ _)
    go_wp2_with fail
    clear k0 k1 k2 k3 k4 k5 k6
    cases hv : vS x
    · obtain ⟨rfl, rfl⟩ := HPR.out.2 fun h => by rw [hv] at h; exact absurd h.2.1 (by decide)
      refine (rvalid9_any x _ false hv).mono ?_
      rintro e w5 ⟨rfl, hb5⟩
      have bx := HXC.out.below' hb5
      have y0 := bx.at_ 0
      have y1 := bx.at_ 1
      have y2 := bx.at_ 2
      have y3 := bx.at_ 3
      have y4 := bx.at_ 4
      have y5 := bx.at_ 5
      have y6 := bx.at_ 6
      have f0 := bx.frozen 0
      have f1 := bx.frozen 1
      have f2 := bx.frozen 2
      have f3 := bx.frozen 3
      have f4 := bx.frozen 4
      have f5 := bx.frozen 5
      have f6 := bx.frozen 6
      have l2 := bx.lt
      simp at y0 y1 y2 y3 y4 y5 y6
      have HB9 := hide (nxt HBC.out hb5)
      clear bx hb5 hv
      go_wp2_with fail
      refine bodyPost_ret (v := .tuple #[.agg #[.int .i64 0, .int .i64 0, .int .i64 0, .int .i64 0, .int .i64 0, .int .i64 0, .int .i64 0], .int .i64 3]) (by simp [results, Tryz.results18, go_sem, *]) rfl ?_
      exact ⟨rfl, set7 HB9.out (Nat.le_refl _) _ _ _ _ _ _ _⟩
    · obtain ⟨S, hS⟩ : ∃ S, spT x = S := ⟨_, rfl⟩
      rw [hv, hS] at HPR
      have HS := hide hS
      refine (rvalid9_any x _ true hv).mono ?_
      rintro e w5 ⟨rfl, hb5⟩
      have HB5 := hide hb5
      clear hS hv hb5
      obtain ⟨k0, k1, k2, k3, k4, k5, k6⟩ := KX.out _ HB5.out
      go_wp2_with fail
      clear k0 k1 k2 k3 k4 k5 k6
      refine (rtext9_any x _ (HT.out.below (nxt HBC.out HB5.out)) S HS.out).mono ?_
      rintro e w6 ⟨rfl, hb6⟩
      have HB6 := hide (nxt HB5.out hb6)
      have HB9 := hide (nxt HBC.out HB6.out)
      have bx := HXC.out.below' HB6.out
      have y0 := bx.at_ 0
      have y1 := bx.at_ 1
      have y2 := bx.at_ 2
      have y3 := bx.at_ 3
      have y4 := bx.at_ 4
      have y5 := bx.at_ 5
      have y6 := bx.at_ 6
      have f0 := bx.frozen 0
      have f1 := bx.frozen 1
      have f2 := bx.frozen 2
      have f3 := bx.frozen 3
      have f4 := bx.frozen 4
      have f5 := bx.frozen 5
      have f6 := bx.frozen 6
      have l2 := bx.lt
      simp at y0 y1 y2 y3 y4 y5 y6
      clear bx hb6
      by_cases he : S = s
      · obtain ⟨rfl, rfl⟩ := HPR.out.1 ⟨by trivial, by trivial, he⟩
        subst he
        obtain ⟨k0, k1, k2, k3, k4, k5, k6⟩ := KX.out _ HB6.out
        go_wp2_with fail
        refine bodyPost_ret (v := .tuple #[.agg #[.int .i64 X.i, .int .i64 X.o, .int .i64 X.r, .int .i64 X.a, .int .i64 X.b, .int .i64 X.h, .int .i64 X.m], .int .i64 0]) (by simp [results, Tryz.results18, go_sem, *]) rfl ?_
        exact ⟨rfl, set7 HB9.out (Nat.le_refl _) _ _ _ _ _ _ _⟩
      · obtain ⟨rfl, rfl⟩ := HPR.out.2 fun h => he h.2.2
        have hne : (S.toList == s.toList) = false := beq_eq_false_iff_ne.2 fun h => he (toList_inj h)
        clear he
        go_wp2_with fail
        refine bodyPost_ret (v := .tuple #[.agg #[.int .i64 0, .int .i64 0, .int .i64 0, .int .i64 0, .int .i64 0, .int .i64 0, .int .i64 0], .int .i64 3]) (by simp [results, Tryz.results18, go_sem, *]) rfl ?_
        exact ⟨rfl, set7 HB9.out (Nat.le_refl _) _ _ _ _ _ _ _⟩
  · obtain ⟨rfl, rfl⟩ := HPR.out.2 fun h => h1 h.1
    have q1 : (ep != 0) = true := by simp [h1]
    have bx := HXC.out
    have y0 := bx.at_ 0
    have y1 := bx.at_ 1
    have y2 := bx.at_ 2
    have y3 := bx.at_ 3
    have y4 := bx.at_ 4
    have y5 := bx.at_ 5
    have y6 := bx.at_ 6
    have f0 := bx.frozen 0
    have f1 := bx.frozen 1
    have f2 := bx.frozen 2
    have f3 := bx.frozen 3
    have f4 := bx.frozen 4
    have f5 := bx.frozen 5
    have f6 := bx.frozen 6
    have l2 := bx.lt
    simp at y0 y1 y2 y3 y4 y5 y6
    clear bx h1
    go_wp2_with fail
    refine bodyPost_ret (v := .tuple #[.agg #[.int .i64 0, .int .i64 0, .int .i64 0, .int .i64 0, .int .i64 0, .int .i64 0, .int .i64 0], .int .i64 3]) (by simp [results, Tryz.results18, go_sem, *]) rfl ?_
    exact ⟨rfl, set7 HBC.out (Nat.le_refl _) _ _ _ _ _ _ _⟩
theorem rparse9_any (s : ByteArray) (w : World) (hT : Lw w) (hs : s.size ≤ 4200) (X : Spc) (er : Int) (hp : PR s.data.toList X er) :
    Calls Tryz.prog 18 #[.string s] w fun e w' => e = .returned (.tuple #[.agg #[.int .i64 X.i, .int .i64 X.o, .int .i64 X.r, .int .i64 X.a, .int .i64 X.b, .int .i64 X.h, .int .i64 X.m], .int .i64 er]) ∧ Below w.heap.size w w' := by
  by_cases h : 100 < s.size
  · obtain ⟨rfl, rfl⟩ := pr_long (by rw [← Lib.size_eq]; exact h) hp
    exact rp_long s w hs h
  · by_cases h4 : (wordsL s.data.toList).length = 4
    · exact rp_four s w hT hs h h4 X er hp
    · obtain ⟨rfl, rfl⟩ := pr_few h4 hp
      exact rp_few s w hs h h4
end Go.Proofs.YtaapcfflnklpjaaGreatDoor
