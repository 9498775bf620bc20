/- The reference's Join and Same; its ledger after some calls. -/
import Derived.Test.YtalbdclcappjpaaGreatOA
namespace Go.Proofs.YtalbdclcappjpaaGreat
open Go Go.RowKit Go.Lib
theorem LQ.put2 {w w2 : World} {B p n1 n2 c1 c2 : Nat} {F : Nat → Prop} {A1 A2 : Option Addr} {ds : List Dec} {ms : List Mk} {u v : Value} (hF : ∀ k, F k → B ≤ k ∧ k < w.heap.size) (hFp : F p) (hB : Below w.heap.size w w2) (hb : Box w2 p #[u, v] 64)
    (o1 : Ow eD w2 w.heap.size A1 n1 c1 ds) (o2 : Ow eM w2 w.heap.size A2 n2 c2 ms) (hok : Led.Ok ⟨ds, ms⟩) :
    LQ ((w2.setCell ⟨p, 0, none⟩ (.slice A1 n1 c1)).setCell ⟨p, 1, none⟩ (.slice A2 n2 c2)) B (Plus F w ((w2.setCell ⟨p, 0, none⟩ (.slice A1 n1 c1)).setCell ⟨p, 1, none⟩ (.slice A2 n2 c2))) p ⟨ds, ms⟩ ∧ Turn F w ((w2.setCell ⟨p, 0, none⟩ (.slice A1 n1 c1)).setCell ⟨p, 1, none⟩ (.slice A2 n2 c2)) := by
  have l1 := o1.len
  have l2 := o2.len
  subst l1; subst l2
  have ts : Turn (Is p) w2 ((w2.setCell ⟨p, 0, none⟩ (.slice A1 ds.length c1)).setCell ⟨p, 1, none⟩ (.slice A2 ms.length c2)) := ((Turn.refl (Is p) w2).set 0 _ rfl).set 1 _ rfl
  have hsz : ((w2.setCell ⟨p, 0, none⟩ (.slice A1 ds.length c1)).setCell ⟨p, 1, none⟩ (.slice A2 ms.length c2)).heap.size = w2.heap.size := by simp [World.setCell]
  have q5 : Box ((w2.setCell ⟨p, 0, none⟩ (.slice A1 ds.length c1)).setCell ⟨p, 1, none⟩ (.slice A2 ms.length c2)) p #[.slice A1 ds.length c1, .slice A2 ms.length c2] 64 := by
    have := (hb.set_ 0 (.slice A1 ds.length c1)).set_ 1 (.slice A2 ms.length c2)
    simpa using this
  have hpl := hF p hFp
  have hs := hB.size
  refine ⟨⟨hok, fun k hk => ?_, .inl hFp, A1, c1, A2, c2, q5, ?_, ?_, fun g hg => .inr ?_, fun g hg => .inr ?_⟩, (Turn.of hB).trans (ts.mono fun k _ hk => by rw [show k = p from hk]; exact hFp)⟩
  · rw [hsz]
    rcases hk with hk | hk
    · have := hF k hk; omega
    · rw [hsz] at hk; omega
  · exact (o1.turn ts fun g hg e => ow_box o1 hb (by decide) (by rw [← show g = p from e]; exact hg)).low (by omega)
  · exact (o2.turn ts fun g hg e => ow_box o2 hb (by decide) (by rw [← show g = p from e]; exact hg)).low (by omega)
  · rw [hsz]; exact o1.blk g hg
  · rw [hsz]; exact o2.blk g hg
set_option maxHeartbeats 8000000 in
theorem rjoin_agr (w : World) (B p : Nat) (F : Nat → Prop) (s : Led) (B' q : Nat) (F' : Nat → Prop) (t : Led) (h : LQ w B F p s) (h' : LQ w B' F' q t) (hc : Agr Dec.key s.d t.d) :
    Calls Tryz.prog 10 #[.pointer (some ⟨p, 0, none⟩), .pointer (some ⟨q, 0, none⟩)] w fun e w' => e = .returned (.int .i64 (jE s t)) ∧ LQ w' B (Plus F w w') p (jL s t) ∧ Turn F w w' := by
  have L1 := hide h
  have L2 := hide h'
  have HC := hide hc
  have HK := hide h.ok
  have HK' := hide h'.ok
  obtain ⟨_, hF, hFp, A, c, A', c', hbx, hd, hw, _, _⟩ := h
  obtain ⟨_, _, _, A2, c2, A2', c2', hbx2, hd2, hw2, _, _⟩ := h'
  have HF := hide hF
  have HFp := hide hFp
  have HB := hide hbx
  have HB2 := hide hbx2
  have D1 := hide hd.sl
  have M1 := hide hw.sl
  have D2 := hide hd2.sl
  have M2 := hide hw2.sl
  have n1 := HK.out.2.2.1
  have n2 := HK.out.2.2.2.2.2
  have n3 := HK'.out.2.2.1
  have n4 := HK'.out.2.2.2.2.2
  have n1' : s.d.length ≤ 400 := Nat.le_trans n1 (by decide)
  have n2' : s.w.length ≤ 400 := Nat.le_trans n2 (by decide)
  have n3' : t.d.length ≤ 400 := Nat.le_trans n3 (by decide)
  have n4' : t.w.length ≤ 400 := Nat.le_trans n4 (by decide)
  clear hc hF hFp hbx hd hw hbx2 hd2 hw2
  go_enter Tryz.func10, Tryz.ntmps10
  go_wp2_with fail
  have KS : Hid (∀ w', Below w.heap.size w w' → w'.cell? ⟨p, 0, none⟩ = some (.slice A s.d.length c) ∧ w'.cell? ⟨q, 0, none⟩ = some (.slice A2 t.d.length c2)) := fun w' g => ⟨(HB.out.below g HB.out.lt).at_ 0, (HB2.out.below g HB2.out.lt).at_ 0⟩
  have KS' : Hid (∀ w', Below w.heap.size w w' → w'.cell? ⟨p, 1, none⟩ = some (.slice A' s.w.length c') ∧ w'.cell? ⟨q, 1, none⟩ = some (.slice A2' t.w.length c2')) := fun w' g => ⟨(HB.out.below g HB.out.lt).at_ 1, (HB2.out.below g HB2.out.lt).at_ 1⟩
  have B1 := hide (Below.refl w.heap.size w)
  have S1 := HK.out.1
  have S2 := HK'.out.1
  have V1 := HK.out.2.1
  have V2 := HK'.out.2.1
  have S3 := HK.out.2.2.2.1
  have S4 := HK'.out.2.2.2.1
  have V3 := HK.out.2.2.2.2.1
  have V4 := HK'.out.2.2.2.2.1
  have HU := hide (fun (W : World) (h : Below w.heap.size w W) => rdecs_any A s.d.length c s.d A2 t.d.length c2 t.d W (D1.out.keep h) (D2.out.keep h) S1 S2 V1 V2 n1' n3' HC.out)
  have HV := hide (fun (W : World) (h : Below w.heap.size w W) => rmarks_any A' s.w.length c' s.w A2' t.w.length c2' t.w W (M1.out.keep h) (M2.out.keep h) S3 S4 V3 V4 n2' n4')
  clear S1 S2 V1 V2 S3 S4 V3 V4 n1' n2' n3' n4'
  go_region_held3 (fun w' => w'.cell? ⟨p, 0, none⟩ = some (.slice A s.d.length c) ∧ w'.cell? ⟨q, 0, none⟩ = some (.slice A2 t.d.length c2))
    (exact KS.out _ (by ((repeat (first | (with_reducible assumption) | (with_reducible exact B1.out) | (with_reducible exact Below.refl _ _) | (with_reducible refine Below.drewS ?_) | (with_reducible refine Below.allocS ?_ _))); (first | done | fail))))
    (first
      | (go_at_call 31; (with_reducible refine (HU.out _ (by ((repeat (first | (with_reducible assumption) | (with_reducible exact B1.out) | (with_reducible exact Below.refl _ _) | (with_reducible refine Below.drewS ?_) | (with_reducible refine Below.allocS ?_ _))); (first | done | fail)))).mono ?_); rintro e w2 ⟨A3, c3, rfl, o3, b3⟩; have b4 := Below.next B1.out.drew b3))
  all_goals
    have B2 := hide b4
    have O3 := hide (o3.low (show w.heap.size ≤ _ from B1.out.size))
    clear b3 b4 o3
    go_wp2_with fail
    go_region_held3 (fun w' => w'.cell? ⟨p, 1, none⟩ = some (.slice A' s.w.length c') ∧ w'.cell? ⟨q, 1, none⟩ = some (.slice A2' t.w.length c2'))
      (exact KS'.out _ (by ((repeat (first | (with_reducible assumption) | (with_reducible exact B2.out) | (with_reducible exact Below.refl _ _) | (with_reducible refine Below.drewS ?_) | (with_reducible refine Below.allocS ?_ _))); (first | done | fail))))
      (first
        | (go_at_call 32; (with_reducible refine (HV.out _ (by ((repeat (first | (with_reducible assumption) | (with_reducible exact B2.out) | (with_reducible exact Below.refl _ _) | (with_reducible refine Below.drewS ?_) | (with_reducible refine Below.allocS ?_ _))); (first | done | fail)))).mono ?_); rintro e w3 ⟨A4, c4, rfl, o4, b5⟩; have b6 := Below.next B2.out.drew b5))
    all_goals
      have B3 := hide b6
      have O3 := hide (O3.out.keep (Below.next ((Below.refl w2.heap.size w2).drew) b5))
      have O4 := hide (o4.low (show w.heap.size ≤ _ from B2.out.size))
      have Bp := hide (HB.out.below B3.out HB.out.lt)
      have k0 : w3.cell? ⟨p, 0, none⟩ = some (.slice A s.d.length c) := Bp.out.at_ 0
      have k1 : w3.cell? ⟨p, 1, none⟩ = some (.slice A' s.w.length c') := Bp.out.at_ 1
      have f0 : w3.frozen? ⟨p, 0, none⟩ = false := Bp.out.frozen 0
      have f1 : w3.frozen? ⟨p, 1, none⟩ = false := Bp.out.frozen 1
      have HJ := hide (show jE s t = if (uni Dec.key s.d t.d).length ≤ 200 ∧ (uni Mk.key s.w t.w).length ≤ 200 then 0 else 6 from by unfold jE; rw [if_pos HC.out])
      clear b5 b6 o4
      obtain ⟨N5, hN5⟩ : ∃ N, (uni Dec.key s.d t.d).length = N := ⟨_, rfl⟩
      obtain ⟨N6, hN6⟩ : ∃ N, (uni Mk.key s.w t.w).length = N := ⟨_, rfl⟩
      have HN5 := hide hN5
      have HN6 := hide hN6
      rw [hN5] at O3 HJ
      rw [hN6] at O4 HJ
      rw [hN5, hN6]
      clear hN5 hN6
      have bad : jE s t ≠ 0 → LQ w3 B (Plus F w w3) p (jL s t) ∧ Turn F w w3 := fun h => by
        have e : jL s t = s := by unfold jL; rw [if_neg h]
        rw [e]
        exact ⟨L1.out.same B3.out, Turn.of B3.out⟩
      have BAD := hide bad
      clear bad
      by_cases h5 : 200 < N5
      · have x1 : (200 : Int) < (N5 : Int) := by omega
        have he : jE s t = 6 := by rw [HJ.out, if_neg (by omega)]
        have HE := hide he
        clear he
        go_wp2_with fail
        go_ret
        rw [HE.out] at BAD ⊢
        exact ⟨rfl, BAD.out (by decide)⟩
      · have x1 : ¬ ((200 : Int) < (N5 : Int)) := by omega
        by_cases h6 : 200 < N6
        · have x2 : (200 : Int) < (N6 : Int) := by omega
          have he : jE s t = 6 := by rw [HJ.out, if_neg (by omega)]
          have HE := hide he
          clear he
          go_wp2_with fail
          go_ret
          rw [HE.out] at BAD ⊢
          exact ⟨rfl, BAD.out (by decide)⟩
        · have x2 : ¬ ((200 : Int) < (N6 : Int)) := by omega
          have he : jE s t = 0 := by rw [HJ.out, if_pos (by omega)]
          have HE := hide he
          have HG := hide (show (w3.setCell ⟨p, 0, none⟩ (.slice A3 N5 c3)).frozen? ⟨p, 1, none⟩ = false ∧ (w3.setCell ⟨p, 0, none⟩ (.slice A3 N5 c3)).cell? ⟨p, 1, none⟩ = some (.slice A' s.w.length c') from by
            have h1 := Bp.out.set_ 0 (.slice A3 N5 c3)
            exact ⟨h1.frozen 1, h1.at_ 1⟩)
          have g1 := HG.out.1
          have g2 := HG.out.2
          clear he
          go_wp2_with fail
          go_ret
          have hJL : jL s t = ⟨uni Dec.key s.d t.d, uni Mk.key s.w t.w⟩ := by unfold jL; rw [if_pos HE.out]; rfl
          rw [HE.out, hJL]
          exact ⟨rfl, LQ.put2 HF.out HFp.out B3.out Bp.out O3.out O4.out (by rw [← hJL]; exact jL_ok HK.out HK'.out)⟩

set_option maxHeartbeats 4000000 in
theorem rjoin_con (w : World) (B p : Nat) (F : Nat → Prop) (s : Led) (B' q : Nat) (F' : Nat → Prop) (t : Led) (h : LQ w B F p s) (h' : LQ w B' F' q t) (hc : ¬ Agr Dec.key s.d t.d) :
    Calls Tryz.prog 10 #[.pointer (some ⟨p, 0, none⟩), .pointer (some ⟨q, 0, none⟩)] w fun e w' => e = .returned (.int .i64 10) ∧ Below w.heap.size w w' := by
  have HC := hide hc
  have HK := hide h.ok
  have HK' := hide h'.ok
  obtain ⟨_, hF, hFp, A, c, A', c', hbx, hd, hw, _, _⟩ := h
  obtain ⟨_, _, _, A2, c2, A2', c2', hbx2, hd2, hw2, _, _⟩ := h'
  have HB := hide hbx
  have HB2 := hide hbx2
  have D1 := hide hd.sl
  have D2 := hide hd2.sl
  have n1' : s.d.length ≤ 400 := Nat.le_trans HK.out.2.2.1 (by decide)
  have n3' : t.d.length ≤ 400 := Nat.le_trans HK'.out.2.2.1 (by decide)
  clear hc hF hFp hbx hd hw hbx2 hd2 hw2
  have KS : Hid (∀ w', Below w.heap.size w w' → w'.cell? ⟨p, 0, none⟩ = some (.slice A s.d.length c) ∧ w'.cell? ⟨q, 0, none⟩ = some (.slice A2 t.d.length c2)) := fun w' g => ⟨(HB.out.below g HB.out.lt).at_ 0, (HB2.out.below g HB2.out.lt).at_ 0⟩
  have B1 := hide (Below.refl w.heap.size w)
  have S1 := HK.out.1
  have S2 := HK'.out.1
  have V1 := HK.out.2.1
  have V2 := HK'.out.2.1
  have HU := hide (fun (W : World) (h : Below w.heap.size w W) => rdecsno_any A s.d.length c s.d A2 t.d.length c2 t.d W (D1.out.keep h) (D2.out.keep h) S1 S2 V1 V2 n1' n3' HC.out)
  clear S1 S2 V1 V2 n1' n3'
  go_enter Tryz.func10, Tryz.ntmps10
  go_wp2_with fail
  go_region_held3 (fun w' => w'.cell? ⟨p, 0, none⟩ = some (.slice A s.d.length c) ∧ w'.cell? ⟨q, 0, none⟩ = some (.slice A2 t.d.length c2))
    (exact KS.out _ (by ((repeat (first | (with_reducible assumption) | (with_reducible exact B1.out) | (with_reducible exact Below.refl _ _) | (with_reducible refine Below.drewS ?_) | (with_reducible refine Below.allocS ?_ _))); (first | done | fail))))
    (first
      | (go_at_call 31; (with_reducible refine (HU.out _ (by ((repeat (first | (with_reducible assumption) | (with_reducible exact B1.out) | (with_reducible exact Below.refl _ _) | (with_reducible refine Below.drewS ?_) | (with_reducible refine Below.allocS ?_ _))); (first | done | fail)))).mono ?_); rintro e w2 ⟨rfl, b3⟩; have b4 := Below.next B1.out.drew b3))
  all_goals
    have B2 := hide b4
    clear b3 b4
    go_wp2_with fail
    go_ret
    exact ⟨rfl, B2.out⟩
theorem rjoin_any (w : World) (B p : Nat) (F : Nat → Prop) (s : Led) (B' q : Nat) (F' : Nat → Prop) (t : Led) (h : LQ w B F p s) (h' : LQ w B' F' q t) :
    Calls Tryz.prog 10 #[.pointer (some ⟨p, 0, none⟩), .pointer (some ⟨q, 0, none⟩)] w fun e w' => e = .returned (.int .i64 (jE s t)) ∧ LQ w' B (Plus F w w') p (jL s t) ∧ Turn F w w' := by
  by_cases hc : Agr Dec.key s.d t.d
  · exact rjoin_agr w B p F s B' q F' t h h' hc
  · have he : jE s t = 10 := by unfold jE; rw [if_neg hc]
    have hL : jL s t = s := by unfold jL; rw [he, if_neg (by decide)]
    refine (rjoin_con w B p F s B' q F' t h h' hc).mono ?_
    rintro e w' ⟨rfl, g⟩
    rw [he, hL]
    exact ⟨rfl, lq_same h g⟩
set_option maxHeartbeats 2000000 in
theorem rsame_any (w : World) (B p : Nat) (F : Nat → Prop) (s : Led) (B' q : Nat) (F' : Nat → Prop) (t : Led) (h : LQ w B F p s) (h' : LQ w B' F' q t) (r : Bool) (hr : decide (s = t) = r) :
    Calls Tryz.prog 14 #[.pointer (some ⟨p, 0, none⟩), .pointer (some ⟨q, 0, none⟩)] w fun e w' => e = .returned (.bool r) ∧ Below w.heap.size w w' := by
  have H := hide h
  have H' := hide h'
  have HR := hide hr
  have n1 : s.d.length ≤ 1000 := Nat.le_trans h.ok.2.2.1 (by decide)
  have n2 : s.w.length ≤ 1000 := Nat.le_trans h.ok.2.2.2.2.2 (by decide)
  have n3 : t.d.length ≤ 1000 := Nat.le_trans h'.ok.2.2.1 (by decide)
  have n4 : t.w.length ≤ 1000 := Nat.le_trans h'.ok.2.2.2.2.2 (by decide)
  clear h h' hr
  go_enter Tryz.func14, Tryz.ntmps14
  go_wp2_with fail
  refine (rmade_any w B p F s H.out).mono ?_
  rintro e w1 ⟨A1, c1, rfl, o1, rfl⟩
  have O1 := hide o1
  clear o1
  go_wp2_with fail
  refine (rmade_any w B' q F' t H'.out).mono ?_
  rintro e w1 ⟨A2, c2, rfl, o2, rfl⟩
  have O2 := hide o2
  clear o2
  go_wp2_with fail
  refine (baseD_any A1 _ c1 s.d A2 _ c2 t.d w O1.out O2.out n1 n3 _ rfl).mono ?_
  rintro e w3 ⟨rfl, g3⟩
  have B3 := hide g3.below
  clear g3
  by_cases hd : s.d = t.d
  · rw [decide_eq_true hd]
    go_wp2_with fail
    refine (rwithdrawn_any w3 B p F s (H.out.keep B3.out)).mono ?_
    rintro e w4 ⟨A3, c3, rfl, o3, rfl⟩
    have O3 := hide o3
    clear o3
    go_wp2_with fail
    refine (rwithdrawn_any w3 B' q F' t (H'.out.keep B3.out)).mono ?_
    rintro e w4 ⟨A4, c4, rfl, o4, rfl⟩
    have O4 := hide o4
    clear o4
    go_wp2_with fail
    refine (baseM_any A3 _ c3 s.w A4 _ c4 t.w w3 O3.out O4.out n2 n4 _ rfl).mono ?_
    rintro e w6 ⟨rfl, g6⟩
    have B6 := hide (belGr B3.out g6)
    clear g6
    go_wp2_with fail
    go_ret
    refine ⟨?_, B6.out⟩
    rw [← HR.out]
    by_cases hw : s.w = t.w
    · rw [decide_eq_true hw, decide_eq_true (led_ext hd hw)]; rfl
    · rw [decide_eq_false hw, decide_eq_false (fun e => hw (by rw [e]))]; rfl
  · rw [decide_eq_false hd]
    go_wp2_with fail
    go_ret
    exact ⟨by rw [← HR.out, decide_eq_false (fun e => hd (by rw [e]))]; rfl, B3.out⟩
theorem lot_rjoin (w : World) (B : Nat) (l : List Ob) (i p j q : Nat) (s t : Led) (h : Lot w B l) (hi : l[i]? = some (.refr p s)) (hj : l[j]? = some (.refr q t)) :
    Calls Tryz.prog 10 #[.pointer (some ⟨p, 0, none⟩), .pointer (some ⟨q, 0, none⟩)] w fun e w' => e = .returned (.int .i64 (jE s t)) ∧ Lot w' B (l.set i (.refr p (jL s t))) ∧ Ext B w w' := by
  obtain ⟨F, h1, h2⟩ := h.upd hi
  obtain ⟨G, h3⟩ := h.get hj
  refine (rjoin_any w B p F s B q G t h1 h3).mono ?_
  rintro e w' ⟨rfl, h4, h5⟩
  exact ⟨rfl, h2 w' (.refr p (jL s t)) h5 h4⟩
theorem lot_rsame (w : World) (B : Nat) (l : List Ob) (i p j q : Nat) (s t : Led) (h : Lot w B l) (hi : l[i]? = some (.refr p s)) (hj : l[j]? = some (.refr q t)) (r : Bool) (hr : decide (s = t) = r) :
    Calls Tryz.prog 14 #[.pointer (some ⟨p, 0, none⟩), .pointer (some ⟨q, 0, none⟩)] w fun e w' => e = .returned (.bool r) ∧ Lot w' B l ∧ Ext B w w' := by
  obtain ⟨F, h1⟩ := h.get hi
  obtain ⟨G, h3⟩ := h.get hj
  refine (rsame_any w B p F s B q G t h1 h3 r hr).mono ?_
  rintro e w' ⟨rfl, h4⟩
  exact ⟨rfl, h.keep h4, h.1, h4.mono h.1⟩
set_option maxHeartbeats 4000000 in
theorem model_any (A : Option Addr) (n c : Nat) (ops : List Opr) (w : World) (B : Nat) (l : List Ob) (h : Lot w B l) (ha : AR w B A n ops) (hn : n ≤ 200) :
    Calls Tryz.prog 8 #[.slice A n c] w fun e w' => ∃ p, e = .returned (.pointer (some ⟨p, 0, none⟩)) ∧ Lot w' B (l ++ [.refr p (runL ops)]) ∧ Ext B w w' := by
  have HA := hide ha
  have HL := hide ha.len
  have H := hide h
  clear ha h
  go_enter Tryz.func8, Tryz.ntmps8
  go_wp2_with fail
  refine (lot_rnew w B l H.out).mono ?_
  rintro e w1 ⟨p, rfl, h1, h2⟩
  have H1 := hide h1
  have E1 := hide h2
  clear h1 h2
  go_wp2_with fail
  go_loopw [4] (fun iv wr => ∃ i : Nat, iv = .int .i64 (i : Int) ∧ i ≤ n ∧ Hid (Lot wr B (l ++ [.refr p (runL (ops.take i))])) ∧ Hid (Ext B w wr)) (fun iv _ => n - (RowKit.intOf iv).toNat)
  case atStart => exact ⟨0, rfl, Nat.zero_le _, H1, E1⟩
  case round =>
    obtain ⟨i, rfl, hi, HLt, HE⟩ := hrel
    by_cases hlt : i < n
    · obtain ⟨b, o, y, rfl, hb, hy, hc⟩ := (HA.out.ext HE.out).at_ hlt
      obtain ⟨k0, k1, k2, k3, k4, k5, k6, k7⟩ := hc _ (Ext.refl (Nat.le_trans HE.out.1 HE.out.size))
      have d0 : decide ((i : Int) < (n : Int)) = true := decide_eq_true (by omega)
      have a1 : (0 : Int) ≤ (i : Int) := by omega
      have a2 : (i : Int) < (n : Int) := by omega
      have HR := hide (runL_next hy)
      clear hy hc
      go_wp2_with fail
      refine (lot_refer wr B _ l.length p _ y HLt.out (at_last _ _)).mono ?_
      rintro e w2 ⟨rfl, h3, h4⟩
      rw [set_last, ← HR.out] at h3
      have H3 := hide h3
      have H4 := hide (HE.out.ext h4)
      clear h3 h4 HLt k0 k1 k2 k3 k4 k5 k6 k7
      go_wp2_with fail
      go_roundw
      case rel => exact ⟨i + 1, by go_num, by omega, H3, H4⟩
      case measure => simp [RowKit.intOf]; omega
    · obtain rfl : i = n := by omega
      have d0 : decide ((i : Int) < (i : Int)) = false := decide_eq_false (by omega)
      have ht : ops.take i = ops := List.take_of_length_le (by rw [HL.out]; exact Nat.le_refl _)
      rw [ht] at HLt
      go_wp2_with fail
      go_ret
      exact ⟨p, rfl, HLt.out, HE.out⟩
end Go.Proofs.YtalbdclcappjpaaGreat
