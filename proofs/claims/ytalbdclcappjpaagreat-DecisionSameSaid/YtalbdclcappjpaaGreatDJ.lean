/- Join. -/
import Derived.Test.YtalbdclcappjpaaGreatDU
namespace Go.Proofs.YtalbdclcappjpaaGreat
open Go Go.RowKit Go.Lib
theorem LN.put2 {w w2 : World} {B p n1 n2 c1 c2 : Nat} {F : Nat → Prop} {A1 A2 : Option Addr} {ds : List Dec} {ms : List Mk} {u v : Value} (hF : ∀ k, F k → B ≤ k ∧ k < w.heap.size) (hFp : F p) (hB : Below w.heap.size w w2) (hb : Box w2 p #[u, v] 57)
    (o1 : Ow eD w2 w.heap.size A1 n1 c1 ds) (o2 : Ow eM w2 w.heap.size A2 n2 c2 ms) (hok : Led.Ok ⟨ds, ms⟩) :
    LN ((w2.setCell ⟨p, 0, none⟩ (.slice A1 n1 c1)).setCell ⟨p, 1, none⟩ (.slice A2 n2 c2)) B (Plus F w ((w2.setCell ⟨p, 0, none⟩ (.slice A1 n1 c1)).setCell ⟨p, 1, none⟩ (.slice A2 n2 c2))) p ⟨ds, ms⟩ ∧ Turn F w ((w2.setCell ⟨p, 0, none⟩ (.slice A1 n1 c1)).setCell ⟨p, 1, none⟩ (.slice A2 n2 c2)) := by
  have l1 := o1.len
  have l2 := o2.len
  subst l1; subst l2
  have ts : Turn (Is p) w2 ((w2.setCell ⟨p, 0, none⟩ (.slice A1 ds.length c1)).setCell ⟨p, 1, none⟩ (.slice A2 ms.length c2)) := ((Turn.refl (Is p) w2).set 0 _ rfl).set 1 _ rfl
  have hsz : ((w2.setCell ⟨p, 0, none⟩ (.slice A1 ds.length c1)).setCell ⟨p, 1, none⟩ (.slice A2 ms.length c2)).heap.size = w2.heap.size := by simp [World.setCell]
  have q5 : Box ((w2.setCell ⟨p, 0, none⟩ (.slice A1 ds.length c1)).setCell ⟨p, 1, none⟩ (.slice A2 ms.length c2)) p #[.slice A1 ds.length c1, .slice A2 ms.length c2] 57 := by
    have := (hb.set_ 0 (.slice A1 ds.length c1)).set_ 1 (.slice A2 ms.length c2)
    simpa using this
  have hpl := hF p hFp
  have hs := hB.size
  refine ⟨⟨hok, fun k hk => ?_, .inl hFp, A1, c1, A2, c2, q5, ?_, ?_, fun g hg => .inr ?_, fun g hg => .inr ?_⟩, (Turn.of hB).trans (ts.mono fun k _ hk => by rw [show k = p from hk]; exact hFp)⟩
  · rw [hsz]
    rcases hk with hk | hk
    · have := hF k hk; omega
    · rw [hsz] at hk; omega
  · exact (o1.turn ts fun g hg e => ow_box o1 hb (by decide) (by rw [← show g = p from e]; exact hg)).low (by omega)
  · exact (o2.turn ts fun g hg e => ow_box o2 hb (by decide) (by rw [← show g = p from e]; exact hg)).low (by omega)
  · rw [hsz]; exact o1.blk g hg
  · rw [hsz]; exact o2.blk g hg
set_option maxHeartbeats 1000000 in
theorem join_nil1 (w : World) (v : Value) : Calls Tryz.prog 9 #[.pointer none, v] w fun e w' => e = .returned (.int .i64 1) ∧ Gr w w' := by
  go_enter Tryz.func9, Tryz.ntmps9
  go_wp2_with fail
  go_ret
  exact ⟨rfl, (by ((repeat (first | (with_reducible assumption) | (with_reducible exact Gr.refl _) | (with_reducible refine Gr.drew ?_) | (with_reducible refine Gr.alloc ?_ _) | (with_reducible refine Gr.trans ?_ (by assumption)))); (first | done | fail)))⟩
set_option maxHeartbeats 1000000 in
theorem join_nil2 (w : World) (p : Nat) : Calls Tryz.prog 9 #[.pointer (some ⟨p, 0, none⟩), .pointer none] w fun e w' => e = .returned (.int .i64 1) ∧ Gr w w' := by
  go_enter Tryz.func9, Tryz.ntmps9
  go_wp2_with fail
  go_ret
  exact ⟨rfl, (by ((repeat (first | (with_reducible assumption) | (with_reducible exact Gr.refl _) | (with_reducible refine Gr.drew ?_) | (with_reducible refine Gr.alloc ?_ _) | (with_reducible refine Gr.trans ?_ (by assumption)))); (first | done | fail)))⟩
set_option maxHeartbeats 2000000 in
theorem join_con (w : World) (B p : Nat) (F : Nat → Prop) (s : Led) (B' q : Nat) (F' : Nat → Prop) (t : Led) (h : LN w B F p s) (h' : LN w B' F' q t) (hc : ¬ Agr Dec.key s.d t.d) :
    Calls Tryz.prog 9 #[.pointer (some ⟨p, 0, none⟩), .pointer (some ⟨q, 0, none⟩)] w fun e w' => e = .returned (.int .i64 10) ∧ Gr w w' := by
  have hb : decide (∃ x ∈ t.d, Bad s x) = true := decide_eq_true (Decidable.not_not.1 fun hn => hc (bad_agr.1 hn))
  have H := hide (contra_any w B p F s B' q F' t h h')
  rw [hb] at H
  clear h h' hc hb
  go_enter Tryz.func9, Tryz.ntmps9
  go_wp2_with fail
  refine H.out.mono ?_
  rintro e w1 ⟨rfl, g1⟩
  have G1 := hide g1
  clear g1
  go_wp2_with fail
  go_ret
  exact ⟨rfl, G1.out⟩
set_option maxHeartbeats 8000000 in
theorem join_agr (w : World) (B p : Nat) (F : Nat → Prop) (s : Led) (B' q : Nat) (F' : Nat → Prop) (t : Led) (h : LN w B F p s) (h' : LN w B' F' q t) (hc : Agr Dec.key s.d t.d) :
    Calls Tryz.prog 9 #[.pointer (some ⟨p, 0, none⟩), .pointer (some ⟨q, 0, none⟩)] w fun e w' => e = .returned (.int .i64 (jE s t)) ∧ LN w' B (Plus F w w') p (jL s t) ∧ Turn F w w' := by
  have hb : decide (∃ x ∈ t.d, Bad s x) = false := decide_eq_false (bad_agr.2 hc)
  have H := hide (contra_any w B p F s B' q F' t h h')
  rw [hb] at H
  have L1 := hide h
  have L2 := hide h'
  have HC := hide hc
  have HM := hide (agrM h.ok h'.ok)
  have HK := hide h.ok
  have HK' := hide h'.ok
  obtain ⟨_, hF, hFp, A, c, A', c', hbx, hd, hw, _, _⟩ := h
  obtain ⟨_, _, _, A2, c2, A2', c2', hbx2, hd2, hw2, _, _⟩ := h'
  have HF := hide hF
  have HFp := hide hFp
  have HB := hide hbx
  have HB2 := hide hbx2
  have D1 := hide hd.sl
  have M1 := hide hw.sl
  have D2 := hide hd2.sl
  have M2 := hide hw2.sl
  have n1 := HK.out.2.2.1
  have n2 := HK.out.2.2.2.2.2
  have n3 := HK'.out.2.2.1
  have n4 := HK'.out.2.2.2.2.2
  clear hc hb hF hFp hbx hd hw hbx2 hd2 hw2
  go_enter Tryz.func9, Tryz.ntmps9
  go_wp2_with fail
  refine H.out.mono ?_
  rintro e w1 ⟨rfl, g1⟩
  have G1 := hide g1
  have KS : Hid (∀ w', Below w.heap.size w w' → w'.cell? ⟨p, 0, none⟩ = some (.slice A s.d.length c) ∧ w'.cell? ⟨q, 0, none⟩ = some (.slice A2 t.d.length c2)) := fun w' g => ⟨(HB.out.below g HB.out.lt).at_ 0, (HB2.out.below g HB2.out.lt).at_ 0⟩
  have KS' : Hid (∀ w', Below w.heap.size w w' → w'.cell? ⟨p, 1, none⟩ = some (.slice A' s.w.length c') ∧ w'.cell? ⟨q, 1, none⟩ = some (.slice A2' t.w.length c2')) := fun w' g => ⟨(HB.out.below g HB.out.lt).at_ 1, (HB2.out.below g HB2.out.lt).at_ 1⟩
  have B1 := hide g1.below
  have S1 := HK.out.1
  have S2 := HK'.out.1
  have V1 := HK.out.2.1
  have V2 := HK'.out.2.1
  have S3 := HK.out.2.2.2.1
  have S4 := HK'.out.2.2.2.1
  have V3 := HK.out.2.2.2.2.1
  have V4 := HK'.out.2.2.2.2.1
  have HU := hide (fun (W : World) (h : Below w.heap.size w W) => unionD_any A s.d.length c s.d A2 t.d.length c2 t.d W (D1.out.keep h) (D2.out.keep h) S1 S2 V1 V2 HC.out n1 n3)
  have HV := hide (fun (W : World) (h : Below w.heap.size w W) => unionM_any A' s.w.length c' s.w A2' t.w.length c2' t.w W (M1.out.keep h) (M2.out.keep h) S3 S4 V3 V4 HM.out n2 n4)
  clear g1 S1 S2 V1 V2 S3 S4 V3 V4 H G1
  go_wp2_with fail
  go_region_held3 (fun w' => w'.cell? ⟨p, 0, none⟩ = some (.slice A s.d.length c) ∧ w'.cell? ⟨q, 0, none⟩ = some (.slice A2 t.d.length c2))
    (exact KS.out _ (by ((repeat (first | (with_reducible assumption) | (with_reducible exact B1.out) | (with_reducible exact Below.refl _ _) | (with_reducible refine Below.drewS ?_) | (with_reducible refine Below.allocS ?_ _))); (first | done | fail))))
    (first
      | (go_at_call 27; (with_reducible refine (HU.out _ (by ((repeat (first | (with_reducible assumption) | (with_reducible exact B1.out) | (with_reducible exact Below.refl _ _) | (with_reducible refine Below.drewS ?_) | (with_reducible refine Below.allocS ?_ _))); (first | done | fail)))).mono ?_); rintro e w2 ⟨A3, c3, rfl, o3, b3⟩; have b4 := Below.next B1.out.drew b3))
  all_goals
    have B2 := hide b4
    have O3 := hide (o3.low (show w.heap.size ≤ _ from B1.out.size))
    clear b3 b4 o3
    go_wp2_with fail
    go_region_held3 (fun w' => w'.cell? ⟨p, 1, none⟩ = some (.slice A' s.w.length c') ∧ w'.cell? ⟨q, 1, none⟩ = some (.slice A2' t.w.length c2'))
      (exact KS'.out _ (by ((repeat (first | (with_reducible assumption) | (with_reducible exact B2.out) | (with_reducible exact Below.refl _ _) | (with_reducible refine Below.drewS ?_) | (with_reducible refine Below.allocS ?_ _))); (first | done | fail))))
      (first
        | (go_at_call 29; (with_reducible refine (HV.out _ (by ((repeat (first | (with_reducible assumption) | (with_reducible exact B2.out) | (with_reducible exact Below.refl _ _) | (with_reducible refine Below.drewS ?_) | (with_reducible refine Below.allocS ?_ _))); (first | done | fail)))).mono ?_); rintro e w3 ⟨A4, c4, rfl, o4, b5⟩; have b6 := Below.next B2.out.drew b5))
    all_goals
      have B3 := hide b6
      have O3 := hide (O3.out.keep (Below.next ((Below.refl w2.heap.size w2).drew) b5))
      have O4 := hide (o4.low (show w.heap.size ≤ _ from B2.out.size))
      have Bp := hide (HB.out.below B3.out HB.out.lt)
      have k0 : w3.cell? ⟨p, 0, none⟩ = some (.slice A s.d.length c) := Bp.out.at_ 0
      have k1 : w3.cell? ⟨p, 1, none⟩ = some (.slice A' s.w.length c') := Bp.out.at_ 1
      have f0 : w3.frozen? ⟨p, 0, none⟩ = false := Bp.out.frozen 0
      have f1 : w3.frozen? ⟨p, 1, none⟩ = false := Bp.out.frozen 1
      have HJ := hide (show jE s t = if (uni Dec.key s.d t.d).length ≤ 200 ∧ (uni Mk.key s.w t.w).length ≤ 200 then 0 else 6 from by unfold jE; rw [if_pos HC.out])
      clear b5 b6 o4
      obtain ⟨N5, hN5⟩ : ∃ N, (uni Dec.key s.d t.d).length = N := ⟨_, rfl⟩
      obtain ⟨N6, hN6⟩ : ∃ N, (uni Mk.key s.w t.w).length = N := ⟨_, rfl⟩
      have HN5 := hide hN5
      have HN6 := hide hN6
      rw [hN5] at O3 HJ
      rw [hN6] at O4 HJ
      rw [hN5, hN6]
      clear hN5 hN6
      have bad : jE s t ≠ 0 → LN w3 B (Plus F w w3) p (jL s t) ∧ Turn F w w3 := fun h => by
        have e : jL s t = s := by unfold jL; rw [if_neg h]
        rw [e]
        exact ⟨L1.out.same B3.out, Turn.of B3.out⟩
      have BAD := hide bad
      clear bad
      by_cases h5 : 200 < N5
      · have x1 : (200 : Int) < (N5 : Int) := by omega
        have he : jE s t = 6 := by rw [HJ.out, if_neg (by omega)]
        have HE := hide he
        clear he
        go_wp2_with fail
        go_ret
        rw [HE.out] at BAD ⊢
        exact ⟨rfl, BAD.out (by decide)⟩
      · have x1 : ¬ ((200 : Int) < (N5 : Int)) := by omega
        by_cases h6 : 200 < N6
        · have x2 : (200 : Int) < (N6 : Int) := by omega
          have he : jE s t = 6 := by rw [HJ.out, if_neg (by omega)]
          have HE := hide he
          clear he
          go_wp2_with fail
          go_ret
          rw [HE.out] at BAD ⊢
          exact ⟨rfl, BAD.out (by decide)⟩
        · have x2 : ¬ ((200 : Int) < (N6 : Int)) := by omega
          have he : jE s t = 0 := by rw [HJ.out, if_pos (by omega)]
          have HE := hide he
          have HG := hide (show (w3.setCell ⟨p, 0, none⟩ (.slice A3 N5 c3)).frozen? ⟨p, 1, none⟩ = false ∧ (w3.setCell ⟨p, 0, none⟩ (.slice A3 N5 c3)).cell? ⟨p, 1, none⟩ = some (.slice A' s.w.length c') from by
            have h1 := Bp.out.set_ 0 (.slice A3 N5 c3)
            exact ⟨h1.frozen 1, h1.at_ 1⟩)
          have g1 := HG.out.1
          have g2 := HG.out.2
          clear he
          go_wp2_with fail
          go_ret
          have hJL : jL s t = ⟨uni Dec.key s.d t.d, uni Mk.key s.w t.w⟩ := by unfold jL; rw [if_pos HE.out]; rfl
          rw [HE.out, hJL]
          exact ⟨rfl, LN.put2 HF.out HFp.out B3.out Bp.out O3.out O4.out (by rw [← hJL]; exact jL_ok HK.out HK'.out)⟩
theorem join_any (w : World) (B p : Nat) (F : Nat → Prop) (s : Led) (B' q : Nat) (F' : Nat → Prop) (t : Led) (h : LN w B F p s) (h' : LN w B' F' q t) :
    Calls Tryz.prog 9 #[.pointer (some ⟨p, 0, none⟩), .pointer (some ⟨q, 0, none⟩)] w fun e w' => e = .returned (.int .i64 (jE s t)) ∧ LN w' B (Plus F w w') p (jL s t) ∧ Turn F w w' := by
  by_cases hc : Agr Dec.key s.d t.d
  · exact join_agr w B p F s B' q F' t h h' hc
  · have he : jE s t = 10 := by unfold jE; rw [if_neg hc]
    have hL : jL s t = s := by unfold jL; rw [he, if_neg (by decide)]
    refine (join_con w B p F s B' q F' t h h' hc).mono ?_
    rintro e w' ⟨rfl, g⟩
    rw [he, hL]
    exact ⟨rfl, h.same g.below, g.turn F⟩
end Go.Proofs.YtalbdclcappjpaaGreat
