/- Make, Withdraw and Standing, whole. -/
import Derived.Test.YtalbdclcappjpaaGreatDX
namespace Go.Proofs.YtalbdclcappjpaaGreat
open Go Go.RowKit Go.Lib
theorem fnd_d {l : List Dec} (hs : Srt Dec.key l) (d : Dec) : (fnd Dec.key d.key l = true ↔ ∃ y ∈ l, y.key = d.key) := by
  unfold fnd
  rw [decide_eq_true_iff]
  exact (hs.found d.key).symm
theorem fnd_m {l : List Mk} (hs : Srt Mk.key l) (hv : ∀ x ∈ l, vM x = true) {m : Mk} (hm : vM m = true) : (fnd Mk.key m.key l = true ↔ m ∈ l) := by
  unfold fnd
  rw [decide_eq_true_iff, ← hs.found m.key]
  constructor
  · rintro ⟨y, hy, e⟩
    rw [← (key_inj (hv y hy) hm).1 e]; exact hy
  · intro h; exact ⟨m, h, rfl⟩
theorem led_same {w w' : World} {B p : Nat} {F : Nat → Prop} {s : Led} (h : LN w B F p s) (g : Gr w w') : LN w' B (Plus F w w') p s ∧ Turn F w w' := ⟨h.same g.below, g.turn F⟩
theorem make_any (w : World) (B p : Nat) (F : Nat → Prop) (s : Led) (d : Dec) (h : LN w B F p s) :
    Calls Tryz.prog 18 #[.pointer (some ⟨p, 0, none⟩), .agg #[.int .i64 d.u, .int .i64 d.n, .int .i64 d.k, .int .i64 d.a, .int .i64 d.b]] w fun e w' => e = .returned (.int .i64 (mkE s.d d)) ∧ LN w' B (Plus F w w') p ⟨mkL s.d d, s.w⟩ ∧ Turn F w w' := by
  have hok := h.ok
  by_cases hv : vD d = true
  · cases hf : fnd Dec.key d.key s.d with
    | true =>
      have hf' := hf
      unfold fnd at hf'
      obtain ⟨y, hy, hk⟩ := of_decide_eq_true hf'
      refine (make_hit w B p F s d y h hv hf hy _ rfl).mono ?_
      rintro e w' ⟨rfl, g⟩
      have hym := List.mem_of_getElem? hy
      by_cases hyd : y = d
      · have hm : d ∈ s.d := hyd ▸ hym
        have he : mkE s.d d = 0 := mkE_of hv (.inl hm)
        have hL : mkL s.d d = s.d := by unfold mkL; rw [if_pos he, put_in hm]
        rw [he, hL, decide_eq_true hyd]
        exact ⟨rfl, led_same h g⟩
      · have hm : d ∉ s.d := fun hm => hyd (hok.1.inj hym hm hk)
        have he : mkE s.d d = 10 := by unfold mkE; rw [if_pos hv, if_neg hm, if_pos ⟨y, hym, hk⟩]
        have hL : mkL s.d d = s.d := by unfold mkL; rw [he, if_neg (by decide)]
        rw [he, hL, decide_eq_false hyd]
        exact ⟨rfl, led_same h g⟩
    | false =>
      have hno : ¬ ∃ y ∈ s.d, y.key = d.key := fun hh => by rw [(fnd_d hok.1 d).2 hh] at hf; cases hf
      have hm : d ∉ s.d := fun hm => hno ⟨d, hm, rfl⟩
      by_cases hl : s.d.length < 200
      · have he : mkE s.d d = 0 := mkE_of hv (.inr ⟨fun y hy e => hno ⟨y, hy, e⟩, hl⟩)
        have hL : mkL s.d d = ins Dec.key d s.d := by unfold mkL; rw [if_pos he, put_out hm]
        have hN := mkL_ok (d := d) hok.1 hok.2.1 hok.2.2.1
        rw [hL] at hN
        rw [he, hL]
        exact make_new w B p F s d h hv hf hl ⟨hN.1, hN.2.1, hN.2.2, hok.2.2.2⟩
      · have he : mkE s.d d = 6 := by unfold mkE; rw [if_pos hv, if_neg hm, if_neg hno, if_neg hl]
        have hL : mkL s.d d = s.d := by unfold mkL; rw [he, if_neg (by decide)]
        rw [he, hL]
        refine (make_full w B p F s d h hv hf hl).mono ?_
        rintro e w' ⟨rfl, g⟩
        exact ⟨rfl, led_same h g⟩
  · have he : mkE s.d d = 1 := by unfold mkE; rw [if_neg hv]
    have hL : mkL s.d d = s.d := by unfold mkL; rw [he, if_neg (by decide)]
    rw [he, hL]
    refine (make_no w p d (Bool.eq_false_iff.2 hv)).mono ?_
    rintro e w' ⟨rfl, g⟩
    exact ⟨rfl, led_same h g⟩
theorem wd_any (w : World) (B p : Nat) (F : Nat → Prop) (s : Led) (d : Mk) (h : LN w B F p s) :
    Calls Tryz.prog 19 #[.pointer (some ⟨p, 0, none⟩), .agg #[.int .i64 d.u, .int .i64 d.n]] w fun e w' => e = .returned (.int .i64 (wdE s.w d)) ∧ LN w' B (Plus F w w') p ⟨s.d, wdL s.w d⟩ ∧ Turn F w w' := by
  have hok := h.ok
  by_cases hv : vM d = true
  · cases hf : fnd Mk.key d.key s.w with
    | true =>
      have hm : d ∈ s.w := (fnd_m hok.2.2.2.1 hok.2.2.2.2.1 hv).1 hf
      have he : wdE s.w d = 0 := wdE_of hv (.inl hm)
      have hL : wdL s.w d = s.w := by unfold wdL; rw [if_pos he, put_in hm]
      rw [he, hL]
      refine (wd_hit w B p F s d h hv hf).mono ?_
      rintro e w' ⟨rfl, g⟩
      exact ⟨rfl, led_same h g⟩
    | false =>
      have hm : d ∉ s.w := fun hm => by rw [(fnd_m hok.2.2.2.1 hok.2.2.2.2.1 hv).2 hm] at hf; cases hf
      by_cases hl : s.w.length < 200
      · have he : wdE s.w d = 0 := wdE_of hv (.inr hl)
        have hL : wdL s.w d = ins Mk.key d s.w := by unfold wdL; rw [if_pos he, put_out hm]
        have hN := wdL_ok (d := d) hok.2.2.2.1 hok.2.2.2.2.1 hok.2.2.2.2.2
        rw [hL] at hN
        rw [he, hL]
        exact wd_new w B p F s d h hv hf hl ⟨hok.1, hok.2.1, hok.2.2.1, hN⟩
      · have he : wdE s.w d = 6 := by unfold wdE; rw [if_pos hv, if_neg hm, if_neg hl]
        have hL : wdL s.w d = s.w := by unfold wdL; rw [he, if_neg (by decide)]
        rw [he, hL]
        refine (wd_full w B p F s d h hv hf hl).mono ?_
        rintro e w' ⟨rfl, g⟩
        exact ⟨rfl, led_same h g⟩
  · have he : wdE s.w d = 1 := by unfold wdE; rw [if_neg hv]
    have hL : wdL s.w d = s.w := by unfold wdL; rw [he, if_neg (by decide)]
    rw [he, hL]
    refine (wd_no w p d (Bool.eq_false_iff.2 hv)).mono ?_
    rintro e w' ⟨rfl, g⟩
    exact ⟨rfl, led_same h g⟩
set_option maxHeartbeats 1000000 in
theorem make_nil (w : World) (d : Dec) : Calls Tryz.prog 18 #[.pointer none, .agg #[.int .i64 d.u, .int .i64 d.n, .int .i64 d.k, .int .i64 d.a, .int .i64 d.b]] w fun e w' => e = .returned (.int .i64 1) ∧ Gr w w' := by
  go_enter Tryz.func18, Tryz.ntmps18
  go_wp2_with fail
  go_ret
  exact ⟨rfl, (by ((repeat (first | (with_reducible assumption) | (with_reducible exact Gr.refl _) | (with_reducible refine Gr.drew ?_) | (with_reducible refine Gr.alloc ?_ _) | (with_reducible refine Gr.trans ?_ (by assumption)))); (first | done | fail)))⟩
set_option maxHeartbeats 1000000 in
theorem wd_nil (w : World) (d : Mk) : Calls Tryz.prog 19 #[.pointer none, .agg #[.int .i64 d.u, .int .i64 d.n]] w fun e w' => e = .returned (.int .i64 1) ∧ Gr w w' := by
  go_enter Tryz.func19, Tryz.ntmps19
  go_wp2_with fail
  go_ret
  exact ⟨rfl, (by ((repeat (first | (with_reducible assumption) | (with_reducible exact Gr.refl _) | (with_reducible refine Gr.drew ?_) | (with_reducible refine Gr.alloc ?_ _) | (with_reducible refine Gr.trans ?_ (by assumption)))); (first | done | fail)))⟩
set_option maxHeartbeats 1000000 in
theorem clone_nil (w : World) : Calls Tryz.prog 13 #[.pointer none] w fun e w' => e = .returned (.pointer none) ∧ w = w' := by
  go_enter Tryz.func13, Tryz.ntmps13
  go_wp2_with fail
  go_ret
  exact ⟨rfl, rfl⟩
set_option maxHeartbeats 1000000 in
theorem stand_nil (w : World) : Calls Tryz.prog 20 #[.pointer none] w fun e w' => e = .returned (.slice none 0 0) ∧ w = w' := by
  go_enter Tryz.func20, Tryz.ntmps20
  go_wp2_with fail
  go_ret
  exact ⟨rfl, rfl⟩
/-- what stands of the first i -/
def stI (s : Led) (i : Nat) : List Dec := (s.d.take i).filter fun x => decide (x.mk_ ∉ s.w)
theorem stI_len (s : Led) (i : Nat) : (stI s i).length ≤ s.d.length := Nat.le_trans (List.length_filter_le _ _) (by rw [List.length_take]; omega)
theorem stI_all (s : Led) : stI s s.d.length = stL s := by unfold stI stL; rw [List.take_of_length_le (Nat.le_refl _)]
theorem stI_in {s : Led} {i : Nat} {y : Dec} (hy : s.d[i]? = some y) (h : y.mk_ ∈ s.w) : stI s (i + 1) = stI s i := by
  unfold stI
  rw [List.take_add_one, hy, List.filter_append]
  simp [h]
theorem stI_out {s : Led} {i : Nat} {y : Dec} (hy : s.d[i]? = some y) (h : y.mk_ ∉ s.w) : stI s (i + 1) = stI s i ++ [y] := by
  unfold stI
  rw [List.take_add_one, hy, List.filter_append]
  simp [h]
set_option maxHeartbeats 8000000 in
theorem stand_any (w : World) (B p : Nat) (F : Nat → Prop) (s : Led) (h : LN w B F p s) :
    Calls Tryz.prog 20 #[.pointer (some ⟨p, 0, none⟩)] w fun e w' => ∃ A c, e = .returned (.slice A (stL s).length c) ∧ Ow eD w' w.heap.size A (stL s).length c (stL s) ∧ Below w.heap.size w w' := by
  have H := hide h
  obtain ⟨hk, hF, hFp, A, c, A', c', hb, hd, hw, _, _⟩ := h
  have HK := hide hk
  have HS := hide hd.sl
  have p0 : w.cell? ⟨p, 0, none⟩ = some (.slice A s.d.length c) := hb.at_ 0
  have hn1 : s.d.length ≤ 200 := hk.2.2.1
  clear hk hF hFp hb hd hw
  go_enter Tryz.func20, Tryz.ntmps20
  go_wp2_with fail
  go_loopg [3, 15] s.d.length (fun gk v i wr => ∃ (j : Nat) (A1 : Option Addr) (c1 : Nat), j + gk = s.d.length ∧ i = .int .i64 (j : Int) ∧ v = .slice A1 (stI s j).length c1 ∧ Hid (Ow eD wr w.heap.size A1 (stI s j).length c1 (stI s j)) ∧ Hid (Below w.heap.size w wr))
  case atStart => exact ⟨0, none, 0, by omega, rfl, rfl, hide (Ow.nil_ _ _), hide (Below.refl _ _)⟩
  case round =>
    obtain ⟨j, A1, c1, hj, rfl, rfl, HO, HB⟩ := hrel
    by_cases hlt : j < s.d.length
    · obtain ⟨b, o, y, rfl, hl, hy, hcy⟩ := (HS.out.keep HB.out).atD hlt
      obtain ⟨m0, m1, m2, m3, m4⟩ := hcy
      have HY := hide hy
      have hvy : vD y = true := HK.out.2.1 y (List.mem_of_getElem? hy)
      have d0 : decide ((j : Int) < (s.d.length : Int)) = true := decide_eq_true (by omega)
      have a1 : (0 : Int) ≤ (j : Int) := by omega
      have a2 : (j : Int) < (s.d.length : Int) := by omega
      clear hy
      go_wp2_with fail
      refine (mark_any y _).mono ?_
      rintro e w2 ⟨rfl, g2⟩
      have G2 := hide (((Gr.refl wr).alloc (.cells #[.int .i64 y.u, .int .i64 y.n, .int .i64 y.k, .int .i64 y.a, .int .i64 y.b] 44)).trans g2)
      have B2 := hide ((Box.new wr #[.int .i64 y.u, .int .i64 y.n, .int .i64 y.k, .int .i64 y.a, .int .i64 y.b] 44).below g2.below (Box.new wr #[.int .i64 y.u, .int .i64 y.n, .int .i64 y.k, .int .i64 y.a, .int .i64 y.b] 44).lt)
      clear g2 m0 m1 m2 m3 m4
      go_wp2_with fail
      refine (pw_any w2 B p F s y.mk_ (H.out.keep (Below.next HB.out G2.out.below)) (vD_vM hvy)).mono ?_
      rintro e w3 ⟨rfl, g3⟩
      have G3 := hide (G2.out.trans g3)
      have B3 := hide (B2.out.below g3.below B2.out.lt)
      obtain ⟨b0, b1, b2, b3, b4⟩ := (show CellsD w3 wr.heap.size 0 y from ⟨B3.out.at_ 0, B3.out.at_ 1, B3.out.at_ 2, B3.out.at_ 3, B3.out.at_ 4⟩)
      clear g3 G2 B2
      cases hf : fnd Mk.key y.mk_.key s.w with
      | true =>
        have hm : y.mk_ ∈ s.w := (fnd_m HK.out.2.2.2.1 HK.out.2.2.2.2.1 (vD_vM hvy)).1 hf
        have HE := hide (stI_in HY.out hm)
        clear hf hm
        go_wp2_with fail
        go_roundg (s.d.length - (j + 1))
        case measure => omega
        case rel => exact ⟨j + 1, A1, c1, by omega, by go_num, by rw [HE.out], hide (by rw [HE.out]; exact HO.out.keep G3.out.below), hide (Below.next HB.out G3.out.below)⟩
      | false =>
        have hm : y.mk_ ∉ s.w := fun hm => by rw [(fnd_m HK.out.2.2.2.1 HK.out.2.2.2.2.1 (vD_vM hvy)).2 hm] at hf; cases hf
        have HE := hide (stI_out HY.out hm)
        have hln : (stI s j).length ≤ 200 := Nat.le_trans (stI_len s j) hn1
        have HR := hide (HO.out.keep (Below.next G3.out.below ((Below.refl _ _).alloc (Nat.le_refl _) (.cells #[.int .i64 y.u, .int .i64 y.n, .int .i64 y.k, .int .i64 y.a, .int .i64 y.b] 44))))
        have HN := hide (box_inD (newE w3 #[.int .i64 y.u, .int .i64 y.n, .int .i64 y.k, .int .i64 y.a, .int .i64 y.b] 44 rfl))
        have HB3 := hide (Below.next HB.out (Below.next G3.out.below ((Below.refl _ _).alloc (Nat.le_refl _) (.cells #[.int .i64 y.u, .int .i64 y.n, .int .i64 y.k, .int .i64 y.a, .int .i64 y.b] 44))))
        clear hf hm
        go_wp2_with (at_builtin; refine wpList_app_ow _ rfl _ _ 38 rfl w.heap.size 44 _ 5 40 Tryz.underlying38 infoD rfl (by decide) _ _ _ _ rfl HR.out _ _ _ (eD.enc y) rfl rfl (fun _ => ⟨_, rfl, HN.out⟩) (fun v hv => eD.one y v hv) (by decide) (by omega) HB3.out.size ?_; intro A4 c4 w4 r1 r2 r3)
        go_roundg (s.d.length - (j + 1))
        case measure => omega
        case rel =>
          have e1 : flatE eD (stI s j) ++ eD.enc y = flatE eD (stI s (j + 1)) := by rw [HE.out, flatE_app, flatE_cons, flatE_nil, List.append_nil]
          have e2 : (stI s j).length + 1 = (stI s (j + 1)).length := by rw [HE.out, List.length_append]; rfl
          rw [e1, e2] at r1
          refine ⟨j + 1, A4, c4, by omega, by go_num, by rw [← e2], hide r1, hide (Turn.onto HB3.out r2 fun k hk => (HR.out.blk k hk).1)⟩
    · obtain rfl : j = s.d.length := by omega
      have d0 : decide ((s.d.length : Int) < (s.d.length : Int)) = false := decide_eq_false (by omega)
      have HE := hide (stI_all s)
      go_wp2_with fail
      go_ret
      rw [HE.out] at HO ⊢
      exact ⟨A1, c1, rfl, HO.out, HB.out⟩
end Go.Proofs.YtalbdclcappjpaaGreat
