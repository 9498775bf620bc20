/- Ledgers of the reference: New, Make, Withdraw, what they hold. -/
import Derived.Test.YtalbdclcappjpaaGreatRA
import Derived.Test.YtalbdclcappjpaaGreatDQ
namespace Go.Proofs.YtalbdclcappjpaaGreat
open Go Go.RowKit Go.Lib
/-- the reference's ledger -/
def LQ (w : World) (B : Nat) (F : Nat → Prop) (p : Nat) (s : Led) : Prop :=
  s.Ok ∧ (∀ k, F k → B ≤ k ∧ k < w.heap.size) ∧ F p ∧ ∃ A c A' c', Box w p #[.slice A s.d.length c, .slice A' s.w.length c'] 64 ∧ Ow eD w B A s.d.length c s.d ∧ Ow eM w B A' s.w.length c' s.w ∧ (∀ g, Blk A g → F g) ∧ (∀ g, Blk A' g → F g)
theorem LQ.turn {w w' : World} {B p : Nat} {F G : Nat → Prop} {s : Led} (h : LQ w B F p s) (t : Turn G w w') (hs : Sep F G) : LQ w' B F p s := by
  obtain ⟨h0, h1, h2, A, c, A', c', h3, h4, h5, h6, h7⟩ := h
  exact ⟨h0, fun k hk => ⟨(h1 k hk).1, Nat.lt_of_lt_of_le (h1 k hk).2 t.size⟩, h2, A, c, A', c', t.box h3 (hs p h2), h4.turn t fun g hg => hs g (h6 g hg), h5.turn t fun g hg => hs g (h7 g hg), h6, h7⟩
theorem LQ.keep {w w' : World} {B p : Nat} {F : Nat → Prop} {s : Led} (h : LQ w B F p s) (hb : Below w.heap.size w w') : LQ w' B F p s := h.turn (Turn.of (F := Non) hb) fun _ _ h => h
theorem LQ.bp {w : World} {B p : Nat} {F : Nat → Prop} {s : Led} (h : LQ w B F p s) : B ≤ p ∧ p < w.heap.size := h.2.1 p h.2.2.1
theorem LQ.ok {w : World} {B p : Nat} {F : Nat → Prop} {s : Led} (h : LQ w B F p s) : s.Ok := h.1
theorem LQ.mono {w : World} {B p : Nat} {F G : Nat → Prop} {s : Led} (h : LQ w B F p s) (hm : ∀ k, F k → G k) (hG : ∀ k, G k → B ≤ k ∧ k < w.heap.size) : LQ w B G p s := by
  obtain ⟨h0, h1, h2, A, c, A', c', h3, h4, h5, h6, h7⟩ := h
  exact ⟨h0, hG, hm p h2, A, c, A', c', h3, h4, h5, fun g hg => hm g (h6 g hg), fun g hg => hm g (h7 g hg)⟩
theorem LQ.same {w w' : World} {B p : Nat} {F : Nat → Prop} {s : Led} (h : LQ w B F p s) (g : Below w.heap.size w w') : LQ w' B (Plus F w w') p s := by
  have hb := h.bp
  refine (h.keep g).mono (fun k hk => .inl hk) fun k hk => ?_
  rcases hk with hk | hk
  · have := h.2.1 k hk; have := g.size; omega
  · omega
theorem lq_same {w w' : World} {B p : Nat} {F : Nat → Prop} {s : Led} (h : LQ w B F p s) (g : Below w.heap.size w w') : LQ w' B (Plus F w w') p s ∧ Turn F w w' := ⟨h.same g, Turn.of g⟩

theorem LQ.putD {w w2 : World} {B p n4 c4 c c' : Nat} {F : Nat → Prop} {s : Led} {A A' A4 : Option Addr} {ys : List Dec} (hF : ∀ k, F k → B ≤ k ∧ k < w.heap.size) (hFp : F p) (hB : Below w.heap.size w w2) (hb : Box w2 p #[.slice A s.d.length c, .slice A' s.w.length c'] 64)
    (ho : Ow eM w2 B A' s.w.length c' s.w) (hA' : ∀ g, Blk A' g → F g) (o : Ow eD w2 w.heap.size A4 n4 c4 ys) (hok : Led.Ok ⟨ys, s.w⟩) :
    LQ (w2.setCell ⟨p, 0, none⟩ (.slice A4 n4 c4)) B (Plus F w (w2.setCell ⟨p, 0, none⟩ (.slice A4 n4 c4))) p ⟨ys, s.w⟩ ∧ Turn F w (w2.setCell ⟨p, 0, none⟩ (.slice A4 n4 c4)) := by
  have hl := o.len
  subst hl
  have ts : Turn (Is p) w2 (w2.setCell ⟨p, 0, none⟩ (.slice A4 ys.length c4)) := (Turn.refl (Is p) w2).set 0 _ rfl
  have hsz : (w2.setCell ⟨p, 0, none⟩ (.slice A4 ys.length c4)).heap.size = w2.heap.size := by simp [World.setCell]
  have q5 : Box (w2.setCell ⟨p, 0, none⟩ (.slice A4 ys.length c4)) p #[.slice A4 ys.length c4, .slice A' s.w.length c'] 64 := by
    have := hb.set_ 0 (.slice A4 ys.length c4)
    simpa using this
  have hpl := hF p hFp
  have hs := hB.size
  refine ⟨⟨hok, fun k hk => ?_, .inl hFp, A4, c4, A', c', q5, ?_, ?_, fun g hg => .inr (by rw [hsz]; exact o.blk g hg), fun g hg => .inl (hA' g hg)⟩, (Turn.of hB).trans (ts.mono fun k _ hk => by rw [show k = p from hk]; exact hFp)⟩
  · rw [hsz]
    rcases hk with hk | hk
    · have := hF k hk; omega
    · rw [hsz] at hk; omega
  · exact (o.turn ts fun g hg e => ow_box o hb (by decide) (by rw [← show g = p from e]; exact hg)).low (by omega)
  · exact ho.turn ts fun g hg e => ow_box ho hb (by decide) (by rw [← show g = p from e]; exact hg)

theorem LQ.putM {w w2 : World} {B p n4 c4 c c' : Nat} {F : Nat → Prop} {s : Led} {A A' A4 : Option Addr} {ys : List Mk} (hF : ∀ k, F k → B ≤ k ∧ k < w.heap.size) (hFp : F p) (hB : Below w.heap.size w w2) (hb : Box w2 p #[.slice A s.d.length c, .slice A' s.w.length c'] 64)
    (ho : Ow eD w2 B A s.d.length c s.d) (hA : ∀ g, Blk A g → F g) (o : Ow eM w2 w.heap.size A4 n4 c4 ys) (hok : Led.Ok ⟨s.d, ys⟩) :
    LQ (w2.setCell ⟨p, 1, none⟩ (.slice A4 n4 c4)) B (Plus F w (w2.setCell ⟨p, 1, none⟩ (.slice A4 n4 c4))) p ⟨s.d, ys⟩ ∧ Turn F w (w2.setCell ⟨p, 1, none⟩ (.slice A4 n4 c4)) := by
  have hl := o.len
  subst hl
  have ts : Turn (Is p) w2 (w2.setCell ⟨p, 1, none⟩ (.slice A4 ys.length c4)) := (Turn.refl (Is p) w2).set 1 _ rfl
  have hsz : (w2.setCell ⟨p, 1, none⟩ (.slice A4 ys.length c4)).heap.size = w2.heap.size := by simp [World.setCell]
  have q5 : Box (w2.setCell ⟨p, 1, none⟩ (.slice A4 ys.length c4)) p #[.slice A s.d.length c, .slice A4 ys.length c4] 64 := by
    have := hb.set_ 1 (.slice A4 ys.length c4)
    simpa using this
  have hpl := hF p hFp
  have hs := hB.size
  refine ⟨⟨hok, fun k hk => ?_, .inl hFp, A, c, A4, c4, q5, ?_, ?_, fun g hg => .inl (hA g hg), fun g hg => .inr (by rw [hsz]; exact o.blk g hg)⟩, (Turn.of hB).trans (ts.mono fun k _ hk => by rw [show k = p from hk]; exact hFp)⟩
  · rw [hsz]
    rcases hk with hk | hk
    · have := hF k hk; omega
    · rw [hsz] at hk; omega
  · exact ho.turn ts fun g hg e => ow_box ho hb (by decide) (by rw [← show g = p from e]; exact hg)
  · exact (o.turn ts fun g hg e => ow_box o hb (by decide) (by rw [← show g = p from e]; exact hg)).low (by omega)

set_option maxHeartbeats 1000000 in
theorem rnew_any (w : World) : Calls Tryz.prog 24 #[] w fun e w' => ∃ p, e = .returned (.pointer (some ⟨p, 0, none⟩)) ∧ LQ w' w.heap.size (Plus Non w w') p Led.none ∧ Below w.heap.size w w' := by
  go_enter Tryz.func24, Tryz.ntmps24
  go_wp2_with fail
  go_ret
  refine ⟨_, rfl, ⟨none_ok, fun k hk => hk.elim (fun h => h.elim) id, .inr ⟨Nat.le_refl _, by simp⟩, none, 0, none, 0, newE _ _ _ (by simp), Ow.nil_ _ _, Ow.nil_ _ _, fun g hg => absurd hg blk_none, fun g hg => absurd hg blk_none⟩, (Below.refl _ _).alloc (Nat.le_refl _) _⟩
set_option maxHeartbeats 1000000 in
theorem rmade_any (w : World) (B p : Nat) (F : Nat → Prop) (s : Led) (h : LQ w B F p s) :
    Calls Tryz.prog 33 #[.pointer (some ⟨p, 0, none⟩)] w fun e w' => ∃ A c, e = .returned (.slice A s.d.length c) ∧ SL eD w A s.d.length s.d ∧ w = w' := by
  obtain ⟨_, _, _, A, c, A', c', hb, hd, _⟩ := h
  have k0 : w.cell? ⟨p, 0, none⟩ = some (.slice A s.d.length c) := hb.at_ 0
  have HS := hide hd.sl
  clear hb hd
  go_enter Tryz.func33, Tryz.ntmps33
  go_wp2_with fail
  go_ret
  exact ⟨_, _, rfl, HS.out, rfl⟩
set_option maxHeartbeats 1000000 in
theorem rwithdrawn_any (w : World) (B p : Nat) (F : Nat → Prop) (s : Led) (h : LQ w B F p s) :
    Calls Tryz.prog 35 #[.pointer (some ⟨p, 0, none⟩)] w fun e w' => ∃ A c, e = .returned (.slice A s.w.length c) ∧ SL eM w A s.w.length s.w ∧ w = w' := by
  obtain ⟨_, _, _, A, c, A', c', hb, _, hw, _⟩ := h
  have k0 : w.cell? ⟨p, 1, none⟩ = some (.slice A' s.w.length c') := hb.at_ 1
  have HS := hide hw.sl
  clear hb hw
  go_enter Tryz.func35, Tryz.ntmps35
  go_wp2_with fail
  go_ret
  exact ⟨_, _, rfl, HS.out, rfl⟩
theorem sl_box {α : Type} {e : En α} {w : World} {g : Nat} (x : α) {t : TypeId} (h : Box w g (e.enc x).toArray t) : SL e w (some ⟨g, 0, none⟩) 1 [x] :=
  ⟨rfl, fun _ => ⟨g, 0, rfl, h.lt, fun j u hj => by
    rw [h.at_, Nat.zero_add]
    have e1 : flatE e [x] = e.enc x := by rw [flatE_cons, flatE_nil, List.append_nil]
    rw [e1] at hj
    rw [List.getElem?_toArray]; exact hj⟩⟩

set_option maxHeartbeats 4000000 in
theorem rmake_any (w : World) (B p : Nat) (F : Nat → Prop) (s : Led) (d : Dec) (h : LQ w B F p s) :
    Calls Tryz.prog 50 #[.pointer (some ⟨p, 0, none⟩), .agg #[.int .i64 d.u, .int .i64 d.n, .int .i64 d.k, .int .i64 d.a, .int .i64 d.b]] w fun e w' => e = .returned (.int .i64 (mkE s.d d)) ∧ LQ w' B (Plus F w w') p ⟨mkL s.d d, s.w⟩ ∧ Turn F w w' := by
  have H := hide h
  have hok := h.ok
  by_cases hv : vD d = true
  · have HK := hide hok
    have HEE := hide (mkE_uni hok.1 hok.2.2.1 (d := d))
    rw [if_pos hv] at HEE
    clear h hok
    go_enter Tryz.func50, Tryz.ntmps50
    go_wp2_with fail
    refine (rvalid_any d _ true hv).mono ?_
    rintro e w1 ⟨rfl, g1⟩
    have G1 := hide (((Gr.refl w).alloc (.cells #[.int .i64 d.u, .int .i64 d.n, .int .i64 d.k, .int .i64 d.a, .int .i64 d.b] 44)).trans g1)
    have B1 := hide ((Box.new w #[.int .i64 d.u, .int .i64 d.n, .int .i64 d.k, .int .i64 d.a, .int .i64 d.b] 44).below g1.below (Box.new w #[.int .i64 d.u, .int .i64 d.n, .int .i64 d.k, .int .i64 d.a, .int .i64 d.b] 44).lt)
    obtain ⟨b0, b1, b2, b3, b4⟩ := (show CellsD w1 w.heap.size 0 d from ⟨B1.out.at_ 0, B1.out.at_ 1, B1.out.at_ 2, B1.out.at_ 3, B1.out.at_ 4⟩)
    clear g1
    obtain ⟨_, _, hFp, A, c, A', c', hb, hd, hw, hA, hA'⟩ := H.out.keep G1.out.below
    have HF := hide H.out.2.1
    have p0 : w1.cell? ⟨p, 0, none⟩ = some (.slice A s.d.length c) := hb.at_ 0
    have p1 : (w1.alloc (.cells #[.int .i64 d.u, .int .i64 d.n, .int .i64 d.k, .int .i64 d.a, .int .i64 d.b] 44)).cell? ⟨p, 0, none⟩ = some (.slice A s.d.length c) := (hb.alloc _).at_ 0
    have HB := hide hb
    have HD := hide hd.sl
    have HW := hide hw
    have HA := hide hA'
    have HFp := hide hFp
    have hl1 : s.d.length ≤ 400 := Nat.le_trans HK.out.2.2.1 (by decide)
    have SD : Hid (∀ W, Below w1.heap.size w1 W → SL eD W A s.d.length s.d) := fun W h => HD.out.keep h
    have NB := hide (fun (W : World) (h : Below (w1.alloc (.cells #[.int .i64 d.u, .int .i64 d.n, .int .i64 d.k, .int .i64 d.a, .int .i64 d.b] 44)).heap.size (w1.alloc (.cells #[.int .i64 d.u, .int .i64 d.n, .int .i64 d.k, .int .i64 d.a, .int .i64 d.b] 44)) W) => (sl_box (e := eD) d ((newE w1 #[.int .i64 d.u, .int .i64 d.n, .int .i64 d.k, .int .i64 d.a, .int .i64 d.b] 44 rfl).below' h)))
    have S1 := hide HK.out.1
    have V1 := hide HK.out.2.1
    have S2 := hide (show Srt Dec.key [d] from List.pairwise_singleton _ _)
    have V2 := hide (show ∀ x ∈ [d], vD x = true from fun x hx => by rw [List.mem_singleton] at hx; rw [hx]; exact hv)
    have hl2 : 1 ≤ 400 := by decide
    have mixed : Tryz.prog.follows Departure.mixedOrders = true := by kernel_rfl
    clear hb hd hw hA hA' hFp
    by_cases hg : Agr Dec.key s.d [d]
    · have HG := hide hg
      rw [if_pos hg] at HEE
      clear hg
      have RD := hide (fun (W : World) (g m c2 : Nat) (ha : SL eD W A s.d.length s.d) (hb : SL eD W (some ⟨g, 0, none⟩) m [d]) (hm : m ≤ 400) => rdecs_any A s.d.length c s.d (some ⟨g, 0, none⟩) m c2 [d] W ha hb S1.out S2.out V1.out V2.out hl1 hm HG.out)
      go_wp2_with fail
      go_region_law (go_simp; go_at_call 31; (with_reducible refine (RD.out _ w1.heap.size 1 1 (SD.out _ (by ((repeat (first | (with_reducible assumption) | (with_reducible exact Below.refl _ _) | (with_reducible refine Below.drewS ?_) | (with_reducible refine Below.allocS ?_ _))); (first | done | fail)))) (NB.out _ (by ((repeat (first | (with_reducible assumption) | (with_reducible exact Below.refl _ _) | (with_reducible refine Below.drewS ?_) | (with_reducible refine Below.allocS ?_ _))); (first | done | fail)))) hl2).mono ?_); rintro e w2 ⟨A2, c2, rfl, o2, b2⟩; have b3 := Below.next (show Below w1.heap.size w1 _ from (by ((repeat (first | (with_reducible assumption) | (with_reducible exact Below.refl _ _) | (with_reducible refine Below.drewS ?_) | (with_reducible refine Below.allocS ?_ _))); (first | done | fail)))) b2; have o3 := o2.low (Nat.le_trans G1.out.below.size (show Below w1.heap.size w1 _ from (by ((repeat (first | (with_reducible assumption) | (with_reducible exact Below.refl _ _) | (with_reducible refine Below.drewS ?_) | (with_reducible refine Below.allocS ?_ _))); (first | done | fail)))).size))
      all_goals
        have O3 := hide o3
        have B3 := hide (Below.next G1.out.below b3)
        have Bp := hide (HB.out.below b3 HB.out.lt)
        have HW3 := hide (HW.out.keep b3)
        have k0 : w2.cell? ⟨p, 0, none⟩ = some (.slice A s.d.length c) := Bp.out.at_ 0
        have f0 : w2.frozen? ⟨p, 0, none⟩ = false := Bp.out.frozen 0
        clear o2 b2 b3 o3
        obtain ⟨N, hN⟩ : ∃ N, (uni Dec.key s.d [d]).length = N := ⟨_, rfl⟩
        have HN := hide hN
        rw [hN] at O3 HEE ⊢
        clear hN
        by_cases h5 : 200 < N
        · have x1 : (200 : Int) < (N : Int) := by omega
          have he : mkE s.d d = 6 := by rw [HEE.out, if_neg (by omega)]
          have HE := hide he
          clear he
          go_wp2_with fail
          go_ret
          have hL : mkL s.d d = s.d := by unfold mkL; rw [HE.out, if_neg (by decide)]
          rw [HE.out, hL]
          exact ⟨rfl, lq_same H.out B3.out⟩
        · have x1 : ¬ ((200 : Int) < (N : Int)) := by omega
          have he : mkE s.d d = 0 := by rw [HEE.out, if_pos (by omega)]
          have HE := hide he
          clear he
          go_wp2_with fail
          go_ret
          have hL : mkL s.d d = uni Dec.key s.d [d] := by unfold mkL; rw [if_pos HE.out]; rfl
          have hok : Led.Ok ⟨mkL s.d d, s.w⟩ := by
            have := mkL_ok (d := d) HK.out.1 HK.out.2.1 HK.out.2.2.1
            exact ⟨this.1, this.2.1, this.2.2, HK.out.2.2.2⟩
          rw [HE.out]
          rw [hL] at hok ⊢
          exact ⟨rfl, LQ.putD HF.out HFp.out B3.out Bp.out HW3.out HA.out O3.out hok⟩
    · have HG := hide hg
      rw [if_neg hg] at HEE
      have RD := hide (fun (W : World) (g m c2 : Nat) (ha : SL eD W A s.d.length s.d) (hb : SL eD W (some ⟨g, 0, none⟩) m [d]) (hm : m ≤ 400) => rdecsno_any A s.d.length c s.d (some ⟨g, 0, none⟩) m c2 [d] W ha hb S1.out S2.out V1.out V2.out hl1 hm HG.out)
      clear hg
      go_wp2_with fail
      go_region_law (go_simp; go_at_call 31; (with_reducible refine (RD.out _ w1.heap.size 1 1 (SD.out _ (by ((repeat (first | (with_reducible assumption) | (with_reducible exact Below.refl _ _) | (with_reducible refine Below.drewS ?_) | (with_reducible refine Below.allocS ?_ _))); (first | done | fail)))) (NB.out _ (by ((repeat (first | (with_reducible assumption) | (with_reducible exact Below.refl _ _) | (with_reducible refine Below.drewS ?_) | (with_reducible refine Below.allocS ?_ _))); (first | done | fail)))) hl2).mono ?_); rintro e w2 ⟨rfl, b2⟩; have b3 := Below.next (show Below w1.heap.size w1 _ from (by ((repeat (first | (with_reducible assumption) | (with_reducible exact Below.refl _ _) | (with_reducible refine Below.drewS ?_) | (with_reducible refine Below.allocS ?_ _))); (first | done | fail)))) b2)
      all_goals
        have B3 := hide (Below.next G1.out.below b3)
        clear b2 b3
        go_wp2_with fail
        go_ret
        have hL : mkL s.d d = s.d := by unfold mkL; rw [HEE.out, if_neg (by decide)]
        rw [HEE.out, hL]
        exact ⟨rfl, lq_same H.out B3.out⟩
  · have he : mkE s.d d = 1 := by unfold mkE; rw [if_neg hv]
    have hL : mkL s.d d = s.d := by unfold mkL; rw [he, if_neg (by decide)]
    rw [he, hL]
    clear h
    go_enter Tryz.func50, Tryz.ntmps50
    go_wp2_with fail
    refine (rvalid_any d _ false (Bool.eq_false_iff.2 hv)).mono ?_
    rintro e w1 ⟨rfl, g1⟩
    have G1 := hide (((Gr.refl w).alloc (.cells #[.int .i64 d.u, .int .i64 d.n, .int .i64 d.k, .int .i64 d.a, .int .i64 d.b] 44)).trans g1)
    clear g1
    go_wp2_with fail
    go_ret
    exact ⟨rfl, lq_same H.out G1.out.below⟩

set_option maxHeartbeats 4000000 in
theorem rwd_any (w : World) (B p : Nat) (F : Nat → Prop) (s : Led) (d : Mk) (h : LQ w B F p s) :
    Calls Tryz.prog 49 #[.pointer (some ⟨p, 0, none⟩), .agg #[.int .i64 d.u, .int .i64 d.n]] w fun e w' => e = .returned (.int .i64 (wdE s.w d)) ∧ LQ w' B (Plus F w w') p ⟨s.d, wdL s.w d⟩ ∧ Turn F w w' := by
  have H := hide h
  have hok := h.ok
  by_cases hv : vM d = true
  · have HK := hide hok
    have HEE := hide (wdE_uni hok.2.2.2.2.2 (m := d))
    rw [if_pos hv] at HEE
    clear h hok
    go_enter Tryz.func49, Tryz.ntmps49
    go_wp2_with fail
    refine (bm_any d _ true hv).mono ?_
    rintro e w1 ⟨rfl, g1⟩
    have G1 := hide (((Gr.refl w).alloc (.cells #[.int .i64 d.u, .int .i64 d.n] 46)).trans g1)
    have B1 := hide ((Box.new w #[.int .i64 d.u, .int .i64 d.n] 46).below g1.below (Box.new w #[.int .i64 d.u, .int .i64 d.n] 46).lt)
    obtain ⟨b0, b1⟩ := (show CellsM w1 w.heap.size 0 d from ⟨B1.out.at_ 0, B1.out.at_ 1⟩)
    clear g1
    obtain ⟨_, _, hFp, A, c, A', c', hb, hd, hw, hA, hA'⟩ := H.out.keep G1.out.below
    have HF := hide H.out.2.1
    have p0 : w1.cell? ⟨p, 1, none⟩ = some (.slice A' s.w.length c') := hb.at_ 1
    have p1 : (w1.alloc (.cells #[.int .i64 d.u, .int .i64 d.n] 46)).cell? ⟨p, 1, none⟩ = some (.slice A' s.w.length c') := (hb.alloc _).at_ 1
    have HB := hide hb
    have HD := hide hw.sl
    have HW := hide hd
    have HA := hide hA
    have HFp := hide hFp
    have hl1 : s.w.length ≤ 400 := Nat.le_trans HK.out.2.2.2.2.2 (by decide)
    have SD : Hid (∀ W, Below w1.heap.size w1 W → SL eM W A' s.w.length s.w) := fun W h => HD.out.keep h
    have NB := hide (fun (W : World) (h : Below (w1.alloc (.cells #[.int .i64 d.u, .int .i64 d.n] 46)).heap.size (w1.alloc (.cells #[.int .i64 d.u, .int .i64 d.n] 46)) W) => (sl_box (e := eM) d ((newE w1 #[.int .i64 d.u, .int .i64 d.n] 46 rfl).below' h)))
    have S1 := hide HK.out.2.2.2.1
    have V1 := hide HK.out.2.2.2.2.1
    have S2 := hide (show Srt Mk.key [d] from List.pairwise_singleton _ _)
    have V2 := hide (show ∀ x ∈ [d], vM x = true from fun x hx => by rw [List.mem_singleton] at hx; rw [hx]; exact hv)
    have hl2 : 1 ≤ 400 := by decide
    have mixed : Tryz.prog.follows Departure.mixedOrders = true := by kernel_rfl
    clear hb hd hw hA hA' hFp
    have RD := hide (fun (W : World) (g m c2 : Nat) (ha : SL eM W A' s.w.length s.w) (hb : SL eM W (some ⟨g, 0, none⟩) m [d]) (hm : m ≤ 400) => rmarks_any A' s.w.length c' s.w (some ⟨g, 0, none⟩) m c2 [d] W ha hb S1.out S2.out V1.out V2.out hl1 hm)
    go_wp2_with fail
    go_region_law (go_simp; go_at_call 32; (with_reducible refine (RD.out _ w1.heap.size 1 1 (SD.out _ (by ((repeat (first | (with_reducible assumption) | (with_reducible exact Below.refl _ _) | (with_reducible refine Below.drewS ?_) | (with_reducible refine Below.allocS ?_ _))); (first | done | fail)))) (NB.out _ (by ((repeat (first | (with_reducible assumption) | (with_reducible exact Below.refl _ _) | (with_reducible refine Below.drewS ?_) | (with_reducible refine Below.allocS ?_ _))); (first | done | fail)))) hl2).mono ?_); rintro e w2 ⟨A2, c2, rfl, o2, b2⟩; have b3 := Below.next (show Below w1.heap.size w1 _ from (by ((repeat (first | (with_reducible assumption) | (with_reducible exact Below.refl _ _) | (with_reducible refine Below.drewS ?_) | (with_reducible refine Below.allocS ?_ _))); (first | done | fail)))) b2; have o3 := o2.low (Nat.le_trans G1.out.below.size (show Below w1.heap.size w1 _ from (by ((repeat (first | (with_reducible assumption) | (with_reducible exact Below.refl _ _) | (with_reducible refine Below.drewS ?_) | (with_reducible refine Below.allocS ?_ _))); (first | done | fail)))).size))
    all_goals
      have O3 := hide o3
      have B3 := hide (Below.next G1.out.below b3)
      have Bp := hide (HB.out.below b3 HB.out.lt)
      have HW3 := hide (HW.out.keep b3)
      have k0 : w2.cell? ⟨p, 1, none⟩ = some (.slice A' s.w.length c') := Bp.out.at_ 1
      have f0 : w2.frozen? ⟨p, 1, none⟩ = false := Bp.out.frozen 1
      clear o2 b2 b3 o3
      obtain ⟨N, hN⟩ : ∃ N, (uni Mk.key s.w [d]).length = N := ⟨_, rfl⟩
      have HN := hide hN
      rw [hN] at O3 HEE ⊢
      clear hN
      by_cases h5 : 200 < N
      · have x1 : (200 : Int) < (N : Int) := by omega
        have he : wdE s.w d = 6 := by rw [HEE.out, if_neg (by omega)]
        have HE := hide he
        clear he
        go_wp2_with fail
        go_ret
        have hL : wdL s.w d = s.w := by unfold wdL; rw [HE.out, if_neg (by decide)]
        rw [HE.out, hL]
        exact ⟨rfl, lq_same H.out B3.out⟩
      · have x1 : ¬ ((200 : Int) < (N : Int)) := by omega
        have he : wdE s.w d = 0 := by rw [HEE.out, if_pos (by omega)]
        have HE := hide he
        clear he
        go_wp2_with fail
        go_ret
        have hL : wdL s.w d = uni Mk.key s.w [d] := by unfold wdL; rw [if_pos HE.out]; rfl
        have hok : Led.Ok ⟨s.d, wdL s.w d⟩ := by
          have := wdL_ok (d := d) HK.out.2.2.2.1 HK.out.2.2.2.2.1 HK.out.2.2.2.2.2
          exact ⟨HK.out.1, HK.out.2.1, HK.out.2.2.1, this⟩
        rw [HE.out]
        rw [hL] at hok ⊢
        exact ⟨rfl, LQ.putM HF.out HFp.out B3.out Bp.out HW3.out HA.out O3.out hok⟩
  · have he : wdE s.w d = 1 := by unfold wdE; rw [if_neg hv]
    have hL : wdL s.w d = s.w := by unfold wdL; rw [he, if_neg (by decide)]
    rw [he, hL]
    clear h
    go_enter Tryz.func49, Tryz.ntmps49
    go_wp2_with fail
    refine (bm_any d _ false (Bool.eq_false_iff.2 hv)).mono ?_
    rintro e w1 ⟨rfl, g1⟩
    have G1 := hide (((Gr.refl w).alloc (.cells #[.int .i64 d.u, .int .i64 d.n] 46)).trans g1)
    clear g1
    go_wp2_with fail
    go_ret
    exact ⟨rfl, lq_same H.out G1.out.below⟩
end Go.Proofs.YtalbdclcappjpaaGreat
