/- Make and Withdraw. -/
import Derived.Test.YtalbdclcappjpaaGreatDQ
import Derived.Test.YtalbdclcappjpaaGreatDI
namespace Go.Proofs.YtalbdclcappjpaaGreat
open Go Go.RowKit Go.Lib
theorem LN.mono {w : World} {B p : Nat} {F G : Nat → Prop} {s : Led} (h : LN w B F p s) (hm : ∀ k, F k → G k) (hG : ∀ k, G k → B ≤ k ∧ k < w.heap.size) : LN w B G p s := by
  obtain ⟨h0, h1, h2, A, c, A', c', h3, h4, h5, h6, h7⟩ := h
  exact ⟨h0, hG, hm p h2, A, c, A', c', h3, h4, h5, fun g hg => hm g (h6 g hg), fun g hg => hm g (h7 g hg)⟩
theorem LN.same {w w' : World} {B p : Nat} {F : Nat → Prop} {s : Led} (h : LN w B F p s) (g : Below w.heap.size w w') : LN w' B (Plus F w w') p s := by
  have hb := h.bp
  refine (h.keep g).mono (fun k hk => .inl hk) fun k hk => ?_
  rcases hk with hk | hk
  · have := h.2.1 k hk; have := g.size; omega
  · omega

theorem LN.putD {w w3 w4 : World} {B p N n4 c4 c c' : Nat} {F : Nat → Prop} {s : Led} {A A' A4 : Option Addr} {ys : List Dec} (hw : w.heap.size ≤ w3.heap.size) (t3 : Turn F w w3) (hF : ∀ k, F k → B ≤ k ∧ k < w.heap.size) (hFp : F p) (hb : Box w3 p #[.slice A s.d.length c, .slice A' s.w.length c'] 57)
    (ho : Ow eM w3 B A' s.w.length c' s.w) (hA : ∀ g, Blk A g → F g) (hA' : ∀ g, Blk A' g → F g) (hAx : ∀ g, Blk A g → ¬ Blk A' g) (hAp : ¬ Blk A p) (t : Turn (Blk A) w3 w4) (o : Ow eD w4 B A4 n4 c4 ys) (s4 : ∀ g, Blk A4 g → Blk A g ∨ (N ≤ g ∧ g < w4.heap.size)) (hN : w3.heap.size ≤ N) (hok : Led.Ok ⟨ys, s.w⟩) :
    LN (w4.setCell ⟨p, 0, none⟩ (.slice A4 n4 c4)) B (Plus F w (w4.setCell ⟨p, 0, none⟩ (.slice A4 n4 c4))) p ⟨ys, s.w⟩ ∧ Turn F w (w4.setCell ⟨p, 0, none⟩ (.slice A4 n4 c4)) := by
  have q4 := t.box hb hAp
  have ts : Turn (Is p) w4 (w4.setCell ⟨p, 0, none⟩ (.slice A4 n4 c4)) := (Turn.refl (Is p) w4).set 0 _ rfl
  have hsz : (w4.setCell ⟨p, 0, none⟩ (.slice A4 n4 c4)).heap.size = w4.heap.size := by simp [World.setCell]
  have hl := o.len
  subst hl
  have h34 := t.size
  have q5 : Box (w4.setCell ⟨p, 0, none⟩ (.slice A4 ys.length c4)) p #[.slice A4 ys.length c4, .slice A' s.w.length c'] 57 := by
    have := q4.set_ 0 (.slice A4 ys.length c4)
    simpa using this
  refine ⟨⟨hok, fun k hk => ?_, .inl hFp, A4, c4, A', c', q5, ?_, ?_, fun g hg => ?_, fun g hg => ?_⟩, (t3.trans ((t.mono fun k _ hk => hA k hk))).trans (ts.mono fun k _ hk => by rw [show k = p from hk]; exact hFp)⟩
  · rw [hsz]
    rcases hk with hk | hk
    · have := hF k hk; omega
    · rw [hsz] at hk; have := hF p hFp; omega
  · exact o.turn ts fun g hg e => ow_box o q4 (by decide) (by rw [← show g = p from e]; exact hg)
  · exact (ho.turn t fun g hg e => hAx g e hg).turn ts fun g hg e => ow_box ho hb (by decide) (by rw [← show g = p from e]; exact hg)
  · rcases s4 g hg with h | h
    · exact .inl (hA g h)
    · exact .inr (by rw [hsz]; omega)
  · exact .inl (hA' g hg)

theorem LN.putM {w w3 w4 : World} {B p N n4 c4 c c' : Nat} {F : Nat → Prop} {s : Led} {A A' A4 : Option Addr} {ys : List Mk} (hw : w.heap.size ≤ w3.heap.size) (t3 : Turn F w w3) (hF : ∀ k, F k → B ≤ k ∧ k < w.heap.size) (hFp : F p) (hb : Box w3 p #[.slice A s.d.length c, .slice A' s.w.length c'] 57)
    (ho : Ow eD w3 B A s.d.length c s.d) (hA : ∀ g, Blk A g → F g) (hA' : ∀ g, Blk A' g → F g) (hAx : ∀ g, Blk A' g → ¬ Blk A g) (hAp : ¬ Blk A' p) (t : Turn (Blk A') w3 w4) (o : Ow eM w4 B A4 n4 c4 ys) (s4 : ∀ g, Blk A4 g → Blk A' g ∨ (N ≤ g ∧ g < w4.heap.size)) (hN : w3.heap.size ≤ N) (hok : Led.Ok ⟨s.d, ys⟩) :
    LN (w4.setCell ⟨p, 1, none⟩ (.slice A4 n4 c4)) B (Plus F w (w4.setCell ⟨p, 1, none⟩ (.slice A4 n4 c4))) p ⟨s.d, ys⟩ ∧ Turn F w (w4.setCell ⟨p, 1, none⟩ (.slice A4 n4 c4)) := by
  have q4 := t.box hb hAp
  have ts : Turn (Is p) w4 (w4.setCell ⟨p, 1, none⟩ (.slice A4 n4 c4)) := (Turn.refl (Is p) w4).set 1 _ rfl
  have hsz : (w4.setCell ⟨p, 1, none⟩ (.slice A4 n4 c4)).heap.size = w4.heap.size := by simp [World.setCell]
  have hl := o.len
  subst hl
  have h34 := t.size
  have q5 : Box (w4.setCell ⟨p, 1, none⟩ (.slice A4 ys.length c4)) p #[.slice A s.d.length c, .slice A4 ys.length c4] 57 := by
    have := q4.set_ 1 (.slice A4 ys.length c4)
    simpa using this
  refine ⟨⟨hok, fun k hk => ?_, .inl hFp, A, c, A4, c4, q5, ?_, ?_, fun g hg => ?_, fun g hg => ?_⟩, (t3.trans ((t.mono fun k _ hk => hA' k hk))).trans (ts.mono fun k _ hk => by rw [show k = p from hk]; exact hFp)⟩
  · rw [hsz]
    rcases hk with hk | hk
    · have := hF k hk; omega
    · rw [hsz] at hk; have := hF p hFp; omega
  · exact (ho.turn t fun g hg e => hAx g e hg).turn ts fun g hg e => ow_box ho hb (by decide) (by rw [← show g = p from e]; exact hg)
  · exact o.turn ts fun g hg e => ow_box o q4 (by decide) (by rw [← show g = p from e]; exact hg)
  · exact .inl (hA g hg)
  · rcases s4 g hg with h | h
    · exact .inl (hA' g h)
    · exact .inr (by rw [hsz]; omega)

set_option maxHeartbeats 2000000 in
theorem make_no (w : World) (p : Nat) (d : Dec) (hv : vD d = false) :
    Calls Tryz.prog 18 #[.pointer (some ⟨p, 0, none⟩), .agg #[.int .i64 d.u, .int .i64 d.n, .int .i64 d.k, .int .i64 d.a, .int .i64 d.b]] w fun e w' => e = .returned (.int .i64 1) ∧ Gr w w' := by
  go_enter Tryz.func18, Tryz.ntmps18
  go_wp2_with fail
  refine (valid_any d _ false hv).mono ?_
  rintro e w1 ⟨rfl, g1⟩
  have G1 := hide (((Gr.refl w).alloc (.cells #[.int .i64 d.u, .int .i64 d.n, .int .i64 d.k, .int .i64 d.a, .int .i64 d.b] 44)).trans g1)
  clear g1
  go_wp2_with fail
  go_ret
  exact ⟨rfl, G1.out⟩

set_option maxHeartbeats 4000000 in
theorem make_hit (w : World) (B p : Nat) (F : Nat → Prop) (s : Led) (d y : Dec) (h : LN w B F p s) (hv : vD d = true) (hf : fnd Dec.key d.key s.d = true) (hy : s.d[cnt Dec.key d.key s.d]? = some y) (r : Bool) (hr : decide (y = d) = r) :
    Calls Tryz.prog 18 #[.pointer (some ⟨p, 0, none⟩), .agg #[.int .i64 d.u, .int .i64 d.n, .int .i64 d.k, .int .i64 d.a, .int .i64 d.b]] w fun e w' => e = .returned (.int .i64 (if r then 0 else 10)) ∧ Gr w w' := by
  have H := hide h
  have HY := hide hy
  have HR := hide hr
  go_enter Tryz.func18, Tryz.ntmps18
  go_wp2_with fail
  refine (valid_any d _ true hv).mono ?_
  rintro e w1 ⟨rfl, g1⟩
  have G1 := hide (((Gr.refl w).alloc (.cells #[.int .i64 d.u, .int .i64 d.n, .int .i64 d.k, .int .i64 d.a, .int .i64 d.b] 44)).trans g1)
  have B1 := hide ((Box.new w #[.int .i64 d.u, .int .i64 d.n, .int .i64 d.k, .int .i64 d.a, .int .i64 d.b] 44).below g1.below (Box.new w #[.int .i64 d.u, .int .i64 d.n, .int .i64 d.k, .int .i64 d.a, .int .i64 d.b] 44).lt)
  obtain ⟨b0, b1, b2, b3, b4⟩ := (show CellsD w1 w.heap.size 0 d from ⟨B1.out.at_ 0, B1.out.at_ 1, B1.out.at_ 2, B1.out.at_ 3, B1.out.at_ 4⟩)
  clear g1 hy hr h
  go_wp2_with fail
  refine (mark_any d _).mono ?_
  rintro e w2 ⟨rfl, g2⟩
  have G2 := hide (G1.out.trans g2)
  have B2 := hide (B1.out.below g2.below B1.out.lt)
  clear g2 b0 b1 b2 b3 b4 G1 B1
  go_wp2_with fail
  refine (pm_any w2 B p F s d.mk_ (H.out.keep G2.out.below) (vD_vM hv)).mono ?_
  rintro e w3 ⟨rfl, g3⟩
  have G3 := hide (G2.out.trans g3)
  have B3 := hide (B2.out.below g3.below B2.out.lt)
  obtain ⟨b0, b1, b2, b3, b4⟩ := (show CellsD w3 w.heap.size 0 d from ⟨B3.out.at_ 0, B3.out.at_ 1, B3.out.at_ 2, B3.out.at_ 3, B3.out.at_ 4⟩)
  clear g3 G2 B2 B3
  rw [mk_key, hf]
  obtain ⟨hk, _, _, A, c, A', c', hb, hd, _⟩ := H.out.keep G3.out.below
  have hlt : cnt Dec.key d.key s.d < s.d.length := (List.getElem?_eq_some_iff.1 HY.out).1
  have p0 : w3.cell? ⟨p, 0, none⟩ = some (.slice A s.d.length c) := hb.at_ 0
  obtain ⟨b, o, y', rfl, hl, hy', hcy⟩ := hd.sl.atD hlt
  obtain rfl : y' = y := by rw [HY.out] at hy'; injection hy' with hy'; exact hy'.symm
  obtain ⟨m0, m1, m2, m3, m4⟩ := hcy
  generalize hi : cnt Dec.key d.key s.d = i at *
  have a1 : (0 : Int) ≤ (i : Int) := by omega
  have a2 : (i : Int) < (s.d.length : Int) := by omega
  have e0 := fun (w : World) => eqD_run y' d w r HR.out
  clear hy' hb hd hk hf hi
  go_wp2_with fail
  go_region
  all_goals
    cases r <;>
    · go_wp2_with fail
      go_ret
      exact ⟨rfl, by first | exact G3.out.drew | exact G3.out⟩

set_option maxHeartbeats 4000000 in
theorem make_full (w : World) (B p : Nat) (F : Nat → Prop) (s : Led) (d : Dec) (h : LN w B F p s) (hv : vD d = true) (hf : fnd Dec.key d.key s.d = false) (hl : ¬ s.d.length < 200) :
    Calls Tryz.prog 18 #[.pointer (some ⟨p, 0, none⟩), .agg #[.int .i64 d.u, .int .i64 d.n, .int .i64 d.k, .int .i64 d.a, .int .i64 d.b]] w fun e w' => e = .returned (.int .i64 6) ∧ Gr w w' := by
  have H := hide h
  have HL := hide (show s.d.length ≤ 200 from h.1.2.2.1)
  have HF0 := hide h.2.1
  go_enter Tryz.func18, Tryz.ntmps18
  go_wp2_with fail
  refine (valid_any d _ true hv).mono ?_
  rintro e w1 ⟨rfl, g1⟩
  have G1 := hide (((Gr.refl w).alloc (.cells #[.int .i64 d.u, .int .i64 d.n, .int .i64 d.k, .int .i64 d.a, .int .i64 d.b] 44)).trans g1)
  have B1 := hide ((Box.new w #[.int .i64 d.u, .int .i64 d.n, .int .i64 d.k, .int .i64 d.a, .int .i64 d.b] 44).below g1.below (Box.new w #[.int .i64 d.u, .int .i64 d.n, .int .i64 d.k, .int .i64 d.a, .int .i64 d.b] 44).lt)
  obtain ⟨b0, b1, b2, b3, b4⟩ := (show CellsD w1 w.heap.size 0 d from ⟨B1.out.at_ 0, B1.out.at_ 1, B1.out.at_ 2, B1.out.at_ 3, B1.out.at_ 4⟩)
  clear g1 h
  go_wp2_with fail
  refine (mark_any d _).mono ?_
  rintro e w2 ⟨rfl, g2⟩
  have G2 := hide (G1.out.trans g2)
  have B2 := hide (B1.out.below g2.below B1.out.lt)
  clear g2 b0 b1 b2 b3 b4 G1 B1
  go_wp2_with fail
  refine (pm_any w2 B p F s d.mk_ (H.out.keep G2.out.below) (vD_vM hv)).mono ?_
  rintro e w3 ⟨rfl, g3⟩
  have G3 := hide (G2.out.trans g3)
  have B3 := hide (B2.out.below g3.below B2.out.lt)
  clear g3 G2 B2
  rw [mk_key, hf]
  obtain ⟨hk, _, _, A, c, A', c', hb, hd, hw, _⟩ := H.out.keep G3.out.below
  have p0 : w3.cell? ⟨p, 0, none⟩ = some (.slice A s.d.length c) := hb.at_ 0
  have a2 : (200 : Int) ≤ (s.d.length : Int) := by have := HL.out; omega
  clear hb hd hk hw hf
  go_wp2_with fail
  go_region
  all_goals
    go_wp2_with fail
    go_ret
    exact ⟨rfl, by first | exact G3.out.drew | exact G3.out⟩
set_option maxHeartbeats 8000000 in
set_option maxRecDepth 100000 in
theorem make_new (w : World) (B p : Nat) (F : Nat → Prop) (s : Led) (d : Dec) (h : LN w B F p s) (hv : vD d = true) (hf : fnd Dec.key d.key s.d = false) (hl : s.d.length < 200) (hok : Led.Ok ⟨ins Dec.key d s.d, s.w⟩) :
    Calls Tryz.prog 18 #[.pointer (some ⟨p, 0, none⟩), .agg #[.int .i64 d.u, .int .i64 d.n, .int .i64 d.k, .int .i64 d.a, .int .i64 d.b]] w fun e w' => e = .returned (.int .i64 0) ∧ LN w' B (Plus F w w') p ⟨ins Dec.key d s.d, s.w⟩ ∧ Turn F w w' := by
  have H := hide h
  have HL := hide (show s.d.length ≤ 200 from h.1.2.2.1)
  have HF0 := hide h.2.1
  go_enter Tryz.func18, Tryz.ntmps18
  go_wp2_with fail
  refine (valid_any d _ true hv).mono ?_
  rintro e w1 ⟨rfl, g1⟩
  have G1 := hide (((Gr.refl w).alloc (.cells #[.int .i64 d.u, .int .i64 d.n, .int .i64 d.k, .int .i64 d.a, .int .i64 d.b] 44)).trans g1)
  have B1 := hide ((Box.new w #[.int .i64 d.u, .int .i64 d.n, .int .i64 d.k, .int .i64 d.a, .int .i64 d.b] 44).below g1.below (Box.new w #[.int .i64 d.u, .int .i64 d.n, .int .i64 d.k, .int .i64 d.a, .int .i64 d.b] 44).lt)
  obtain ⟨b0, b1, b2, b3, b4⟩ := (show CellsD w1 w.heap.size 0 d from ⟨B1.out.at_ 0, B1.out.at_ 1, B1.out.at_ 2, B1.out.at_ 3, B1.out.at_ 4⟩)
  clear g1 h
  go_wp2_with fail
  refine (mark_any d _).mono ?_
  rintro e w2 ⟨rfl, g2⟩
  have G2 := hide (G1.out.trans g2)
  have B2 := hide (B1.out.below g2.below B1.out.lt)
  clear g2 b0 b1 b2 b3 b4 G1 B1
  go_wp2_with fail
  refine (pm_any w2 B p F s d.mk_ (H.out.keep G2.out.below) (vD_vM hv)).mono ?_
  rintro e w3 ⟨rfl, g3⟩
  have G3 := hide (G2.out.trans g3)
  have B3 := hide (B2.out.below g3.below B2.out.lt)
  clear g3 G2 B2
  rw [mk_key, hf]
  obtain ⟨hk, hF, hFp, A, c, A', c', hb, hd, hw, hA, hA'⟩ := H.out.keep G3.out.below
  have hi : cnt Dec.key d.key s.d ≤ s.d.length := cnt_le _ _
  have HI := hide (show insA s.d (cnt Dec.key d.key s.d) d = ins Dec.key d s.d from rfl)
  generalize cnt Dec.key d.key s.d = i at *
  have HB3 := hide hb
  have HO := hide hd
  have HO2 := hide hw
  have HA := hide hA
  have HA' := hide hA'
  have HFp := hide hFp
  have hAp := ow_box hd hb (by decide)
  have HAx := hide (fun g (hg : Blk A g) => ow_ow hd hw (by decide) hg)
  have hBw : B ≤ w3.heap.size := Nat.le_trans (Nat.le_of_lt_succ (Nat.lt_succ_of_le (hF p hFp).1)) (Nat.le_of_lt (hF p hFp).2)
  have p0 : w3.cell? ⟨p, 0, none⟩ = some (.slice A s.d.length c) := hb.at_ 0
  obtain ⟨b0, b1, b2, b3, b4⟩ := (show CellsD w3 w.heap.size 0 d from ⟨B3.out.at_ 0, B3.out.at_ 1, B3.out.at_ 2, B3.out.at_ 3, B3.out.at_ 4⟩)
  have a1 : ¬ ((200 : Int) ≤ (s.d.length : Int)) := by omega
  have hn1 : s.d.length ≤ 1000 := by omega
  have p1 : (w3.alloc (.cells #[.int .i64 d.u, .int .i64 d.n, .int .i64 d.k, .int .i64 d.a, .int .i64 d.b] 44)).cell? ⟨p, 0, none⟩ = some (.slice A s.d.length c) := (hb.alloc _).at_ 0
  have HP := hide hAp
  have SZ := hide (fun (W : World) (h : Below w3.heap.size w3 W) => Nat.le_trans hBw h.size)
  have NO := hide (fun (hg : Blk A w3.heap.size) => Nat.lt_irrefl _ (HO.out.blk _ hg).2)
  have NB := hide (fun (W : World) (h : Below (w3.alloc (.cells #[.int .i64 d.u, .int .i64 d.n, .int .i64 d.k, .int .i64 d.a, .int .i64 d.b] 44)).heap.size (w3.alloc (.cells #[.int .i64 d.u, .int .i64 d.n, .int .i64 d.k, .int .i64 d.a, .int .i64 d.b] 44)) W) => (newE w3 #[.int .i64 d.u, .int .i64 d.n, .int .i64 d.k, .int .i64 d.a, .int .i64 d.b] 44 rfl).below' h)
  have HBp := hide (hF p hFp)
  clear hb hd hk hw hf hF hFp hA hA' hAp
  go_wp2_with fail
  go_region
  all_goals
    go_wp2_with fail
    go_region_law (go_simp; go_at_call 43; (with_reducible refine (insD_any B s.d.length c i _ 1 A s.d d _ 44 (HO.out.keep (by ((repeat (first | (with_reducible assumption) | (with_reducible exact Below.refl _ _) | (with_reducible refine Below.drewS ?_) | (with_reducible refine Below.allocS ?_ _))); (first | done | fail)))) (NB.out _ (by ((repeat (first | (with_reducible assumption) | (with_reducible exact Below.refl _ _) | (with_reducible refine Below.drewS ?_) | (with_reducible refine Below.allocS ?_ _))); (first | done | fail)))) NO.out (SZ.out _ (by ((repeat (first | (with_reducible assumption) | (with_reducible exact Below.refl _ _) | (with_reducible refine Below.drewS ?_) | (with_reducible refine Below.allocS ?_ _))); (first | done | fail)))) hi hn1).mono ?_); rintro e w4 ⟨A4, c4, rfl, o4, t4, s4⟩; have t5 := (Turn.of (F := Blk A) (w := w3) (by ((repeat (first | (with_reducible assumption) | (with_reducible exact Below.refl _ _) | (with_reducible refine Below.drewS ?_) | (with_reducible refine Below.allocS ?_ _))); (first | done | fail)))).trans t4; have q4 := hide (t5.box HB3.out HP.out); have f4 : w4.cell? ⟨p, 0, none⟩ = some (.slice A s.d.length c) := q4.out.at_ 0; have f5 : w4.frozen? ⟨p, 0, none⟩ = false := q4.out.frozen 0)
    all_goals
      go_wp2_with fail
      go_ret
      rw [HI.out] at o4
      exact ⟨rfl, LN.putD G3.out.below.size (G3.out.turn F) HF0.out HFp.out HB3.out HO2.out HA.out HA'.out HAx.out HP.out t5 o4 s4 (by simp) hok⟩

set_option maxHeartbeats 2000000 in
theorem wd_no (w : World) (p : Nat) (d : Mk) (hv : vM d = false) :
    Calls Tryz.prog 19 #[.pointer (some ⟨p, 0, none⟩), .agg #[.int .i64 d.u, .int .i64 d.n]] w fun e w' => e = .returned (.int .i64 1) ∧ Gr w w' := by
  go_enter Tryz.func19, Tryz.ntmps19
  go_wp2_with fail
  refine (vm_any d _ false hv).mono ?_
  rintro e w1 ⟨rfl, g1⟩
  have G1 := hide (((Gr.refl w).alloc (.cells #[.int .i64 d.u, .int .i64 d.n] 46)).trans g1)
  clear g1
  go_wp2_with fail
  go_ret
  exact ⟨rfl, G1.out⟩

set_option maxHeartbeats 4000000 in
theorem wd_hit (w : World) (B p : Nat) (F : Nat → Prop) (s : Led) (d : Mk) (h : LN w B F p s) (hv : vM d = true) (hf : fnd Mk.key d.key s.w = true) :
    Calls Tryz.prog 19 #[.pointer (some ⟨p, 0, none⟩), .agg #[.int .i64 d.u, .int .i64 d.n]] w fun e w' => e = .returned (.int .i64 0) ∧ Gr w w' := by
  have H := hide h
  go_enter Tryz.func19, Tryz.ntmps19
  go_wp2_with fail
  refine (vm_any d _ true hv).mono ?_
  rintro e w1 ⟨rfl, g1⟩
  have G1 := hide (((Gr.refl w).alloc (.cells #[.int .i64 d.u, .int .i64 d.n] 46)).trans g1)
  have B1 := hide ((Box.new w #[.int .i64 d.u, .int .i64 d.n] 46).below g1.below (Box.new w #[.int .i64 d.u, .int .i64 d.n] 46).lt)
  obtain ⟨b0, b1⟩ := (show CellsM w1 w.heap.size 0 d from ⟨B1.out.at_ 0, B1.out.at_ 1⟩)
  clear g1 h
  go_wp2_with fail
  refine (pw_any w1 B p F s d (H.out.keep G1.out.below) hv).mono ?_
  rintro e w3 ⟨rfl, g3⟩
  have G3 := hide (G1.out.trans g3)
  clear g3 G1 b0 b1
  rw [hf]
  go_wp2_with fail
  go_ret
  exact ⟨rfl, G3.out⟩

set_option maxHeartbeats 4000000 in
theorem wd_full (w : World) (B p : Nat) (F : Nat → Prop) (s : Led) (d : Mk) (h : LN w B F p s) (hv : vM d = true) (hf : fnd Mk.key d.key s.w = false) (hl : ¬ s.w.length < 200) :
    Calls Tryz.prog 19 #[.pointer (some ⟨p, 0, none⟩), .agg #[.int .i64 d.u, .int .i64 d.n]] w fun e w' => e = .returned (.int .i64 6) ∧ Gr w w' := by
  have H := hide h
  have HL := hide (show s.w.length ≤ 200 from h.1.2.2.2.2.2)
  have HF0 := hide h.2.1
  go_enter Tryz.func19, Tryz.ntmps19
  go_wp2_with fail
  refine (vm_any d _ true hv).mono ?_
  rintro e w1 ⟨rfl, g1⟩
  have G1 := hide (((Gr.refl w).alloc (.cells #[.int .i64 d.u, .int .i64 d.n] 46)).trans g1)
  have B1 := hide ((Box.new w #[.int .i64 d.u, .int .i64 d.n] 46).below g1.below (Box.new w #[.int .i64 d.u, .int .i64 d.n] 46).lt)
  obtain ⟨b0, b1⟩ := (show CellsM w1 w.heap.size 0 d from ⟨B1.out.at_ 0, B1.out.at_ 1⟩)
  clear g1 h
  go_wp2_with fail
  refine (pw_any w1 B p F s d (H.out.keep G1.out.below) hv).mono ?_
  rintro e w3 ⟨rfl, g3⟩
  have G3 := hide (G1.out.trans g3)
  have B3 := hide (B1.out.below g3.below B1.out.lt)
  clear g3 G1 B1 b0 b1
  rw [hf]
  obtain ⟨hk, _, _, A, c, A', c', hb, hd, hw, _⟩ := H.out.keep G3.out.below
  have p0 : w3.cell? ⟨p, 1, none⟩ = some (.slice A' s.w.length c') := hb.at_ 1
  have a2 : (200 : Int) ≤ (s.w.length : Int) := by have := HL.out; omega
  clear hb hd hk hw hf
  go_wp2_with fail
  all_goals
    go_wp2_with fail
    go_ret
    exact ⟨rfl, by first | exact G3.out.drew | exact G3.out⟩
set_option maxHeartbeats 8000000 in
set_option maxRecDepth 100000 in
theorem wd_new (w : World) (B p : Nat) (F : Nat → Prop) (s : Led) (d : Mk) (h : LN w B F p s) (hv : vM d = true) (hf : fnd Mk.key d.key s.w = false) (hl : s.w.length < 200) (hok : Led.Ok ⟨s.d, ins Mk.key d s.w⟩) :
    Calls Tryz.prog 19 #[.pointer (some ⟨p, 0, none⟩), .agg #[.int .i64 d.u, .int .i64 d.n]] w fun e w' => e = .returned (.int .i64 0) ∧ LN w' B (Plus F w w') p ⟨s.d, ins Mk.key d s.w⟩ ∧ Turn F w w' := by
  have H := hide h
  have HL := hide (show s.w.length ≤ 200 from h.1.2.2.2.2.2)
  have HF0 := hide h.2.1
  go_enter Tryz.func19, Tryz.ntmps19
  go_wp2_with fail
  refine (vm_any d _ true hv).mono ?_
  rintro e w1 ⟨rfl, g1⟩
  have G1 := hide (((Gr.refl w).alloc (.cells #[.int .i64 d.u, .int .i64 d.n] 46)).trans g1)
  have B1 := hide ((Box.new w #[.int .i64 d.u, .int .i64 d.n] 46).below g1.below (Box.new w #[.int .i64 d.u, .int .i64 d.n] 46).lt)
  obtain ⟨b0, b1⟩ := (show CellsM w1 w.heap.size 0 d from ⟨B1.out.at_ 0, B1.out.at_ 1⟩)
  clear g1 h
  go_wp2_with fail
  refine (pw_any w1 B p F s d (H.out.keep G1.out.below) hv).mono ?_
  rintro e w3 ⟨rfl, g3⟩
  have G3 := hide (G1.out.trans g3)
  have B3 := hide (B1.out.below g3.below B1.out.lt)
  clear g3 G1 B1 b0 b1
  rw [hf]
  obtain ⟨hk, hF, hFp, A, c, A', c', hb, hd, hw, hA, hA'⟩ := H.out.keep G3.out.below
  have hi : cnt Mk.key d.key s.w ≤ s.w.length := cnt_le _ _
  have HI := hide (show insA s.w (cnt Mk.key d.key s.w) d = ins Mk.key d s.w from rfl)
  generalize cnt Mk.key d.key s.w = i at *
  have HB3 := hide hb
  have HO := hide hw
  have HO2 := hide hd
  have HA := hide hA
  have HA' := hide hA'
  have HFp := hide hFp
  have hAp := ow_box hw hb (by decide)
  have HAx := hide (fun g (hg : Blk A' g) => ow_ow hw hd (by decide) hg)
  have hBw : B ≤ w3.heap.size := Nat.le_trans (Nat.le_of_lt_succ (Nat.lt_succ_of_le (hF p hFp).1)) (Nat.le_of_lt (hF p hFp).2)
  have p0 : w3.cell? ⟨p, 1, none⟩ = some (.slice A' s.w.length c') := hb.at_ 1
  obtain ⟨b0, b1⟩ := (show CellsM w3 w.heap.size 0 d from ⟨B3.out.at_ 0, B3.out.at_ 1⟩)
  have a1 : ¬ ((200 : Int) ≤ (s.w.length : Int)) := by omega
  have hn1 : s.w.length ≤ 1000 := by omega
  have p1 : (w3.alloc (.cells #[.int .i64 d.u, .int .i64 d.n] 46)).cell? ⟨p, 1, none⟩ = some (.slice A' s.w.length c') := (hb.alloc _).at_ 1
  have HP := hide hAp
  have SZ := hide (fun (W : World) (h : Below w3.heap.size w3 W) => Nat.le_trans hBw h.size)
  have NO := hide (fun (hg : Blk A' w3.heap.size) => Nat.lt_irrefl _ (HO.out.blk _ hg).2)
  have NB := hide (fun (W : World) (h : Below (w3.alloc (.cells #[.int .i64 d.u, .int .i64 d.n] 46)).heap.size (w3.alloc (.cells #[.int .i64 d.u, .int .i64 d.n] 46)) W) => (newE w3 #[.int .i64 d.u, .int .i64 d.n] 46 rfl).below' h)
  have HBp := hide (hF p hFp)
  clear hb hd hk hw hf hF hFp hA hA' hAp
  go_wp2_with fail
  all_goals
    go_wp2_with fail
    go_region_law (go_simp; go_at_call 46; (with_reducible refine (insM_any B s.w.length c' i _ 1 A' s.w d _ 46 (HO.out.keep (by ((repeat (first | (with_reducible assumption) | (with_reducible exact Below.refl _ _) | (with_reducible refine Below.drewS ?_) | (with_reducible refine Below.allocS ?_ _))); (first | done | fail)))) (NB.out _ (by ((repeat (first | (with_reducible assumption) | (with_reducible exact Below.refl _ _) | (with_reducible refine Below.drewS ?_) | (with_reducible refine Below.allocS ?_ _))); (first | done | fail)))) NO.out (SZ.out _ (by ((repeat (first | (with_reducible assumption) | (with_reducible exact Below.refl _ _) | (with_reducible refine Below.drewS ?_) | (with_reducible refine Below.allocS ?_ _))); (first | done | fail)))) hi hn1).mono ?_); rintro e w4 ⟨A4, c4, rfl, o4, t4, s4⟩; have t5 := (Turn.of (F := Blk A') (w := w3) (by ((repeat (first | (with_reducible assumption) | (with_reducible exact Below.refl _ _) | (with_reducible refine Below.drewS ?_) | (with_reducible refine Below.allocS ?_ _))); (first | done | fail)))).trans t4; have q4 := hide (t5.box HB3.out HP.out); have f4 : w4.cell? ⟨p, 1, none⟩ = some (.slice A' s.w.length c') := q4.out.at_ 1; have f5 : w4.frozen? ⟨p, 1, none⟩ = false := q4.out.frozen 1)
    all_goals
      go_wp2_with fail
      go_ret
      rw [HI.out] at o4
      exact ⟨rfl, LN.putM G3.out.below.size (G3.out.turn F) HF0.out HFp.out HB3.out HO2.out HA.out HA'.out HAx.out HP.out t5 o4 s4 (by simp) hok⟩
end Go.Proofs.YtalbdclcappjpaaGreat
