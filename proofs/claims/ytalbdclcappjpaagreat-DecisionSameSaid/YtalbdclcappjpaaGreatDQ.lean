/- Ledgers of the program: New, Made, Withdrawn, Same, Clone, the places. -/
import Derived.Test.YtalbdclcappjpaaGreatDB
import Derived.Test.YtalbdclcappjpaaGreatDK
import Derived.Test.YtalbdclcappjpaaGreatDV
import Derived.Test.YtalbdclcappjpaaGreatDO
import Derived.Test.YtalbdclcappjpaaGreatDP
namespace Go.Proofs.YtalbdclcappjpaaGreat
open Go Go.RowKit Go.Lib
/-- the program's ledger at p: what it holds, in the blocks of F, all from B on -/
def LN (w : World) (B : Nat) (F : Nat → Prop) (p : Nat) (s : Led) : Prop :=
  s.Ok ∧ (∀ k, F k → B ≤ k ∧ k < w.heap.size) ∧ F p ∧ ∃ A c A' c', Box w p #[.slice A s.d.length c, .slice A' s.w.length c'] 57 ∧ Ow eD w B A s.d.length c s.d ∧ Ow eM w B A' s.w.length c' s.w ∧ (∀ g, Blk A g → F g) ∧ (∀ g, Blk A' g → F g)
theorem Gr.turn {w w' : World} (h : Gr w w') (F : Nat → Prop) : Turn F w w' := Turn.of h.below
theorem LN.turn {w w' : World} {B p : Nat} {F G : Nat → Prop} {s : Led} (h : LN w B F p s) (t : Turn G w w') (hs : Sep F G) : LN w' B F p s := by
  obtain ⟨h0, h1, h2, A, c, A', c', h3, h4, h5, h6, h7⟩ := h
  exact ⟨h0, fun k hk => ⟨(h1 k hk).1, Nat.lt_of_lt_of_le (h1 k hk).2 t.size⟩, h2, A, c, A', c', t.box h3 (hs p h2), h4.turn t fun g hg => hs g (h6 g hg), h5.turn t fun g hg => hs g (h7 g hg), h6, h7⟩
theorem LN.keep {w w' : World} {B p : Nat} {F : Nat → Prop} {s : Led} (h : LN w B F p s) (hb : Below w.heap.size w w') : LN w' B F p s := h.turn (Turn.of (F := Non) hb) fun _ _ h => h
theorem ow_block {α : Type} {e : En α} {w : World} {B n c g : Nat} {A : Option Addr} {ys : List α} (h : Ow e w B A n c ys) (hg : Blk A g) : ∃ cur, w.heap[g]? = some (.cells cur e.t (0, 0)) := by
  rcases h.2 with ⟨e1, _⟩ | ⟨g', c', cur, e1, _, h2, _⟩
  · injection e1 with e1; subst e1; exact absurd hg blk_none
  · injection e1 with e1; subst e1; rw [blk_some] at hg; subst hg; exact ⟨cur, h2⟩
theorem ow_box {α : Type} {e : En α} {w : World} {B n c g : Nat} {A : Option Addr} {ys : List α} {vs : Array Value} {t : TypeId} (h : Ow e w B A n c ys) (hb : Box w g vs t) (ht : t ≠ e.t) : ¬ Blk A g := fun hg => by
  obtain ⟨cur, h2⟩ := ow_block h hg
  have := hb.symm.trans h2
  injection this with this
  injection this with _ e1
  exact ht e1
theorem ow_ow {α β : Type} {e : En α} {f : En β} {w : World} {B n c B' n' c' g : Nat} {A A' : Option Addr} {ys : List α} {zs : List β} (h : Ow e w B A n c ys) (h' : Ow f w B' A' n' c' zs) (ht : e.t ≠ f.t) (hg : Blk A g) : ¬ Blk A' g := fun hg' => by
  obtain ⟨cur, h2⟩ := ow_block h hg
  obtain ⟨cur', h3⟩ := ow_block h' hg'
  have := h2.symm.trans h3
  injection this with this
  injection this with _ e1
  exact ht e1
theorem LN.bp {w : World} {B p : Nat} {F : Nat → Prop} {s : Led} (h : LN w B F p s) : B ≤ p ∧ p < w.heap.size := h.2.1 p h.2.2.1
theorem LN.ok {w : World} {B p : Nat} {F : Nat → Prop} {s : Led} (h : LN w B F p s) : s.Ok := h.1
set_option maxHeartbeats 1000000 in
theorem new_any (w : World) : Calls Tryz.prog 21 #[] w fun e w' => ∃ p, e = .returned (.pointer (some ⟨p, 0, none⟩)) ∧ LN w' w.heap.size (Plus Non w w') p Led.none ∧ Below w.heap.size w w' := by
  go_enter Tryz.func21, Tryz.ntmps21
  go_wp2_with fail
  go_ret
  refine ⟨_, rfl, ⟨none_ok, fun k hk => hk.elim (fun h => h.elim) id, .inr ⟨Nat.le_refl _, by simp⟩, none, 0, none, 0, newE _ _ _ (by simp), Ow.nil_ _ _, Ow.nil_ _ _, fun g hg => absurd hg blk_none, fun g hg => absurd hg blk_none⟩, (Below.refl _ _).alloc (Nat.le_refl _) _⟩
set_option maxHeartbeats 4000000 in
theorem pm_any (w : World) (B p : Nat) (F : Nat → Prop) (s : Led) (m : Mk) (h : LN w B F p s) (hm : vM m = true) :
    Calls Tryz.prog 41 #[.pointer (some ⟨p, 0, none⟩), .agg #[.int .i64 m.u, .int .i64 m.n]] w fun e w' => e = .returned (.tuple #[.int .i64 (cnt Dec.key m.key s.d : Nat), .bool (fnd Dec.key m.key s.d)]) ∧ Gr w w' := by
  obtain ⟨hk, hF, hFp, A, c, A', c', hb, hd, hw, _, _⟩ := h
  have HB := hide hb
  have HS := hide hd.sl
  have hn1 : s.d.length ≤ 1000 := Nat.le_trans hk.2.2.1 (by decide)
  have HK1 := hide hk.1
  have HK2 := hide hk.2.1
  clear hk hF hFp hb hd hw
  go_enter Tryz.func41, Tryz.ntmps41
  go_wp2_with fail
  generalize hW : w.alloc _ = W
  obtain ⟨G, bm⟩ : Gr w W ∧ Box W w.heap.size #[.int .i64 m.u, .int .i64 m.n] 46 := by
    subst hW
    exact ⟨(by ((repeat (first | (with_reducible assumption) | (with_reducible exact Gr.refl _) | (with_reducible refine Gr.drew ?_) | (with_reducible refine Gr.alloc ?_ _) | (with_reducible refine Gr.trans ?_ (by assumption)))); (first | done | fail))), newE _ _ _ (by simp)⟩
  clear hW
  have KS : Hid (∀ w', Gr W w' → w'.cell? ⟨p, 0, none⟩ = some (.slice A s.d.length c) ∧ w'.cell? ⟨w.heap.size, 0, none⟩ = some (.int .i64 m.u) ∧ w'.cell? ⟨w.heap.size, 1, none⟩ = some (.int .i64 m.n)) := fun w' g => ⟨(HB.out.below (G.trans g).below HB.out.lt).at_ 0, (bm.below g.below bm.lt).at_ 0, (bm.below g.below bm.lt).at_ 1⟩
  have SK : Hid (∀ w', Gr W w' → SL eD w' A s.d.length s.d) := fun w' g => HS.out.keep (G.trans g).below
  go_region_held3 (fun w' => w'.cell? ⟨p, 0, none⟩ = some (.slice A s.d.length c) ∧ w'.cell? ⟨w.heap.size, 0, none⟩ = some (.int .i64 m.u) ∧ w'.cell? ⟨w.heap.size, 1, none⟩ = some (.int .i64 m.n))
    (exact KS.out _ (by ((repeat (first | (with_reducible assumption) | (with_reducible exact Gr.refl _) | (with_reducible refine Gr.drew ?_) | (with_reducible refine Gr.alloc ?_ _) | (with_reducible refine Gr.trans ?_ (by assumption)))); (first | done | fail))))
    (first
      | (go_at_call 63; (with_reducible refine (bsD_any A s.d.length c s.d m _ (SK.out _ (by ((repeat (first | (with_reducible assumption) | (with_reducible exact Gr.refl _) | (with_reducible refine Gr.drew ?_) | (with_reducible refine Gr.alloc ?_ _) | (with_reducible refine Gr.trans ?_ (by assumption)))); (first | done | fail)))) HK1.out HK2.out hm hn1).mono ?_); rintro e w1 ⟨rfl, hg⟩))
  all_goals
    go_wp2_with fail
    go_ret2
    exact ⟨rfl, G.trans (by ((repeat (first | (with_reducible assumption) | (with_reducible exact Gr.refl _) | (with_reducible refine Gr.drew ?_) | (with_reducible refine Gr.alloc ?_ _) | (with_reducible refine Gr.trans ?_ (by assumption)))); (first | done | fail)))⟩
set_option maxHeartbeats 4000000 in
theorem pw_any (w : World) (B p : Nat) (F : Nat → Prop) (s : Led) (m : Mk) (h : LN w B F p s) (hm : vM m = true) :
    Calls Tryz.prog 45 #[.pointer (some ⟨p, 0, none⟩), .agg #[.int .i64 m.u, .int .i64 m.n]] w fun e w' => e = .returned (.tuple #[.int .i64 (cnt Mk.key m.key s.w : Nat), .bool (fnd Mk.key m.key s.w)]) ∧ Gr w w' := by
  obtain ⟨hk, hF, hFp, A, c, A', c', hb, hd, hw, _, _⟩ := h
  have HB := hide hb
  have HS := hide hw.sl
  have hn1 : s.w.length ≤ 1000 := Nat.le_trans hk.2.2.2.2.2 (by decide)
  have HK1 := hide hk.2.2.2.1
  have HK2 := hide hk.2.2.2.2.1
  clear hk hF hFp hb hd hw
  go_enter Tryz.func45, Tryz.ntmps45
  go_wp2_with fail
  generalize hW : w.alloc _ = W
  obtain ⟨G, bm⟩ : Gr w W ∧ Box W w.heap.size #[.int .i64 m.u, .int .i64 m.n] 46 := by
    subst hW
    exact ⟨(by ((repeat (first | (with_reducible assumption) | (with_reducible exact Gr.refl _) | (with_reducible refine Gr.drew ?_) | (with_reducible refine Gr.alloc ?_ _) | (with_reducible refine Gr.trans ?_ (by assumption)))); (first | done | fail))), newE _ _ _ (by simp)⟩
  clear hW
  have KS : Hid (∀ w', Gr W w' → w'.cell? ⟨p, 1, none⟩ = some (.slice A' s.w.length c') ∧ w'.cell? ⟨w.heap.size, 0, none⟩ = some (.int .i64 m.u) ∧ w'.cell? ⟨w.heap.size, 1, none⟩ = some (.int .i64 m.n)) := fun w' g => ⟨(HB.out.below (G.trans g).below HB.out.lt).at_ 1, (bm.below g.below bm.lt).at_ 0, (bm.below g.below bm.lt).at_ 1⟩
  have SK : Hid (∀ w', Gr W w' → SL eM w' A' s.w.length s.w) := fun w' g => HS.out.keep (G.trans g).below
  go_region_held3 (fun w' => w'.cell? ⟨p, 1, none⟩ = some (.slice A' s.w.length c') ∧ w'.cell? ⟨w.heap.size, 0, none⟩ = some (.int .i64 m.u) ∧ w'.cell? ⟨w.heap.size, 1, none⟩ = some (.int .i64 m.n))
    (exact KS.out _ (by ((repeat (first | (with_reducible assumption) | (with_reducible exact Gr.refl _) | (with_reducible refine Gr.drew ?_) | (with_reducible refine Gr.alloc ?_ _) | (with_reducible refine Gr.trans ?_ (by assumption)))); (first | done | fail))))
    (first
      | (go_at_call 67; (with_reducible refine (bsM_any A' s.w.length c' s.w m _ (SK.out _ (by ((repeat (first | (with_reducible assumption) | (with_reducible exact Gr.refl _) | (with_reducible refine Gr.drew ?_) | (with_reducible refine Gr.alloc ?_ _) | (with_reducible refine Gr.trans ?_ (by assumption)))); (first | done | fail)))) HK1.out HK2.out hm hn1).mono ?_); rintro e w1 ⟨rfl, hg⟩))
  all_goals
    go_wp2_with fail
    go_ret2
    exact ⟨rfl, G.trans (by ((repeat (first | (with_reducible assumption) | (with_reducible exact Gr.refl _) | (with_reducible refine Gr.drew ?_) | (with_reducible refine Gr.alloc ?_ _) | (with_reducible refine Gr.trans ?_ (by assumption)))); (first | done | fail)))⟩
/-- a pointer at a ledger, or nil -/
def PQ (w : World) (v : Value) (s : Led) : Prop := (v = .pointer none ∧ s = Led.none) ∨ ∃ B F p, v = .pointer (some ⟨p, 0, none⟩) ∧ LN w B F p s
theorem PQ.keep {w w' : World} {v : Value} {s : Led} (h : PQ w v s) (hb : Below w.heap.size w w') : PQ w' v s := by
  rcases h with h | ⟨B, F, p, h1, h2⟩
  · exact .inl h
  · exact .inr ⟨B, F, p, h1, h2.keep hb⟩
theorem LN.pq {w : World} {B p : Nat} {F : Nat → Prop} {s : Led} (h : LN w B F p s) : PQ w (.pointer (some ⟨p, 0, none⟩)) s := .inr ⟨B, F, p, rfl, h⟩
set_option maxHeartbeats 1000000 in
theorem made_any (w : World) (v : Value) (s : Led) (h : PQ w v s) :
    Calls Tryz.prog 15 #[v] w fun e w' => ∃ A c, e = .returned (.slice A s.d.length c) ∧ Ow eD w' w.heap.size A s.d.length c s.d ∧ Below w.heap.size w w' := by
  rcases h with ⟨rfl, rfl⟩ | ⟨B, F, p, rfl, hk, hF, hFp, A, c, A', c', hb, hd, hw, _, _⟩
  · go_enter Tryz.func15, Tryz.ntmps15
    go_wp2_with fail
    go_ret
    exact ⟨_, _, rfl, Ow.nil_ _ _, Below.refl _ _⟩
  · have k0 : w.cell? ⟨p, 0, none⟩ = some (.slice A s.d.length c) := hb.at_ 0
    have HS := hide hd.sl
    have HN := hide hk.2.2.1
    clear hk hF hFp hb hd hw
    go_enter Tryz.func15, Tryz.ntmps15
    go_wp2_with fail
    refine (cloneD_any A _ c s.d w HS.out (Nat.le_trans HN.out (by decide))).mono ?_
    rintro e w1 ⟨A1, c1, rfl, h1, h2⟩
    go_wp2_with fail
    go_ret
    exact ⟨_, _, rfl, h1, h2⟩
set_option maxHeartbeats 1000000 in
theorem withdrawn_any (w : World) (v : Value) (s : Led) (h : PQ w v s) :
    Calls Tryz.prog 16 #[v] w fun e w' => ∃ A c, e = .returned (.slice A s.w.length c) ∧ Ow eM w' w.heap.size A s.w.length c s.w ∧ Below w.heap.size w w' := by
  rcases h with ⟨rfl, rfl⟩ | ⟨B, F, p, rfl, hk, hF, hFp, A, c, A', c', hb, hd, hw, _, _⟩
  · go_enter Tryz.func16, Tryz.ntmps16
    go_wp2_with fail
    go_ret
    exact ⟨_, _, rfl, Ow.nil_ _ _, Below.refl _ _⟩
  · have k0 : w.cell? ⟨p, 1, none⟩ = some (.slice A' s.w.length c') := hb.at_ 1
    have HS := hide hw.sl
    have HN := hide hk.2.2.2.2.2
    clear hk hF hFp hb hd hw
    go_enter Tryz.func16, Tryz.ntmps16
    go_wp2_with fail
    refine (cloneM_any A' _ c' s.w w HS.out (Nat.le_trans HN.out (by decide))).mono ?_
    rintro e w1 ⟨A1, c1, rfl, h1, h2⟩
    go_wp2_with fail
    go_ret
    exact ⟨_, _, rfl, h1, h2⟩
theorem pq_len {w : World} {v : Value} {s : Led} (h : PQ w v s) : s.d.length ≤ 200 ∧ s.w.length ≤ 200 := by
  rcases h with ⟨rfl, rfl⟩ | ⟨B, F, p, rfl, hk, _⟩
  · exact ⟨by decide, by decide⟩
  · exact ⟨hk.2.2.1, hk.2.2.2.2.2⟩
set_option maxHeartbeats 2000000 in
theorem same_any (w : World) (v v' : Value) (s t : Led) (h : PQ w v s) (h' : PQ w v' t) (r : Bool) (hr : (decide (s.d = t.d) && decide (s.w = t.w)) = r) :
    Calls Tryz.prog 12 #[v, v'] w fun e w' => e = .returned (.bool r) ∧ Below w.heap.size w w' := by
  have H := hide h
  have H' := hide h'
  have HL := hide (pq_len h)
  have HL' := hide (pq_len h')
  have HR := hide hr
  clear h h' hr
  go_enter Tryz.func12, Tryz.ntmps12
  go_wp2_with fail
  refine (made_any w v s H.out).mono ?_
  rintro e w1 ⟨A1, c1, rfl, o1, b1⟩
  have O1 := hide o1
  have B1 := hide b1
  clear o1 b1
  go_wp2_with fail
  refine (made_any w1 v' t (H'.out.keep B1.out)).mono ?_
  rintro e w2 ⟨A2, c2, rfl, o2, b2⟩
  have O1 := hide (O1.out.keep b2)
  have O2 := hide o2
  have B2 := hide (Below.next B1.out b2)
  clear o2 b2 B1
  go_wp2_with fail
  refine (equalD_any A1 _ c1 s.d A2 _ c2 t.d w2 O1.out.sl O2.out.sl (Nat.le_trans HL.out.1 (by decide)) (Nat.le_trans HL'.out.1 (by decide)) _ rfl).mono ?_
  rintro e w3 ⟨rfl, b3⟩
  have B3 := hide (Below.next B2.out b3.below)
  clear b3 O1 O2 B2
  by_cases hd : s.d = t.d
  · rw [decide_eq_true hd]
    go_wp2_with fail
    refine (withdrawn_any w3 v s (H.out.keep B3.out)).mono ?_
    rintro e w4 ⟨A3, c3, rfl, o3, b4⟩
    have O3 := hide o3
    have B4 := hide (Below.next B3.out b4)
    clear o3 b4 B3
    go_wp2_with fail
    refine (withdrawn_any w4 v' t (H'.out.keep B4.out)).mono ?_
    rintro e w5 ⟨A4, c4, rfl, o4, b5⟩
    have O3 := hide (O3.out.keep b5)
    have O4 := hide o4
    have B5 := hide (Below.next B4.out b5)
    clear o4 b5 B4
    go_wp2_with fail
    refine (equalM_any A3 _ c3 s.w A4 _ c4 t.w w5 O3.out.sl O4.out.sl (Nat.le_trans HL.out.2 (by decide)) (Nat.le_trans HL'.out.2 (by decide)) _ rfl).mono ?_
    rintro e w6 ⟨rfl, b6⟩
    have B6 := hide (Below.next B5.out b6.below)
    clear b6
    go_wp2_with fail
    go_ret
    exact ⟨by rw [← HR.out, decide_eq_true hd, Bool.true_and]; rfl, B6.out⟩
  · rw [decide_eq_false hd]
    go_wp2_with fail
    go_ret
    exact ⟨by rw [← HR.out, decide_eq_false hd, Bool.false_and]; rfl, B3.out⟩
set_option maxHeartbeats 2000000 in
theorem clone_any (w : World) (B p : Nat) (F : Nat → Prop) (s : Led) (h : LN w B F p s) :
    Calls Tryz.prog 13 #[.pointer (some ⟨p, 0, none⟩)] w fun e w' => ∃ q, e = .returned (.pointer (some ⟨q, 0, none⟩)) ∧ LN w' w.heap.size (Plus Non w w') q s ∧ Below w.heap.size w w' := by
  have H := hide h
  clear h
  go_enter Tryz.func13, Tryz.ntmps13
  go_wp2_with fail
  refine (made_any w _ s H.out.pq).mono ?_
  rintro e w1 ⟨A1, c1, rfl, o1, b1⟩
  have O1 := hide o1
  have B1 := hide b1
  clear o1 b1
  go_wp2_with fail
  refine (withdrawn_any w1 _ s (H.out.keep B1.out).pq).mono ?_
  rintro e w2 ⟨A2, c2, rfl, o2, b2⟩
  have O1 := hide (O1.out.keep b2)
  have O2 := hide (o2.low B1.out.size)
  have B2 := hide (Below.next B1.out b2)
  clear o2 b2 B1
  go_wp2_with fail
  go_ret
  have a2 : Below w2.heap.size w2 (w2.alloc (.cells #[.slice A1 s.d.length c1, .slice A2 s.w.length c2] 57)) := (Below.refl _ _).alloc (Nat.le_refl _) _
  refine ⟨w2.heap.size, rfl, ⟨H.out.1, fun k hk => hk.elim (fun h => h.elim) id, .inr ⟨B2.out.size, by simp⟩, A1, c1, A2, c2, newE _ _ _ rfl, O1.out.keep a2, O2.out.keep a2, fun g hg => .inr ?_, fun g hg => .inr ?_⟩, Below.next B2.out a2⟩
  · have := (O1.out.keep a2).blk g hg; exact this
  · have := (O2.out.keep a2).blk g hg; exact this
end Go.Proofs.YtalbdclcappjpaaGreat
