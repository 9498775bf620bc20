/- The reference's journal: Entry, Cut. -/
import Derived.Test.YtjmpnpflmdpdkaaJRb
namespace Go.Proofs.Ytjmpnpflmdpdkaa
open Go Go.RowKit FM

/-- what the reference's Entry gives -/
def EntB (w : World) (K : Nat) (D : List Nat) (E : Nat) (e : Ending) (w' : World) : Prop :=
  ∃ A n c, e = .returned (.tuple #[.int .u8 (K : Int), .slice A n c, .int .i64 (E : Int)]) ∧ BR w' A n D ∧ Below w.heap.size w w'
theorem rent_nil (i : Int) (w : World) : Calls Try.prog 32 #[.pointer none, .int .i64 i] w (EntB w 0 [] 1) := by
  go_enter Try.func32, Try.ntmps32
  go_wp2_with fail
  refine bodyPost_ret (v := .tuple #[.int .u8 0, .slice none 0 0, .int .i64 1]) (by simp [results, Try.results32, go_sem]) rfl ?_
  exact ⟨none, 0, 0, rfl, BR.nil_, Below.refl _ _⟩
theorem rent_low (q : Nat) (w : World) : Calls Try.prog 32 #[.pointer (some ⟨q, 0, none⟩), .int .i64 (-1)] w (EntB w 0 [] 7) := by
  go_enter Try.func32, Try.ntmps32
  go_wp2_with fail
  refine bodyPost_ret (v := .tuple #[.int .u8 0, .slice none 0 0, .int .i64 7]) (by simp [results, Try.results32, go_sem]) rfl ?_
  exact ⟨none, 0, 0, rfl, BR.nil_, Below.refl _ _⟩
set_option maxHeartbeats 1000000 in
theorem rent_high (q B : Nat) (G : Nat → Prop) (es : List Ent) (w : World) (h : RJ w B G q es) (i : Nat) (hi : es.length ≤ i) : Calls Try.prog 32 #[.pointer (some ⟨q, 0, none⟩), .int .i64 (i : Int)] w (EntB w 0 [] 7) := by
  obtain ⟨A, n, c, hs, D, h1, h2, h3, h4, h5, h6, h7, h8, h9, h10⟩ := h
  have k1 : w.cell? ⟨q, 0, none⟩ = some (.slice A n c) := h1.at_ 0
  have i1 : n ≤ i := by omega
  have i2 : ((i : Int) < 0) = False := by simp
  clear h1 h2 h3 h4 h5 h6 h7 h8 h9 h10 hi
  go_enter Try.func32, Try.ntmps32
  go_wp2_with fail
  refine bodyPost_ret (v := .tuple #[.int .u8 0, .slice none 0 0, .int .i64 7]) (by simp [results, Try.results32, go_sem]) rfl ?_
  exact ⟨none, 0, 0, rfl, BR.nil_, Below.refl _ _⟩
set_option maxHeartbeats 4000000 in
set_option maxRecDepth 100000 in
theorem rent_at (q B : Nat) (G : Nat → Prop) (es : List Ent) (w : World) (h : RJ w B G q es) (i : Nat) (x : Ent) (hi : es[i]? = some x) : Calls Try.prog 32 #[.pointer (some ⟨q, 0, none⟩), .int .i64 (i : Int)] w (EntB w x.1 x.2 0) := by
  obtain ⟨A, n, c, hs, D, h1, h2, h3, h4, h5, h6, h7, h8, h9, h10, h11⟩ := h
  have k0 : w.cell? ⟨q, 0, none⟩ = some (.slice A n c) := h1.at_ 0
  have hil : i < es.length := (List.getElem?_eq_some_iff.1 hi).1
  obtain ⟨hd, hhk, d1, d2, d3⟩ := h7.at_ hi
  obtain ⟨b, rfl, c0, c1⟩ := owns_at h4 hhk
  obtain ⟨o1, o2, o3⟩ := h10.get hi
  obtain ⟨hk1, hA, hn1, hc1⟩ := hd
  dsimp only at d1 d2 c0 c1
  subst d1
  have HD := hide d2
  have hn8 : hn1 ≤ 8192 := by rw [← d2.len]; exact o3
  have hcl := owns_le h4
  unfold maxLen at hcl
  have KS : Hid (∀ w', Below w.heap.size w w' → w'.cell? ⟨q, 0, none⟩ = some (.slice (some ⟨b, 0, none⟩) n c) ∧ w'.cell? ⟨b, i * 2, none⟩ = some (.int .u8 (x.1 : Int)) ∧ w'.cell? ⟨b, i * 2 + 1, none⟩ = some (.slice hA hn1 hc1)) := fun w' hb =>
    ⟨(h1.below' hb).at_ 0, (hb.cell (p := ⟨b, i * 2, none⟩) (World.block_lt_of_cell? w _ c0)).trans c0, (hb.cell (p := ⟨b, i * 2 + 1, none⟩) (World.block_lt_of_cell? w _ c1)).trans c1⟩
  have KD : Hid (∀ w', Below w.heap.size w w' → BR w' hA hn1 x.2) := fun w' h => HD.out.below h
  have i1 : (i : Int) < (n : Int) := by omega
  have i2 : (0 : Int) ≤ (i : Int) := by omega
  have i3 : ¬ n ≤ i := by omega
  have i4 : ((i : Int) < 0) = False := by simp
  clear h1 h2 h3 h4 h5 h6 h7 h8 h10 h11 d2 d3 hhk hi o1 o2 o3
  go_enter Try.func32, Try.ntmps32
  go_wp2_with fail
  go_region_held3 (fun w' => w'.cell? ⟨q, 0, none⟩ = some (.slice (some ⟨b, 0, none⟩) n c) ∧ w'.cell? ⟨b, i * 2, none⟩ = some (.int .u8 (x.1 : Int)) ∧ w'.cell? ⟨b, i * 2 + 1, none⟩ = some (.slice hA hn1 hc1))
    (exact KS.out _ (by ((repeat (first | (with_reducible assumption) | (with_reducible exact Below.refl _ _) | (with_reducible refine Below.drewS ?_) | (with_reducible refine Below.allocS ?_ _))); (first | done | fail))))
    ((refine step_append_e (by rfl) _ _ (by rfl) _ (by rfl) hA hn1 _ x.2 (by rfl) (KD.out _ (by ((repeat (first | (with_reducible assumption) | (with_reducible exact Below.refl _ _) | (with_reducible refine Below.drewS ?_) | (with_reducible refine Below.allocS ?_ _))); (first | done | fail)))) (by omega) ?_; intro A1 c1 wa hr1 hb1; have E1 : Below w.heap.size w wa := Below.next (by ((repeat (first | (with_reducible assumption) | (with_reducible exact Below.refl _ _) | (with_reducible refine Below.drewS ?_) | (with_reducible refine Below.allocS ?_ _))); (first | done | fail))) hb1))
  all_goals
    go_wp2_with fail
    refine bodyPost_ret (v := .tuple #[.int .u8 (x.1 : Int), .slice A1 hn1 c1, .int .i64 0]) (by simp [results, Try.results32, go_sem]) rfl ?_
    exact ⟨A1, _, c1, rfl, hr1, E1⟩
theorem rcut_nil (i : Int) (w : World) : Calls Try.prog 24 #[.pointer none, .int .i64 i] w fun e w' => e = .returned (.int .i64 1) ∧ w = w' := by
  go_enter Try.func24, Try.ntmps24
  go_wp2_with fail
  go_ret
  exact ⟨rfl, rfl⟩
theorem rj_self {w : World} {B p : Nat} {F : Nat → Prop} {es : List Ent} (h : RJ w B F p es) : RJ w B (Plus F w w) p es := by
  have hr := h.rng
  refine h.mono (fun k hk => .inl hk) (fun k hk => ?_)
  rcases hk with hk | hk
  · have := hr k hk; omega
  · omega
theorem rcut_low (p B : Nat) (F : Nat → Prop) (es : List Ent) (w : World) (i : Int) (h : RJ w B F p es) (hi : i < 0) : Calls Try.prog 24 #[.pointer (some ⟨p, 0, none⟩), .int .i64 i] w fun e w' => e = .returned (.int .i64 (cutE es i : Int)) ∧ RJ w' B (Plus F w w') p (cutL es i) ∧ Turn F w w' := by
  have e1 : cutE es i = 7 := by unfold cutE; rw [if_pos (.inl hi)]
  have e2 : cutL es i = es := by unfold cutL; rw [if_pos (.inl hi)]
  rw [e1, e2]
  have H := hide (rj_self h)
  clear h e1 e2
  go_enter Try.func24, Try.ntmps24
  go_wp2_with fail
  go_ret
  exact ⟨rfl, H.out, Turn.refl _ _⟩
theorem rcut_high (p B : Nat) (F : Nat → Prop) (es : List Ent) (w : World) (i : Nat) (h : RJ w B F p es) (hi : es.length < i) : Calls Try.prog 24 #[.pointer (some ⟨p, 0, none⟩), .int .i64 (i : Int)] w fun e w' => e = .returned (.int .i64 (cutE es (i : Int) : Int)) ∧ RJ w' B (Plus F w w') p (cutL es (i : Int)) ∧ Turn F w w' := by
  have e1 : cutE es (i : Int) = 7 := by unfold cutE; rw [if_pos (.inr (by omega))]
  have e2 : cutL es (i : Int) = es := by unfold cutL; rw [if_pos (.inr (by omega))]
  rw [e1, e2]
  have H := hide (rj_self h)
  obtain ⟨A, n, c, hs, D, h1, h2, h3, h4, h5, h6, h7, h8, h9, h10⟩ := h
  have k1 : w.cell? ⟨p, 0, none⟩ = some (.slice A n c) := h1.at_ 0
  have i1 : n < i := by omega
  have i2 : ((i : Int) < 0) = False := by simp
  clear h1 h2 h3 h4 h5 h6 h7 h8 h9 h10 hi e1 e2
  go_enter Try.func24, Try.ntmps24
  go_wp2_with fail
  go_ret
  exact ⟨rfl, H.out, Turn.refl _ _⟩
/-- what is cut -/
theorem cut_rj {w WA w3 : World} {B q : Nat} {G : Nat → Prop} {es : List Ent} {A A3 : Option Addr} {n c c3 i gb : Nat} {hs : List Hd} {D : Nat → Prop}
    (h1 : Box w q #[.slice A n c] 59) (h2 : G q) (h3 : ∀ k, G k → B ≤ k ∧ k < w.heap.size) (h7 : EV w D hs es) (h8 : ∀ g, D g → G g ∧ g ≠ q ∧ ¬ Blk A g) (h10 : OkE es) (h11 : (jb es).length ≤ 65536) (hi : i ≤ es.length)
    (hB : B ≤ w.heap.size) (hb : Below w.heap.size w WA) (hgb : w.heap.size ≤ gb ∧ gb < WA.heap.size)
    (q3 : w3.ownsRow w.heap.size 33 2 (.slice A3 i c3) i ([] ++ flatH (hs.take i))) (t3 : Turn (Blk (some ⟨gb, 0, none⟩)) WA w3) (s3 : ∀ g, Blk A3 g → Blk (some ⟨gb, 0, none⟩) g ∨ (WA.heap.size ≤ g ∧ g < w3.heap.size)) :
    RJ (w3.setCell ⟨q, 0, none⟩ (.slice A3 i c3)) B (Plus G w (w3.setCell ⟨q, 0, none⟩ (.slice A3 i c3))) q (es.take i) ∧ Turn G w (w3.setCell ⟨q, 0, none⟩ (.slice A3 i c3)) := by
  have z1 := hb.size
  have z3 := t3.size
  have zq := h1.lt
  have ze : (w3.setCell ⟨q, 0, none⟩ (.slice A3 i c3)).heap.size = w3.heap.size := by simp [World.setCell]
  have tset : Turn (Is q) w3 (w3.setCell ⟨q, 0, none⟩ (.slice A3 i c3)) := (Turn.refl (Is q) w3).set 0 _ rfl
  have hA3 : ∀ g, Blk A3 g → w.heap.size ≤ g := fun g hg => by
    rcases s3 g hg with h | h
    · rw [blk_some.1 h]; exact hgb.1
    · omega
  have tb : Below w.heap.size w w3 := t3.onto hb (fun k hk => by rw [blk_some.1 hk]; exact hgb.1)
  have sq : Sep D (Is q) := fun g hg hg' => by
    have e : g = q := hg'
    exact (h8 g hg).2.1 e
  refine ⟨⟨A3, i, c3, hs.take i, D, Box.put (h1.below' tb) _, .inl h2, fun g hg => ?_, ?_, fun g hg => ?_, fun h => ?_, ((h7.take i).below tb).turn tset sq, fun g hg => ⟨.inl (h8 g hg).1, (h8 g hg).2.1, fun hg' => ?_⟩, ?_, h10.take i, ?_⟩, (Turn.of (F := G) tb).set 0 _ h2⟩
  · rw [ze]
    rcases hg with hg | hg
    · exact ⟨(h3 g hg).1, by have := (h3 g hg).2; omega⟩
    · rw [ze] at hg; exact ⟨by omega, hg.2⟩
  · rw [List.nil_append] at q3
    exact tset.owns (owns_low q3 (Nat.zero_le _)) (fun g hg e => by have := hA3 g hg; have e' : g = q := e; omega)
  · have e1 := hA3 g hg
    have e2 := (owns_blk q3 g hg).2
    exact .inr (by rw [ze]; omega)
  · have := hA3 q h; omega
  · have := hA3 g hg'; have := (h3 g (h8 g hg).1).2; omega
  · rw [List.length_take]; omega
  · have := jl_le es i
    unfold jl at this
    omega
set_option maxHeartbeats 4000000 in
theorem rcut_at (p B : Nat) (F : Nat → Prop) (es : List Ent) (w : World) (i : Nat) (h : RJ w B F p es) (hB : B ≤ w.heap.size) (hi : i ≤ es.length) : Calls Try.prog 24 #[.pointer (some ⟨p, 0, none⟩), .int .i64 (i : Int)] w fun e w' => e = .returned (.int .i64 (cutE es (i : Int) : Int)) ∧ RJ w' B (Plus F w w') p (cutL es (i : Int)) ∧ Turn F w w' := by
  have e1 : cutE es (i : Int) = 0 := by unfold cutE; rw [if_neg (by omega)]
  have e2 : cutL es (i : Int) = es.take i := by unfold cutL; rw [if_neg (by omega)]; rfl
  rw [e1, e2]
  obtain ⟨A, n, c, hs, D, h1, h2, h3, h4, h5, h6, h7, h8, h9, h10, h11⟩ := h
  have k1 : w.cell? ⟨p, 0, none⟩ = some (.slice A n c) := h1.at_ 0
  have hcl := owns_le h4
  unfold maxLen at hcl
  have hn6 : n ≤ 65536 := by
    have e1 : ∀ l : List Ent, l.length ≤ (fr l).length := by
      intro l
      induction l with
      | nil => simp
      | cons x l ih => rw [fr_cons, List.length_append, frame_len, List.length_cons]; omega
    have := e1 es; rw [jb_len] at h11; omega
  have F0 : Below w.heap.size w (w.alloc (.cells #[] 33)) := (Below.refl _ _).alloc (Nat.le_refl _) _
  have ka : (w.alloc (.cells #[] 33)).cell? ⟨p, 0, none⟩ = some (.slice A n c) := (h1.below' F0).at_ 0
  have HRd := hide (show 0 < i → ∃ a, A = some a ∧ ∀ j u, (flatH (hs.take i))[j]? = some u → (w.alloc (.cells #[] 33)).cell? (a.add j) = some u from fun h0 => by
    rcases h4.2 with ⟨_, e0⟩ | ⟨g, cap, cur, hv, _⟩
    · omega
    · injection hv with ea _ _
      subst ea
      refine ⟨_, rfl, fun j u hu => ?_⟩
      have hj : j < i * 2 := by
        have := (List.getElem?_eq_some_iff.1 hu).1
        rw [flatH_len, List.length_take] at this
        omega
      rw [flatH_take, List.getElem?_take_of_lt hj] at hu
      exact World.ownsRow.cells ((Turn.of (F := Non) F0).owns h4 (fun _ _ => id)) (g := g) rfl j u hu)
  have hhl : (flatH (hs.take i)).length = i * 2 := by
    have := h7.1
    rw [flatH_len, List.length_take, Nat.min_eq_left (by omega)]
  have HC := hide (fun (WA w3 : World) (A3 : Option Addr) (c3 gb : Nat) => cut_rj (WA := WA) (w3 := w3) (A3 := A3) (c3 := c3) (gb := gb) (i := i) h1 h2 h3 h7 h8 h10 h11 hi hB)
  have KN : Hid (∀ w3, Below w.heap.size w w3 → Box w3 p #[.slice A n c] 59) := fun w3 hb => h1.below' hb
  have HL := hide hhl
  have i1 : ¬ n < i := by omega
  have i2 : ((i : Int) < 0) = False := by simp
  have i3 : (i : Int) ≤ (c : Int) := by omega
  have i4 : (0 : Int) ≤ (i : Int) := by omega
  have hi6 : i ≤ 1000000 := by omega
  clear h1 h2 h3 h4 h5 h6 h7 h8 h10 h11 hi e1 e2 hhl h9
  go_enter Try.func24, Try.ntmps24
  go_wp2_with (at_builtin; refine wpList_append_ow rfl _ _ 22 rfl w.heap.size 33 (.agg #[.int .u8 0, .slice none 0 0]) 2 32 Try.underlying22 ent_info rfl (by decide) (some ⟨w.heap.size, 0, none⟩) 0 0 [] rfl (owns_new w (Nat.le_refl _)) A i c (flatH (hs.take i)) rfl HL.out HRd.out (flatH_one' _) (by decide) i (by omega) hi6 (by simp) ?_; intro A2 c2 w1 hrow1 ht1 hs1; have R := hide (HC.out _ _ _ _ _ F0 ⟨Nat.le_refl _, by simp⟩ hrow1 ht1 hs1); have HP3 := hide (KN.out _ (ht1.onto F0 (fun k hk => by rw [blk_some.1 hk]; exact Nat.le_refl _))); have f3 := HP3.out.frozen 0; have c3f : w1.cell? ⟨p, 0, none⟩ = some (.slice A n c) := HP3.out.at_ 0; clear hrow1 ht1 hs1)
  go_ret
  exact ⟨rfl, R.out⟩
end Go.Proofs.Ytjmpnpflmdpdkaa
