/- The reference's journal: Append. -/
import Derived.Test.YtjmpnpflmdpdkaaJRb
import Derived.Deep.RegionLaw
namespace Go.Proofs.Ytjmpnpflmdpdkaa
open Go Go.RowKit FM

theorem rput_nil (k : Int) (A : Option Addr) (n c : Nat) (w : World) : Calls Try.prog 15 #[.pointer none, .int .u8 k, .slice A n c] w fun e w' => e = .returned (.int .i64 1) ∧ w = w' := by
  go_enter Try.func15, Try.ntmps15
  go_wp2_with fail
  go_ret
  exact ⟨rfl, rfl⟩
theorem box_one0 {w : World} {p : Nat} {u x : Value} {t : TypeId} (h : Box w p #[u] t) : Box (w.setCell ⟨p, 0, none⟩ x) p #[x] t := h.put x
theorem rj_plus {w w1 : World} {B p : Nat} {F : Nat → Prop} {es : List Ent} (h : RJ w B F p es) (hB : B ≤ w.heap.size) (h1 : Below w.heap.size w w1) : RJ w1 B (Plus F w w1) p es := by
  have hr := h.rng
  refine (h.below h1).mono (fun k hk => .inl hk) (fun k hk => ?_)
  have := h1.size
  rcases hk with hk | hk
  · have := hr k hk; omega
  · omega
/-- one more entry -/
theorem put_rj {w WA w3 : World} {B q : Nat} {G : Nat → Prop} {es : List Ent} {A A3 Ad : Option Addr} {n c c3 k nd cd : Nat} {d : List Nat} {hs : List Hd} {D : Nat → Prop}
    (h1 : Box w q #[.slice A n c] 59) (h2 : G q) (h3 : ∀ k, G k → B ≤ k ∧ k < w.heap.size) (h5 : ∀ g, Blk A g → G g) (h6 : ¬ Blk A q) (h7 : EV w D hs es) (h8 : ∀ g, D g → G g ∧ g ≠ q ∧ ¬ Blk A g) (h9 : n = es.length) (h10 : OkE es)
    (hB : B ≤ w.heap.size) (hk : k < 256) (hd : By d) (hd8 : d.length ≤ 8192) (hl : (jb es).length + d.length + 9 ≤ 65536)
    (hb : Below w.heap.size w WA) (hv : BR WA Ad nd d) (hnew : 0 < nd → ∀ g, Blk Ad g → w.heap.size ≤ g)
    (q3 : w3.ownsRow 0 33 2 (.slice A3 (n + 1) c3) (n + 1) (flatH hs ++ cellsH (k, Ad, nd, cd))) (t3 : Turn (Blk A) WA w3) (s3 : ∀ g, Blk A3 g → Blk A g ∨ (WA.heap.size ≤ g ∧ g < w3.heap.size)) :
    RJ (w3.setCell ⟨q, 0, none⟩ (.slice A3 (n + 1) c3)) B (Plus G w (w3.setCell ⟨q, 0, none⟩ (.slice A3 (n + 1) c3))) q (es ++ [(k, d)]) ∧ Turn G w (w3.setCell ⟨q, 0, none⟩ (.slice A3 (n + 1) c3)) := by
  have z1 := hb.size
  have z3 := t3.size
  have zq := h1.lt
  have ze : (w3.setCell ⟨q, 0, none⟩ (.slice A3 (n + 1) c3)).heap.size = w3.heap.size := by simp [World.setCell]
  have tset : Turn (Is q) w3 (w3.setCell ⟨q, 0, none⟩ (.slice A3 (n + 1) c3)) := (Turn.refl (Is q) w3).set 0 _ rfl
  have hA3 : ∀ g, Blk A3 g → g ≠ q := fun g hg e => by
    subst e
    rcases s3 g hg with h | h
    · exact h6 h
    · omega
  have ev1 : EV WA (Plus D w WA) (hs ++ [(k, Ad, nd, cd)]) (es ++ [(k, d)]) :=
    ((h7.below hb).mono (fun k hk => .inl hk)).snoc ⟨rfl, hv, fun h0 g hg => by
      have e1 := hnew h0 g hg
      have e2 : g < WA.heap.size := by obtain ⟨o, s, e⟩ := hg; dsimp only at e h0; obtain ⟨b, o', e', _⟩ := hv.1.2 h0; have hlt := hv.1.lt h0 b o' e'; rw [e] at e'; injection e' with e'; injection e' with e' _ _; subst e'; exact hlt
      exact ⟨.inr ⟨e1, e2⟩, e2⟩⟩
  have sA : Sep (Plus D w WA) (Blk A) := fun g hg hg' => by
    rcases hg with hg | hg
    · exact (h8 g hg).2.2 hg'
    · have := (h3 g (h5 g hg')).2; omega
  have sq : Sep (Plus D w WA) (Is q) := fun g hg hg' => by
    have e : g = q := hg'
    subst e
    rcases hg with hg | hg
    · exact (h8 g hg).2.1 rfl
    · omega
  refine ⟨⟨A3, n + 1, c3, hs ++ [(k, Ad, nd, cd)], Plus D w WA, box_one0 (t3.box (h1.below' hb) h6), .inl h2, fun g hg => ?_, ?_, fun g hg => ?_, fun h => hA3 q h rfl, (ev1.turn t3 sA).turn tset sq, fun g hg => ⟨?_, ?_, fun hg' => ?_⟩, by rw [h9]; simp, h10.app (OkE.one hk hd hd8), ?_⟩, ?_⟩
  · rw [ze]
    rcases hg with hg | hg
    · exact ⟨(h3 g hg).1, by have := (h3 g hg).2; omega⟩
    · rw [ze] at hg; exact ⟨by omega, hg.2⟩
  · rw [flatH_app, flatH_one]
    exact tset.owns q3 (fun g hg e => hA3 g hg e)
  · rcases s3 g hg with h | h
    · exact .inl (h5 g h)
    · exact .inr (by rw [ze]; omega)
  · rcases hg with hg | hg
    · exact .inl (h8 g hg).1
    · exact .inr (by rw [ze]; omega)
  · intro e
    exact sq g hg e
  · rcases s3 g hg' with h | h
    · exact sA g hg h
    · rcases hg with hg | hg
      · have := (h3 g (h8 g hg).1).2; omega
      · omega
  · rw [jb_snoc, List.length_append, frame_len]; show _ + (d.length + 9) ≤ _; omega
  · exact ((Turn.of (F := G) hb).trans2 (t3.mono (H := G) fun k _ => h5 k) (fun _ _ h => h)).set 0 _ h2
set_option maxHeartbeats 1000000 in
theorem rput_full (p B : Nat) (F : Nat → Prop) (es : List Ent) (w : World) (h : RJ w B F p es) (hB : B ≤ w.heap.size) (k : Nat) (A1 : Option Addr) (n1 c1 : Nat) (d : List Nat) (hd : BR w A1 n1 d) (hn : n1 ≤ maxLen) (hf : 8192 < n1) :
    Calls Try.prog 15 #[.pointer (some ⟨p, 0, none⟩), .int .u8 (k : Int), .slice A1 n1 c1] w (Puts w B F p es k d RJ) := by
  have hE : apE es d = 6 := apE_no (.inl (by rw [hd.len]; omega))
  have R := hide (rj_plus h hB (Below.refl _ _))
  clear h hd
  go_enter Try.func15, Try.ntmps15
  go_wp2_with fail
  (with_reducible refine (rseal_full (k : Int) A1 n1 c1 _ hn hf).mono ?_)
  rintro e w' ⟨rfl, rfl⟩
  go_wp2_with fail
  go_ret
  exact ⟨by rw [hE]; rfl, by rw [apL_no (by omega)]; exact R.out, Turn.refl _ _⟩
set_option maxHeartbeats 8000000 in
theorem rput_any (p B : Nat) (F : Nat → Prop) (es : List Ent) (w : World) (h : RJ w B F p es) (hB : B ≤ w.heap.size) (k : Nat) (hk : k < 256) (A1 : Option Addr) (n1 c1 : Nat) (d : List Nat) (hd : BR w A1 n1 d) (hn : n1 ≤ maxLen) :
    Calls Try.prog 15 #[.pointer (some ⟨p, 0, none⟩), .int .u8 (k : Int), .slice A1 n1 c1] w (Puts w B F p es k d RJ) := by
  by_cases hf : 8192 < n1
  · exact rput_full p B F es w h hB k A1 n1 c1 d hd hn hf
  have hdl := hd.len
  have hj10 := h.ok.2
  have HJ := hide h
  have HD := hide hd
  have HDB := hide hd.2
  have HK := hide hk
  obtain ⟨A, n, c, hs, D, h1, h2, h3, h4, h5, h6, h7, h8, h9, h10, h11⟩ := h
  have KP : Hid (∀ w', Below w.heap.size w w' → w'.cell? ⟨p, 0, none⟩ = some (.slice A n c)) := fun w' hb => (h1.below' hb).at_ 0
  have KR : Hid (∀ w', Below w.heap.size w w' → w'.ownsRow 0 33 2 (.slice A n c) n (flatH hs)) := fun w' hb => (Turn.of (F := Non) hb).owns h4 (fun _ _ => id)
  have KN : Hid (∀ w' w3, Below w.heap.size w w' → Turn (Blk A) w' w3 → Box w3 p #[.slice A n c] 59) := fun w' w3 hb t => t.box (h1.below' hb) h6
  have hn6 : n ≤ 65536 := by
    have e1 : ∀ l : List Ent, l.length ≤ (fr l).length := by
      intro l
      induction l with
      | nil => simp
      | cons x l ih => rw [fr_cons, List.length_append, frame_len, List.length_cons]; omega
    have := e1 es; rw [jb_len] at h11; omega
  have HP := hide (fun (hd8 : d.length ≤ 8192) (hl : (jb es).length + d.length + 9 ≤ 65536) (WA w3 : World) (A3 Ad : Option Addr) (c3 nd cd : Nat) => put_rj (WA := WA) (w3 := w3) (A3 := A3) (Ad := Ad) (c3 := c3) (k := k) (nd := nd) (cd := cd) h1 h2 h3 h5 h6 h7 h8 h9 h10 hB hk hd.2 hd8 hl)
  clear h1 h2 h3 h4 h5 h6 h7 h8 h9 h10 h11 hd hk
  have hn8 : n1 ≤ 8192 := by omega
  clear hf hn
  go_enter Try.func15, Try.ntmps15
  go_wp2_with fail
  (with_reducible refine (rseal_any k A1 n1 c1 d _ HD.out HK.out hn8 _ rfl).mono ?_)
  rintro e w1 ⟨A2, c2, rfl, hr, hb⟩
  have HB := hide hb
  clear hr hb
  go_wp2_with fail
  (with_reducible refine (rbytes_any p B F es _ (HJ.out.below HB.out) _ rfl).mono ?_)
  rintro e w2 ⟨A3, c3, rfl, hr3, hb3⟩
  have HB2 := hide (HB.out.trans (hb3.mono HB.out.size))
  clear hr3 hb3 HB
  generalize hj : (jb es).length = N at *
  by_cases hl : 65536 < N + (n1 + 9)
  · have hE : apE es d = 6 := apE_no (.inr (by rw [hj, hdl]; omega))
    have d1 : decide ((65536 : Int) < (N : Int) + ((n1 : Int) + 9)) = true := decide_eq_true (by omega)
    have R := hide (rj_plus HJ.out hB HB2.out)
    go_wp2_with fail
    go_ret
    exact ⟨by rw [hE]; rfl, by rw [apL_no (by omega)]; exact R.out, Turn.of HB2.out⟩
  · have hE : apE es d = 0 := apE_ok (by omega) (by rw [hj, hdl]; omega)
    have d1 : decide ((65536 : Int) < (N : Int) + ((n1 : Int) + 9)) = false := decide_eq_false (by omega)
    have HPP := hide (HP.out (by omega) (by omega))
    have k0 := KP.out _ HB2.out
    have KD : Hid (∀ w', Below w2.heap.size w2 w' → BR w' A1 n1 d) := fun w' h => HD.out.below (HB2.out.trans (h.mono HB2.out.size))
    have KB : Hid (∀ w', Below w2.heap.size w2 w' → Below w.heap.size w w') := fun w' h => HB2.out.trans (h.mono HB2.out.size)
    have hsz : w.heap.size ≤ w2.heap.size := HB2.out.size
    have ka : (w2.alloc (.cells #[] 5)).cell? ⟨p, 0, none⟩ = some (.slice A n c) := KP.out _ (KB.out _ ((Below.refl _ _).alloc (Nat.le_refl _) _))
    clear HP hj hdl
    go_wp2_with fail
    go_region_law (first
      | (refine step_append_e2 (by rfl) _ _ (by rfl) _ (by rfl) A1 n1 _ d (by rfl) (KD.out _ (by ((repeat (first | (with_reducible assumption) | (with_reducible exact Below.refl _ _) | (with_reducible refine Below.drewS ?_) | (with_reducible refine Below.allocS ?_ _))); (first | done | fail)))) (by omega) w2.heap.size (szB (by ((repeat (first | (with_reducible assumption) | (with_reducible exact Below.refl _ _) | (with_reducible refine Below.drewS ?_) | (with_reducible refine Below.allocS ?_ _))); (first | done | fail)))) ?_; intro Ad cd wb hrd hbd hnd; have E1 : Below w2.heap.size w2 wb := Below.next (by ((repeat (first | (with_reducible assumption) | (with_reducible exact Below.refl _ _) | (with_reducible refine Below.drewS ?_) | (with_reducible refine Below.allocS ?_ _))); (first | done | fail))) hbd; have kb : wb.cell? ⟨p, 0, none⟩ = some (.slice A n c) := KP.out _ (KB.out _ E1); have kb2 : (wb.alloc (.cells #[.int .u8 (k : Int), .slice Ad n1 cd] 33)).cell? ⟨p, 0, none⟩ = some (.slice A n c) := KP.out _ (KB.out _ (Below.allocS E1 _)))
      | (refine step_append_one (by rfl) _ _ 22 (by rfl) 33 (.agg #[.int .u8 0, .slice none 0 0]) 2 32 Try.underlying22 ent_info rfl (by decide) (by decide) A n c (flatH hs) (by rfl) (KR.out _ (KB.out _ (by ((repeat (first | (with_reducible assumption) | (with_reducible exact Below.refl _ _) | (with_reducible refine Below.drewS ?_) | (with_reducible refine Below.allocS ?_ _))); (first | done | fail))))) _ 1 33 (cellsH (k, Ad, n1, cd)) (by rfl) (Box.new _ _ _) rfl (cellsH_one _) (n + 1) rfl (by omega) ?_; intro A5 c5 w3 q3 t3 s3; have HE := hide (same_w t3 (wa := w2) (by ((repeat (first | (with_reducible assumption) | (with_reducible exact Below.refl _ _) | (with_reducible refine Below.drewS ?_) | (with_reducible refine Below.allocS ?_ _))); (first | done | fail)))); have HP3 := hide (KN.out _ _ (KB.out _ HE.out) t3); have f3 := HP3.out.frozen 0; have c3f : w3.cell? ⟨p, 0, none⟩ = some (.slice A n c) := HP3.out.at_ 0))
    all_goals
      have R := hide (HPP.out _ _ _ _ _ _ _ (KB.out _ HE.out) (hrd.below ((Below.refl _ _).alloc (Nat.le_refl _) _)) (fun h0 g hg => Nat.le_trans hsz (hnd h0 g hg)) q3 t3 s3)
      clear q3 t3 s3 hrd hnd hbd E1 kb kb2 HE
      go_wp2_with fail
      go_ret
      exact ⟨by rw [hE]; rfl, by rw [apL_ok hE]; exact R.out.1, R.out.2⟩
end Go.Proofs.Ytjmpnpflmdpdkaa
