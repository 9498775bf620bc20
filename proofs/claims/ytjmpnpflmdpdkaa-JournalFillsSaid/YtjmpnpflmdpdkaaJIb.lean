/- The program's journal: add, Append. -/
import Derived.Test.YtjmpnpflmdpdkaaJIa
import Derived.Deep.RegionLaw
namespace Go.Proofs.Ytjmpnpflmdpdkaa
open Go Go.RowKit FM

theorem box_two0 {w : World} {p : Nat} {u v x : Value} {t : TypeId} (h : Box w p #[u, v] t) : Box (w.setCell ⟨p, 0, none⟩ x) p #[x, v] t := by
  have := h.set_ 0 x
  simpa using this
theorem box_two1 {w : World} {p : Nat} {u v x : Value} {t : TypeId} (h : Box w p #[u, v] t) : Box (w.setCell ⟨p, 1, none⟩ x) p #[u, x] t := by
  have := h.set_ 1 x
  simpa using this
theorem plus_two {F : Nat → Prop} {w w1 w2 : World} (h2 : w1.heap.size ≤ w2.heap.size) : ∀ k, Plus F w w1 k → Plus F w w2 k := fun k hk => by
  rcases hk with hk | hk
  · exact .inl hk
  · exact .inr (by omega)
theorem add_jn {w w1 wa w3 : World} {B p : Nat} {F : Nat → Prop} {es : List Ent} {A A2 A3 A' : Option Addr} {n c n2 c2 m c' c3 k : Nat} {d : List Nat}
    (hp : Box w p #[.slice A n c, .slice A' m c'] 57) (hF : F p) (hr : ∀ k, F k → B ≤ k ∧ k < w.heap.size) (hB : B ≤ w.heap.size) (hq : RQ w F A n c (jb es)) (hi : RI w F A' m c' (ends es)) (g1 : ¬ Blk A p) (g2 : ¬ Blk A' p) (g3 : ∀ g, Blk A g → ¬ Blk A' g) (ho : OkE es)
    (hk : k < 256) (hd : By d) (hd8 : d.length ≤ 8192) (hl : (jb es).length + d.length + 9 ≤ 65536)
    (q1 : RQ w1 (Plus F w w1) A2 n2 c2 (jb es ++ frame k d)) (t1 : Turn (Blk A) w w1) (s1 : ∀ g, Blk A2 g → Blk A g ∨ (w.heap.size ≤ g ∧ g < w1.heap.size))
    (hwa : Turn (Is p) w1 wa) (hpa : Box wa p #[.slice A2 n2 c2, .slice A' m c'] 57)
    (q3 : w3.ownsRow 0 3 1 (.slice A3 (m + 1) c3) (m + 1) (cells .i64 (ends es) ++ [.int .i64 (n2 : Int)])) (t3 : Turn (Blk A') wa w3) (s3 : ∀ g, Blk A3 g → Blk A' g ∨ (wa.heap.size ≤ g ∧ g < w3.heap.size)) :
    JN (w3.setCell ⟨p, 1, none⟩ (.slice A3 (m + 1) c3)) B (Plus F w (w3.setCell ⟨p, 1, none⟩ (.slice A3 (m + 1) c3))) p (es ++ [(k, d)]) ∧ Turn F w (w3.setCell ⟨p, 1, none⟩ (.slice A3 (m + 1) c3)) := by
  have hp1 := hp.lt
  have z1 := t1.size
  have za := hwa.size
  have z3 := t3.size
  have ze : (w3.setCell ⟨p, 1, none⟩ (.slice A3 (m + 1) c3)).heap.size = w3.heap.size := by simp [World.setCell]
  have bp3 : Box w3 p #[.slice A2 n2 c2, .slice A' m c'] 57 := t3.box hpa g2
  have blkA : ∀ g, Blk A g → F g := fun g hg => (hq.2.2 g hg).1
  have blkA' : ∀ g, Blk A' g → F g := fun g hg => (hi.2 g hg).1
  have tall : Turn F w w3 := ((t1.mono fun k _ => blkA k).trans2 (hwa.mono (H := F) (fun k _ e => by rw [show k = p from e]; exact hF)) (fun _ _ h => h)).trans2 (t3.mono (H := F) fun k _ => blkA' k) (fun _ _ h => h)
  have hA2p : ∀ g, Blk A2 g → g ≠ p := fun g hg e => by
    subst e
    rcases s1 g hg with h | h
    · exact g1 h
    · omega
  have hA2A' : ∀ g, Blk A2 g → ¬ Blk A' g := fun g hg hg' => by
    rcases s1 g hg with h | h
    · exact g3 g h hg'
    · have := (hr g (blkA' g hg')).2; omega
  have hA3p : ∀ g, Blk A3 g → g ≠ p := fun g hg e => by
    subst e
    rcases s3 g hg with h | h
    · exact g2 h
    · omega
  have tset : Turn (Is p) w3 (w3.setCell ⟨p, 1, none⟩ (.slice A3 (m + 1) c3)) := (Turn.refl _ _).set 1 _ rfl
  have en : n2 = (jb (es ++ [(k, d)])).length := by rw [jb_snoc, ← q1.len]
  refine ⟨⟨A2, n2, c2, A3, m + 1, c3, box_two1 bp3, .inl hF, fun g hg => ?_, ?_, ⟨?_, fun g hg => ?_⟩, fun h => hA2p p h rfl, fun h => hA3p p h rfl, fun g hg hg' => ?_, ho.app (OkE.one hk hd hd8), ?_⟩, tall.set 1 _ hF⟩
  · rw [ze]
    rcases hg with hg | hg
    · exact ⟨(hr g hg).1, by have := (hr g hg).2; omega⟩
    · rw [ze] at hg; exact ⟨by omega, hg.2⟩
  · rw [jb_snoc]
    exact (((q1.turn hwa (fun g hg e => hA2p g hg e)).turn t3 (fun g hg => hA2A' g hg)).turn tset (fun g hg e => hA2p g hg e)).mono (plus_two (by rw [ze]; omega))
  · rw [ends_snoc, cells_append, ← en]
    exact tset.owns q3 (fun g hg e => hA3p g hg e)
  · rw [ze]
    rcases s3 g hg with h | h
    · exact ⟨.inl (blkA' g h), by have := (hr g (blkA' g h)).2; omega⟩
    · exact ⟨.inr (by rw [ze]; omega), h.2⟩
  · rcases s3 g hg' with h | h
    · exact hA2A' g hg h
    · rcases s1 g hg with h' | h'
      · have := (hr g (blkA g h')).2; omega
      · omega
  · rw [jb_snoc, List.length_append, frame_len]; show _ + (d.length + 9) ≤ _; omega
theorem same_w {F : Nat → Prop} {wa WA w3 : World} (_ : Turn F WA w3) (h : Below wa.heap.size wa WA) : Below wa.heap.size wa WA := h
theorem int_info8 : (Try.prog.info? 3).map (fun i => (i.zero, i.size, i.bytes)) = some (some (.int .i64 0), 1, 8) := by kernel_rfl
set_option maxHeartbeats 4000000 in
theorem add_any (p B : Nat) (F : Nat → Prop) (es : List Ent) (w : World) (h : JN w B F p es) (hB : B ≤ w.heap.size) (A1 : Option Addr) (n1 c1 : Nat) (k : Nat) (d : List Nat) (hb : BR w A1 n1 (frame k d)) (hk : k < 256) (hd : By d) (hd8 : d.length ≤ 8192) (hl : (jb es).length + d.length + 9 ≤ 65536) :
    Calls Try.prog 28 #[.pointer (some ⟨p, 0, none⟩), .slice A1 n1 c1] w fun e w' => e = .returned (.tuple #[]) ∧ JN w' B (Plus F w w') p (es ++ [(k, d)]) ∧ Turn F w w' := by
  obtain ⟨A, n, c, A', m, c', h1, h2, h3, h4, h5, h6, h7, h8, h9, h10⟩ := h
  have k0 : w.cell? ⟨p, 0, none⟩ = some (.slice A n c) := h1.at_ 0
  have k1 : w.cell? ⟨p, 1, none⟩ = some (.slice A' m c') := h1.at_ 1
  have hn := h4.len
  have hm := h5.len
  have hn1 : d.length + 9 = n1 := by rw [← frame_len k, hb.len]
  have hes : es.length ≤ (jb es).length := by
    have e1 : ∀ l : List Ent, l.length ≤ (fr l).length := by
      intro l
      induction l with
      | nil => simp
      | cons x l ih => rw [fr_cons, List.length_append, frame_len, List.length_cons]; omega
    have := e1 es; rw [jb_len]; omega
  rw [ends_len] at hm
  have hm6 : m ≤ 65536 := by omega
  have HB := hide hb
  have HQ := hide h4
  have H5 := hide h5
  have HP := hide h1
  have HA := hide (fun (w1 wa w3 : World) (A2 A3 : Option Addr) (c2 c3 : Nat) => add_jn (w1 := w1) (wa := wa) (w3 := w3) (A2 := A2) (A3 := A3) (n2 := n + n1) (c2 := c2) (c3 := c3) h1 h2 h3 hB h4 h5 h6 h7 h8 h9 hk hd hd8 hl)
  have HF := hide (show ∀ g, Blk A g → g ≠ p from fun g hg e => h6 (e ▸ hg))
  have HF' := hide (show ∀ g, Blk A' g → g ≠ p from fun g hg e => h7 (e ▸ hg))
  have HX := hide (show ∀ g, Blk A g → ¬ Blk A' g from h8)
  have hn0 : 0 < n1 := by omega
  have hnn : n + n1 ≤ 1000000 := by omega
  clear h1 h2 h3 h4 h5 h6 h7 h8 h9 h10 hb hk hd hd8 hl hes hm hn1 hn
  go_enter Try.func28, Try.ntmps28
  go_wp2_with (at_builtin; refine wpList_append_rq rfl _ _ 31 rfl Try.underlying31 u8_info F A n c (jb es) rfl HQ.out A1 n1 c1 (frame k d) rfl HB.out hn0 (n + n1) rfl hnn ?_; intro A2 c2 w1 q1 t1 s1; have HP1 := hide (t1.box HP.out (fun e => HF.out p e rfl)); have f0 := HP1.out.frozen 0; have f1 : w1.cell? ⟨p, 0, none⟩ = some (.slice A n c) := HP1.out.at_ 0; have HI1 := hide (t1.owns H5.out.1 (fun g hg hg' => HX.out g hg' hg)))
  have HQ1 := hide q1
  have HT1 := hide t1
  have HS1 := hide s1
  have HTa := hide ((Turn.refl (Is p) w1).set 0 (.slice A2 (n + n1) c2) rfl)
  have HPa := hide (box_two0 (x := .slice A2 (n + n1) c2) HP1.out)
  have HIa := hide (HTa.out.owns HI1.out (fun g hg e => HF'.out g hg e))
  generalize hWa : World.setCell w1 ⟨p, 0, none⟩ _ = wa at *
  clear hWa q1 t1 s1 f0 f1 k0 k1 HP1 HI1
  have KS : Hid (∀ w', Below wa.heap.size wa w' → w'.cell? ⟨p, 0, none⟩ = some (.slice A2 (n + n1) c2) ∧ w'.cell? ⟨p, 1, none⟩ = some (.slice A' m c')) := fun w' h => ⟨(HPa.out.below' h).at_ 0, (HPa.out.below' h).at_ 1⟩
  have KI : Hid (∀ w', Below wa.heap.size wa w' → w'.ownsRow 0 3 1 (.slice A' m c') m (cells .i64 (ends es))) := fun w' h => (Turn.of (F := Non) h).owns HIa.out (fun _ _ => id)
  obtain ⟨k0, k1⟩ := KS.out wa (Below.refl _ _)
  have hml : n + n1 ≤ 1000000 := hnn
  have k1a : (wa.alloc (.cells #[.int .i64 ((n : Int) + (n1 : Int))] 3)).cell? ⟨p, 1, none⟩ = some (.slice A' m c') := (KS.out _ ((Below.refl _ _).alloc (Nat.le_refl _) _)).2
  go_region_law ((refine step_append_one (by rfl) _ _ 55 (by rfl) 3 (.int .i64 0) 1 8 Try.underlying55 int_info8 rfl (by decide) (by decide) A' m c' (cells .i64 (ends es)) (by rfl) (KI.out _ (by ((repeat (first | (with_reducible assumption) | (with_reducible exact Below.refl _ _) | (with_reducible refine Below.drewS ?_) | (with_reducible refine Below.allocS ?_ _))); (first | done | fail)))) _ 1 3 [.int .i64 ((n + n1 : Nat) : Int)] (by rfl) (Box.new _ _ _) rfl (by simp; rfl) (m + 1) rfl (by omega) ?_; intro A3 c3 w3 q3 t3 s3; have HE := hide (same_w t3 (wa := wa) (by ((repeat (first | (with_reducible assumption) | (with_reducible exact Below.refl _ _) | (with_reducible refine Below.drewS ?_) | (with_reducible refine Below.allocS ?_ _))); (first | done | fail)))); have HP3 := hide (t3.box (HPa.out.below' HE.out) (fun e => HF'.out p e rfl)); have f3 := HP3.out.frozen 1; have c3f : w3.cell? ⟨p, 1, none⟩ = some (.slice A' m c') := HP3.out.at_ 1))
  all_goals
    have R := hide (HA.out _ _ _ _ _ _ _ HQ1.out HT1.out HS1.out (HTa.out.trans (Turn.of HE.out)) (HPa.out.below' HE.out) q3 t3 s3)
    clear q3 t3 s3
    go_wp2_with fail
    refine bodyPost_end (results_none rfl _ _ _) rfl ?_
    exact ⟨rfl, R.out⟩
end Go.Proofs.Ytjmpnpflmdpdkaa
