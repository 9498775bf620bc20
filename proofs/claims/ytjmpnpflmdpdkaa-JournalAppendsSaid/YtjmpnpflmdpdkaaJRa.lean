/- Entries in memory; the reference's journal. -/
import Derived.Test.YtjmpnpflmdpdkaaJIh
import Derived.Test.YtjmpnpflmdpdkaaJId
import Derived.Test.YtjmpnpflmdpdkaaJIe
import Derived.Test.YtjmpnpflmdpdkaaJIf
namespace Go.Proofs.Ytjmpnpflmdpdkaa
open Go Go.RowKit FM

/-- the cells of an entry: its kind, the slice of its data -/
abbrev Hd := Nat × Option Addr × Nat × Nat
def cellsH (h : Hd) : List Value := [.int .u8 (h.1 : Int), .slice h.2.1 h.2.2.1 h.2.2.2]
def flatH (hs : List Hd) : List Value := hs.flatMap cellsH
theorem flatH_len (hs : List Hd) : (flatH hs).length = hs.length * 2 := by
  induction hs with
  | nil => rfl
  | cons h hs ih =>
    have : flatH (h :: hs) = cellsH h ++ flatH hs := by simp [flatH]
    rw [this, List.length_append, ih]
    simp [cellsH]; omega
theorem flatH_app (a b : List Hd) : flatH (a ++ b) = flatH a ++ flatH b := by simp [flatH]
theorem flatH_one (h : Hd) : flatH [h] = cellsH h := by simp [flatH]
theorem flatH_take (hs : List Hd) (k : Nat) : flatH (hs.take k) = (flatH hs).take (k * 2) := by
  by_cases hk : k ≤ hs.length
  · conv => rhs; rw [← List.take_append_drop k hs, flatH_app]
    rw [List.take_left' (by rw [flatH_len, List.length_take, Nat.min_eq_left hk])]
  · rw [List.take_of_length_le (by omega), List.take_of_length_le (by rw [flatH_len]; omega)]
theorem flatH_get {hs : List Hd} {k : Nat} {h : Hd} (hk : hs[k]? = some h) : (flatH hs)[k * 2]? = some (.int .u8 (h.1 : Int)) ∧ (flatH hs)[k * 2 + 1]? = some (.slice h.2.1 h.2.2.1 h.2.2.2) := by
  have hl : k < hs.length := (List.getElem?_eq_some_iff.1 hk).1
  have e : hs = hs.take k ++ (h :: hs.drop (k + 1)) := by
    have he : hs[k] = h := (List.getElem?_eq_some_iff.1 hk).2
    conv => lhs; rw [← List.take_append_drop k hs]
    rw [List.drop_eq_getElem_cons hl, he]
  have e2 : flatH hs = flatH (hs.take k) ++ (cellsH h ++ flatH (hs.drop (k + 1))) := by
    conv => lhs; rw [e, flatH_app]
    rw [show flatH (h :: hs.drop (k + 1)) = cellsH h ++ flatH (hs.drop (k + 1)) by simp [flatH]]
  have hlt : (flatH (hs.take k)).length = k * 2 := by rw [flatH_len, List.length_take, Nat.min_eq_left (by omega)]
  rw [e2]
  refine ⟨?_, ?_⟩
  · rw [List.getElem?_append_right (by omega), hlt, Nat.sub_self]; rfl
  · rw [List.getElem?_append_right (by omega), hlt, show k * 2 + 1 - k * 2 = 1 by omega]; rfl
theorem flatH_one' (hs : List Hd) : ∀ u ∈ flatH hs, u.oneCell' = true := by
  intro u hu
  obtain ⟨h, _, hu⟩ := List.mem_flatMap.1 hu
  simp [cellsH] at hu
  rcases hu with rfl | rfl <;> rfl
theorem cellsH_one (h : Hd) : ∀ u ∈ cellsH h, u.oneCell' = true := by
  intro u hu
  simp [cellsH] at hu
  rcases hu with rfl | rfl <;> rfl
/-- an entry's cells stand for the entry; its data lie in D -/
def DV (w : World) (D : Nat → Prop) (h : Hd) (e : Ent) : Prop := h.1 = e.1 ∧ BR w h.2.1 h.2.2.1 e.2 ∧ (0 < h.2.2.1 → ∀ g, Blk h.2.1 g → D g ∧ g < w.heap.size)
def EV (w : World) (D : Nat → Prop) (hs : List Hd) (es : List Ent) : Prop := hs.length = es.length ∧ ∀ (j : Nat) h e, hs[j]? = some h → es[j]? = some e → DV w D h e
section
variable {w w' : World} {D G H : Nat → Prop} {hs : List Hd} {es : List Ent}
theorem DV.turn {h : Hd} {e : Ent} (hd : DV w D h e) (t : Turn H w w') (hs : Sep D H) : DV w' D h e :=
  ⟨hd.1, t.br hd.2.1 (fun h0 g hg => hs g (hd.2.2 h0 g hg).1), fun h0 g hg => ⟨(hd.2.2 h0 g hg).1, Nat.lt_of_lt_of_le (hd.2.2 h0 g hg).2 t.size⟩⟩
theorem EV.turn (h : EV w D hs es) (t : Turn H w w') (hs' : Sep D H) : EV w' D hs es := ⟨h.1, fun j a e ha he => (h.2 j a e ha he).turn t hs'⟩
theorem EV.below (h : EV w D hs es) (t : Below w.heap.size w w') : EV w' D hs es := h.turn (Turn.of (F := Non) t) (Sep.non D)
theorem EV.mono (h : EV w D hs es) (hm : ∀ k, D k → G k) : EV w G hs es := ⟨h.1, fun j a e ha he => ⟨(h.2 j a e ha he).1, (h.2 j a e ha he).2.1, fun h0 g hg => ⟨hm g ((h.2 j a e ha he).2.2 h0 g hg).1, ((h.2 j a e ha he).2.2 h0 g hg).2⟩⟩⟩
theorem EV.nil_ : EV w D [] [] := ⟨rfl, fun j h e hj => by simp at hj⟩
theorem EV.snoc {h : Hd} {e : Ent} (hv : EV w D hs es) (hd : DV w D h e) : EV w D (hs ++ [h]) (es ++ [e]) := by
  refine ⟨by simp [hv.1], fun j a x ha hx => ?_⟩
  rcases Nat.lt_trichotomy j hs.length with hj | hj | hj
  · rw [List.getElem?_append_left hj] at ha
    rw [List.getElem?_append_left (by rw [← hv.1]; exact hj)] at hx
    exact hv.2 j a x ha hx
  · rw [List.getElem?_append_right (by omega), hj, Nat.sub_self] at ha
    rw [List.getElem?_append_right (by rw [← hv.1]; omega), hj, hv.1, Nat.sub_self] at hx
    simp at ha hx
    subst ha; subst hx
    exact hd
  · rw [List.getElem?_eq_none (by simp; omega)] at ha; cases ha
theorem EV.take (hv : EV w D hs es) (k : Nat) : EV w D (hs.take k) (es.take k) := by
  refine ⟨by rw [List.length_take, List.length_take, hv.1], fun j a x ha hx => ?_⟩
  have hj : j < k := by have := (List.getElem?_eq_some_iff.1 ha).1; simp at this; omega
  rw [List.getElem?_take_of_lt hj] at ha hx
  exact hv.2 j a x ha hx
theorem EV.at_ {j : Nat} {e : Ent} (hv : EV w D hs es) (he : es[j]? = some e) : ∃ h, hs[j]? = some h ∧ DV w D h e := by
  have hj : j < hs.length := by rw [hv.1]; exact (List.getElem?_eq_some_iff.1 he).1
  exact ⟨hs[j], List.getElem?_eq_getElem hj, hv.2 j _ e (List.getElem?_eq_getElem hj) he⟩
end
/-- a journal of the reference -/
def RJ (w : World) (B : Nat) (G : Nat → Prop) (q : Nat) (es : List Ent) : Prop :=
  ∃ A n c hs D, Box w q #[.slice A n c] 59 ∧ G q ∧ (∀ k, G k → B ≤ k ∧ k < w.heap.size) ∧ w.ownsRow 0 33 2 (.slice A n c) n (flatH hs) ∧ (∀ g, Blk A g → G g) ∧
    ¬ Blk A q ∧ EV w D hs es ∧ (∀ g, D g → G g ∧ g ≠ q ∧ ¬ Blk A g) ∧ n = es.length ∧ OkE es ∧ (jb es).length ≤ 65536
section
variable {w w' : World} {B B' q : Nat} {F G H : Nat → Prop} {es : List Ent}
theorem RJ.turn (h : RJ w B F q es) (t : Turn H w w') (hs : Sep F H) : RJ w' B F q es := by
  obtain ⟨A, n, c, hv, D, h1, h2, h3, h4, h5, h6, h7, h8, h9⟩ := h
  exact ⟨A, n, c, hv, D, t.box h1 (hs q h2), h2, fun k hk => ⟨(h3 k hk).1, Nat.lt_of_lt_of_le (h3 k hk).2 t.size⟩, t.owns h4 (fun g hg => hs g (h5 g hg)), h5, h6, h7.turn t (fun g hg => hs g (h8 g hg).1), h8, h9⟩
theorem RJ.below (h : RJ w B F q es) (t : Below w.heap.size w w') : RJ w' B F q es := h.turn (Turn.of (F := Non) t) (Sep.non F)
theorem RJ.mono (h : RJ w B F q es) (hm : ∀ k, F k → G k) (hG : ∀ k, G k → B ≤ k ∧ k < w.heap.size) : RJ w B G q es := by
  obtain ⟨A, n, c, hv, D, h1, h2, h3, h4, h5, h6, h7, h8, h9⟩ := h
  exact ⟨A, n, c, hv, D, h1, hm q h2, hG, h4, fun g hg => hm g (h5 g hg), h6, h7, fun g hg => ⟨hm g (h8 g hg).1, (h8 g hg).2⟩, h9⟩
theorem RJ.low (h : RJ w B F q es) (hb : B' ≤ B) : RJ w B' F q es := by
  obtain ⟨A, n, c, hv, D, h1, h2, h3, h4⟩ := h
  exact ⟨A, n, c, hv, D, h1, h2, fun k hk => ⟨Nat.le_trans hb (h3 k hk).1, (h3 k hk).2⟩, h4⟩
theorem RJ.rng (h : RJ w B F q es) : ∀ k, F k → B ≤ k ∧ k < w.heap.size := by
  obtain ⟨A, n, c, hv, D, h1, h2, h3, h4⟩ := h; exact h3
theorem RJ.lt (h : RJ w B F q es) : ∀ k, F k → k < w.heap.size := fun k hk => (h.rng k hk).2
theorem RJ.ok (h : RJ w B F q es) : OkE es ∧ (jb es).length ≤ 65536 := by
  obtain ⟨A, n, c, hv, D, h1, h2, h3, h4, h5, h6, h7, h8, h9, h10⟩ := h; exact h10
end
theorem ent_info : (Try.prog.info? 33).map (fun i => (i.zero, i.size, i.bytes)) = some (some (.agg #[.int .u8 0, .slice none 0 0]), 2, 32) := by kernel_rfl
theorem rj_new {w W : World} (hW : w.alloc (.cells #[.slice none 0 0] 59) = W) : RJ W w.heap.size (Plus Non w W) w.heap.size [] ∧ Below w.heap.size w W := by
  obtain ⟨b1, b2, b3⟩ := boxC hW
  refine ⟨⟨none, 0, 0, [], Non, b2, .inr (by omega), fun k hk => ?_, World.ownsRow_nil _ _ _ _, fun g hg => (blk_none hg).elim, blk_none, EV.nil_, fun g hg => hg.elim, rfl, OkE.nil, by rw [jb_nil]; decide⟩, b1⟩
  rcases hk with hk | hk
  · exact hk.elim
  · exact hk
theorem rnew_any (w : World) : Calls Try.prog 13 #[] w fun e w' => ∃ q, e = .returned (.pointer (some ⟨q, 0, none⟩)) ∧ RJ w' w.heap.size (Plus Non w w') q [] ∧ Below w.heap.size w w' := by
  go_enter Try.func13, Try.ntmps13
  go_wp2_with fail
  go_ret
  exact ⟨_, rfl, rj_new rfl⟩
theorem rlen_nil (w : World) : Calls Try.prog 31 #[.pointer none] w fun e w' => e = .returned (.int .i64 0) ∧ w = w' := by
  go_enter Try.func31, Try.ntmps31
  go_wp2_with fail
  go_ret
  exact ⟨rfl, rfl⟩
theorem rlen_any (q B : Nat) (G : Nat → Prop) (es : List Ent) (w : World) (h : RJ w B G q es) : Calls Try.prog 31 #[.pointer (some ⟨q, 0, none⟩)] w fun e w' => e = .returned (.int .i64 (es.length : Int)) ∧ w = w' := by
  obtain ⟨A, n, c, hv, D, h1, h2, h3, h4, h5, h6, h7, h8, h9, h10⟩ := h
  have k0 : w.cell? ⟨q, 0, none⟩ = some (.slice A n c) := h1.at_ 0
  subst h9
  clear h1 h2 h3 h4 h5 h6 h7 h8 h10
  go_enter Try.func31, Try.ntmps31
  go_wp2_with fail
  go_ret
  exact ⟨rfl, rfl⟩
end Go.Proofs.Ytjmpnpflmdpdkaa
