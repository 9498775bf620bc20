/- The program's journal: Cut. -/
import Derived.Test.YtjmpnpflmdpdkaaJIc
import Derived.Deep.RegionLaw
namespace Go.Proofs.Ytjmpnpflmdpdkaa
open Go Go.RowKit FM

theorem cut_nil (i : Int) (w : World) : Calls Try.prog 23 #[.pointer none, .int .i64 i] w fun e w' => e = .returned (.int .i64 1) ∧ w = w' := by
  go_enter Try.func23, Try.ntmps23
  go_wp2_with fail
  go_ret
  exact ⟨rfl, rfl⟩
/-- what Cut answers -/
def cutE (es : List Ent) (i : Int) : Nat := if i < 0 ∨ (es.length : Int) < i then 7 else 0
def cutL (es : List Ent) (i : Int) : List Ent := if i < 0 ∨ (es.length : Int) < i then es else es.take i.toNat
theorem cut_low (p B : Nat) (F : Nat → Prop) (es : List Ent) (w : World) (i : Int) (h : JN w B F p es) (hi : i < 0) : Calls Try.prog 23 #[.pointer (some ⟨p, 0, none⟩), .int .i64 i] w fun e w' => e = .returned (.int .i64 (cutE es i : Int)) ∧ JN w' B F p (cutL es i) ∧ Turn F w w' := by
  have e1 : cutE es i = 7 := by unfold cutE; rw [if_pos (.inl hi)]
  have e2 : cutL es i = es := by unfold cutL; rw [if_pos (.inl hi)]
  rw [e1, e2]
  have H := hide h
  clear h e1 e2
  go_enter Try.func23, Try.ntmps23
  go_wp2_with fail
  go_ret
  exact ⟨rfl, H.out, Turn.refl _ _⟩
theorem cut_high (p B : Nat) (F : Nat → Prop) (es : List Ent) (w : World) (i : Nat) (h : JN w B F p es) (hi : es.length < i) : Calls Try.prog 23 #[.pointer (some ⟨p, 0, none⟩), .int .i64 (i : Int)] w fun e w' => e = .returned (.int .i64 (cutE es (i : Int) : Int)) ∧ JN w' B F p (cutL es (i : Int)) ∧ Turn F w w' := by
  have e1 : cutE es (i : Int) = 7 := by unfold cutE; rw [if_pos (.inr (by omega))]
  have e2 : cutL es (i : Int) = es := by unfold cutL; rw [if_pos (.inr (by omega))]
  rw [e1, e2]
  have H := hide h
  obtain ⟨A, n, c, A', m, c', h1, h2, h3, h4, h5, h6⟩ := h
  have k1 : w.cell? ⟨p, 1, none⟩ = some (.slice A' m c') := h1.at_ 1
  have hm : m = es.length := by rw [← h5.len, ends_len]
  have i1 : m < i := by omega
  have i2 : ((i : Int) < 0) = False := by simp
  clear h1 h2 h3 h4 h5 h6 hm hi e1 e2
  go_enter Try.func23, Try.ntmps23
  go_wp2_with fail
  go_ret
  exact ⟨rfl, H.out, Turn.refl _ _⟩
theorem cut_jn {w w1 w2 : World} {B p : Nat} {F : Nat → Prop} {es : List Ent} {A A' : Option Addr} {n c m c' i q : Nat} (h1 : Box w p #[.slice A n c, .slice A' m c'] 57) (h2 : F p) (h3 : ∀ k, F k → B ≤ k ∧ k < w.heap.size) (h4 : RQ w F A n c (jb es)) (h5 : RI w F A' m c' (ends es)) (h6 : ¬ Blk A p) (h7 : ¬ Blk A' p) (h8 : ∀ g, Blk A g → ¬ Blk A' g) (h9 : OkE es) (h10 : (jb es).length ≤ 65536)
    (hq : jl es i = q) (hi : i ≤ m) (e1 : w.setCell ⟨p, 0, none⟩ (.slice A q c) = w1) (e2 : w1.setCell ⟨p, 1, none⟩ (.slice A' i c') = w2) : JN w2 B F p (es.take i) ∧ Turn F w w2 := by
  subst e1 e2
  have hq5 : 5 ≤ q := by rw [← hq]; exact jl_ge es i
  have hqn : q ≤ n := by rw [← hq, ← h4.len]; exact jl_le es i
  have T1 : Turn (Is p) w ((w.setCell ⟨p, 0, none⟩ (.slice A q c)).setCell ⟨p, 1, none⟩ (.slice A' i c')) := ((Turn.refl (Is p) w).set 0 _ rfl).set 1 _ rfl
  refine ⟨⟨A, q, c, A', i, c', box_two1 (box_two0 h1), h2, fun k hk => ⟨(h3 k hk).1, Nat.lt_of_lt_of_le (h3 k hk).2 T1.size⟩, ?_, ?_, h6, h7, h8, h9.take i, ?_⟩, T1.mono fun k _ e => by rw [show k = p from e]; exact h2⟩
  · rw [← jb_take, hq]
    exact (h4.take hq5 hqn).turn T1 (fun g hg e => h6 (by rw [← show g = p from e]; exact hg))
  · rw [← ends_take]
    exact (h5.take hi).turn T1 (fun g hg e => h7 (by rw [← show g = p from e]; exact hg))
  · have := jl_le es i
    unfold jl at this
    omega
set_option maxHeartbeats 4000000 in
theorem cut_at (p B : Nat) (F : Nat → Prop) (es : List Ent) (w : World) (i : Nat) (h : JN w B F p es) (hi : i ≤ es.length) : Calls Try.prog 23 #[.pointer (some ⟨p, 0, none⟩), .int .i64 (i : Int)] w fun e w' => e = .returned (.int .i64 (cutE es (i : Int) : Int)) ∧ JN w' B F p (cutL es (i : Int)) ∧ Turn F w w' := by
  have e1 : cutE es (i : Int) = 0 := by unfold cutE; rw [if_neg (by omega)]
  have e2 : cutL es (i : Int) = es.take i := by unfold cutL; rw [if_neg (by omega)]; rfl
  rw [e1, e2]
  have HJ := hide (h.below (w' := w.drew) (Below.refl _ _).drew)
  obtain ⟨A, n, c, A', m, c', h1, h2, h3, h4, h5, h6, h7, h8, h9, h10⟩ := h
  have k0 : w.cell? ⟨p, 0, none⟩ = some (.slice A n c) := h1.at_ 0
  have k1 : w.cell? ⟨p, 1, none⟩ = some (.slice A' m c') := h1.at_ 1
  have f0 := h1.frozen 0
  have f1 := h1.frozen 1
  have hm : m = es.length := by rw [← h5.len, ends_len]
  have hn := h4.len
  have hle := h4.le
  have hle' := h5.le
  obtain ⟨q, hq⟩ : ∃ q, jl es i = q := ⟨_, rfl⟩
  have hq5 : 5 ≤ q := by rw [← hq]; exact jl_ge es i
  have hqn : q ≤ n := by rw [← hq, ← hn]; exact jl_le es i
  obtain ⟨b0, o0, z, rfl, -, -, -⟩ := h4.br.at_ (j := 0) (by omega)
  have HQ := hide hq
  have D : Below w.heap.size w w.drew := (Below.refl _ _).drew
  have HC := hide (show ∀ w2, (w.drew.setCell ⟨p, 0, none⟩ (.slice (some ⟨b0, o0, none⟩) q c)).setCell ⟨p, 1, none⟩ (.slice A' i c') = w2 → JN w2 B F p (es.take i) ∧ Turn F w w2 from fun w2 e => by
    have := cut_jn (w := w.drew) (i := i) (q := q) (h1.drewN 1) h2 h3 (h4.turn (Turn.of (F := Non) D) (fun _ _ => id)) (h5.turn (Turn.of (F := Non) D) (fun _ _ => id)) h6 h7 h8 h9 h10 hq (by omega) rfl e
    exact ⟨this.1, (Turn.of D).trans this.2⟩)
  unfold maxLen at hle hle'
  have i1 : (i : Int) ≤ (m : Int) := by omega
  have i2 : (0 : Int) ≤ (i : Int) := by omega
  have i3 : ¬ m < i := by omega
  have i4 : (i : Int) ≤ (c' : Int) := by omega
  have i5 : (q : Int) ≤ (c : Int) := by omega
  have i6 : (0 : Int) ≤ (q : Int) := by omega
  have i7 : ((i : Int) < 0) = False := by simp
  have HG := hide (show (w.drew.setCell ⟨p, 0, none⟩ (.slice (some ⟨b0, o0, none⟩) q c)).frozen? ⟨p, 1, none⟩ = false ∧ (w.drew.setCell ⟨p, 0, none⟩ (.slice (some ⟨b0, o0, none⟩) q c)).cell? ⟨p, 1, none⟩ = some (.slice A' m c') from by
    have := box_two0 (x := .slice (some ⟨b0, o0, none⟩) q c) (h1.drewN 1)
    exact ⟨this.frozen 1, this.at_ 1⟩)
  have hle3 : i ≤ es.length := hi
  clear h1 h2 h3 h4 h5 h6 h7 h8 h9 h10 hq e1 e2 hn hm D
  go_enter Try.func23, Try.ntmps23
  go_wp2_with fail
  have j0 : w.drew.cell? ⟨p, 0, none⟩ = some (.slice (some ⟨b0, o0, none⟩) n c) := k0
  have j1 : w.drew.cell? ⟨p, 1, none⟩ = some (.slice A' m c') := k1
  have g0 : w.drew.frozen? ⟨p, 0, none⟩ = false := f0
  have g1 : (w.drew.setCell ⟨p, 0, none⟩ (.slice (some ⟨b0, o0, none⟩) q c)).frozen? ⟨p, 1, none⟩ = false := HG.out.1
  have j2 : (w.drew.setCell ⟨p, 0, none⟩ (.slice (some ⟨b0, o0, none⟩) q c)).cell? ⟨p, 1, none⟩ = some (.slice A' m c') := HG.out.2
  go_region_law (go_simp; go_at_call 37; (with_reducible refine (end_any p B i F es _ HJ.out hle3 q HQ.out).mono ?_); rintro e w' ⟨rfl, rfl⟩)
  all_goals
    go_wp2_with fail
    go_ret
    exact ⟨rfl, HC.out _ rfl⟩
end Go.Proofs.Ytjmpnpflmdpdkaa
