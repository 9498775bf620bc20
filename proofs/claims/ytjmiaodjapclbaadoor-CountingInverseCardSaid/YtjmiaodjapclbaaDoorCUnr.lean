/- The contract of counting.UnrankSet. -/
import Derived.Test.YtjmiaodjapclbaaDoorCSet
import Derived.Test.YtjmiaodjapclbaaDoorIRow
import Derived.Test.YtjmiaodjapclbaaDoorNCut
import Derived.Deep.CutRange
import Derived.Deep.RegionHeld3
namespace Go.Proofs.YtjmiaodjapclbaaDoor
open Go Go.RowKit

/-- what holds at number v: r of the sets come before, a after -/
def UInv (n k : Nat) (U : List Nat) (v : Nat) (s : List Nat) (a : Nat) : Prop :=
  ∃ r, a + r + 1 = cho (n - v) (k - s.length) ∧ s ++ un (n - v) v (k - s.length) r = U
theorem UInv.lt {n k v a : Nat} {U s : List Nat} (h : UInv n k U v s a) (hs : s.length < k) : v < n := by
  obtain ⟨r, h1, -⟩ := h
  rcases Nat.lt_or_ge v n with h2 | h2
  · exact h2
  · rw [cho_zero (show n - v < k - s.length by omega)] at h1
    omega
theorem UInv.take {n k v a : Nat} {U s : List Nat} (h : UInv n k U v s a) (hs : s.length < k) (hle : cho (n - 1 - v) (k - s.length) ≤ a) : UInv n k U (v + 1) (s ++ [v]) (a - cho (n - 1 - v) (k - s.length)) := by
  have hv := h.lt hs
  obtain ⟨r, h1, h2⟩ := h
  obtain ⟨m, hm⟩ : ∃ m, n - v = m + 1 := ⟨n - v - 1, by omega⟩
  obtain ⟨j, hj⟩ : ∃ j, k - s.length = j + 1 := ⟨k - s.length - 1, by omega⟩
  rw [show n - 1 - v = m by omega, hj] at hle ⊢
  rw [hm, hj] at h1 h2
  have h1' : a + r + 1 = cho m j + cho m (j + 1) := h1
  have hr : r < cho m j := by omega
  refine ⟨r, ?_, ?_⟩
  · rw [List.length_append, List.length_singleton, show n - (v + 1) = m by omega, show k - (s.length + 1) = j by omega]
    omega
  · rw [List.length_append, List.length_singleton, show n - (v + 1) = m by omega, show k - (s.length + 1) = j by omega, ← h2]
    have e : un (m + 1) v (j + 1) r = v :: un m (v + 1) j r := by show (if _ then _ else _) = _; rw [if_pos hr]
    rw [e, List.append_assoc]
    rfl
theorem UInv.skip {n k v a : Nat} {U s : List Nat} (h : UInv n k U v s a) (hs : s.length < k) (hlt : a < cho (n - 1 - v) (k - s.length)) : UInv n k U (v + 1) s a := by
  have hv := h.lt hs
  obtain ⟨r, h1, h2⟩ := h
  obtain ⟨m, hm⟩ : ∃ m, n - v = m + 1 := ⟨n - v - 1, by omega⟩
  obtain ⟨j, hj⟩ : ∃ j, k - s.length = j + 1 := ⟨k - s.length - 1, by omega⟩
  rw [show n - 1 - v = m by omega, hj] at hlt
  rw [hm, hj] at h1 h2
  have h1' : a + r + 1 = cho m j + cho m (j + 1) := h1
  have hr : ¬ r < cho m j := by omega
  refine ⟨r - cho m j, ?_, ?_⟩
  · rw [show n - (v + 1) = m by omega, hj]
    omega
  · rw [show n - (v + 1) = m by omega, hj, ← h2]
    have e : un (m + 1) v (j + 1) r = un m (v + 1) (j + 1) (r - cho m j) := by show (if _ then _ else _) = _; rw [if_neg hr]
    rw [e]
theorem un_none (m v r : Nat) : un m v 0 r = [] := by cases m <;> rfl
theorem UInv.done {n k v a : Nat} {U s : List Nat} (h : UInv n k U v s a) (hs : s.length = k) : s = U := by
  obtain ⟨r, -, h2⟩ := h
  rw [show k - s.length = 0 by omega, un_none, List.append_nil] at h2
  exact h2
theorem UInv.bound {n k v a : Nat} {U s : List Nat} (h : UInv n k U v s a) (hn : n ≤ 64) : a < B9 ^ 100 := by
  obtain ⟨r, h1, -⟩ := h
  have h2 := cho_lt (n - v) (k - s.length)
  have h3 : B9 ^ (n - v + 1) ≤ B9 ^ 100 := Nat.pow_le_pow_right (by decide) (by omega)
  omega
/-- the call gives a list of ints -/
def GivesI (U : List Nat) (w : World) (e : Ending) (w' : World) : Prop := ∃ A m c, e = .returned (.tuple #[.slice A m c, .int .i64 0]) ∧ RL w' .i64 A m U ∧ m ≤ c ∧ c ≤ maxLen ∧ Below w.heap.size w w'
theorem sub_c {w : World} {A : Option Addr} {n c u : Nat} {A' : Option Addr} {m d v : Nat} (h : Cn w A n c u) (h' : Cn w A' m d v) (hu : u < B9 ^ 100) (hv : v < B9 ^ 100) (T : Nat) (r : Int) (hT : subU u v = T) (hR : subE u v = r) :
    Calls Tryd.prog 50 #[.agg #[.slice A n c], .agg #[.slice A' m d]] w (GivesNE T r w) :=
  sub_d A n c u A' m d v w h.1 h.2.1 h.2.2 (lenB h.1 hu (by omega)) h'.1 h'.2.1 h'.2.2 (lenB h'.1 hv (by omega)) T r hT hR

set_option maxHeartbeats 8000000 in
set_option maxRecDepth 100000 in
theorem cunr_err1 (i j : Int) (A : Option Addr) (n c : Nat) (w : World) (h : ¬(0 ≤ i ∧ i ≤ 64)) : Calls Tryd.prog 28 #[.int .i64 i, .int .i64 j, .agg #[.slice A n c]] w fun e w' => e = .returned (.tuple #[.slice none 0 0, .int .i64 2]) ∧ Below w.heap.size w w' := by
  have H := hide h
  clear h
  go_enter Tryd.func28, Tryd.ntmps28
  go_wp2_with fail
  generalize hW : w.alloc _ = W
  obtain ⟨hbW, b5, -⟩ := boxesA1 hW
  clear hW
  refine (within_any i 64 _ false ⟨fun h => absurd h H.out, fun h => by cases h⟩).mono ?_
  rintro e w1 ⟨rfl, rfl⟩
  go_wp2_with fail
  go_ret2
  exact ⟨rfl, hbW⟩
set_option maxHeartbeats 8000000 in
set_option maxRecDepth 100000 in
theorem cunr_err2 (m : Nat) (j : Int) (A : Option Addr) (n c : Nat) (w : World) (hm : m ≤ 64) (h : ¬(0 ≤ j ∧ j ≤ m)) : Calls Tryd.prog 28 #[.int .i64 (m : Int), .int .i64 j, .agg #[.slice A n c]] w fun e w' => e = .returned (.tuple #[.slice none 0 0, .int .i64 2]) ∧ Below w.heap.size w w' := by
  have H := hide h
  clear h
  go_enter Tryd.func28, Tryd.ntmps28
  go_wp2_with fail
  generalize hW : w.alloc _ = W
  obtain ⟨hbW, b5, -⟩ := boxesA1 hW
  clear hW
  refine (within_any m 64 _ true ⟨fun _ => rfl, fun _ => ⟨by omega, by omega⟩⟩).mono ?_
  rintro e w1 ⟨rfl, rfl⟩
  go_wp2_with fail
  refine (within_any j m _ false ⟨fun h => absurd h H.out, fun h => by cases h⟩).mono ?_
  rintro e w2 ⟨rfl, rfl⟩
  go_wp2_with fail
  go_ret2
  exact ⟨rfl, hbW⟩
set_option maxHeartbeats 8000000 in
set_option maxRecDepth 100000 in
theorem cunr_none (n k : Nat) (hn : n ≤ 64) (hk : k ≤ n) (A : Option Addr) (m c u : Nat) (w : World) (hA : Nt w 20 A m c u) (hu : cho n k ≤ u) : Calls Tryd.prog 28 #[.int .i64 (n : Int), .int .i64 (k : Int), .agg #[.slice A m c]] w fun e w' => e = .returned (.tuple #[.slice none 0 0, .int .i64 7]) ∧ Below w.heap.size w w' := by
  have HC := hide (choI_nat n k)
  have HB1 := hide (show cho n k < B9 ^ 100 from upB (cho_lt n k) (by omega))
  have HB2 := hide (show u + 1 < B9 ^ 100 from by
    have h1 := hA.lt
    have h2 : B9 ^ (20 + 1) + 1 < B9 ^ 100 := by decide +kernel
    omega)
  have HE := hide (show subE (cho n k) (u + 1) = 2 from if_pos (by omega))
  go_enter Tryd.func28, Tryd.ntmps28
  go_wp2_with fail
  generalize hW : w.alloc _ = W
  obtain ⟨hbW, b5, -⟩ := boxesA1 hW
  clear hW
  refine (within_any n 64 _ true ⟨fun _ => rfl, fun _ => ⟨by omega, by omega⟩⟩).mono ?_
  rintro e w1 ⟨rfl, rfl⟩
  go_wp2_with fail
  refine (within_any k n _ true ⟨fun _ => rfl, fun _ => ⟨by omega, by omega⟩⟩).mono ?_
  rintro e W ⟨rfl, rfl⟩
  have hA := hA.below hbW
  go_wp2_with fail
  have lt5 := b5.lt
  have KS : Hid (∀ w', Below W.heap.size W w' → w'.cell? ⟨w.heap.size, 0, none⟩ = some (.slice A m c)) := fun w' h => (b5.below h lt5).at_ 0
  go_cut [8, 9] from 23 to 32 (fun s8 s9 wx => MadeN W (subU (cho n k) (u + 1)) s8 wx ∧ s9 = .int .i64 2 ∧ Below W.heap.size W wx)
  case first =>
    go_region_held3 (fun w' => w'.cell? ⟨w.heap.size, 0, none⟩ = some (.slice A m c))
      (exact KS.out _ (by ((repeat (first | (with_reducible assumption) | (with_reducible exact Below.refl _ _) | (with_reducible refine Below.drewS ?_) | (with_reducible refine Below.allocS ?_ _) | (with_reducible refine Below.setS ?_ (by first | omega | (simp; omega)) _))); (first | done | fail))))
      (first
        | (go_at_call 44; (with_reducible refine (choose_any n k (by omega) _ (cho n k) HC.out).mono ?_); rintro e wa ⟨Aa, na, ca, rfl, ra, la, ma, hba⟩; have Ea : Below W.heap.size W wa := Below.next (by ((repeat (first | (with_reducible assumption) | (with_reducible exact Below.refl _ _) | (with_reducible refine Below.drewS ?_) | (with_reducible refine Below.allocS ?_ _) | (with_reducible refine Below.setS ?_ (by first | omega | (simp; omega)) _))); (first | done | fail))) hba; have za := Ea.size; have ya := hba.size; (try simp at ya); have ha : Cn wa Aa na ca (cho n k) := ⟨ra, la, ma⟩; have ta : Hid (∀ w', Below wa.heap.size wa w' → Cn w' Aa na ca (cho n k)) := fun w' hb => ha.below hb; clear ha ra la ma)
        | (go_at_call 36; (with_reducible refine (of_one _).mono ?_); rintro e wb ⟨Ab, nb, cb, rfl, rb, lb, mb, hbb⟩; have Eb : Below W.heap.size W wb := Below.next (by ((repeat (first | (with_reducible assumption) | (with_reducible exact Below.refl _ _) | (with_reducible refine Below.drewS ?_) | (with_reducible refine Below.allocS ?_ _) | (with_reducible refine Below.setS ?_ (by first | omega | (simp; omega)) _))); (first | done | fail))) hbb; have zb := Eb.size; have yb := hbb.size; (try simp at yb); have hb : Cn wb Ab nb cb 1 := ⟨rb, lb, mb⟩; have tb : Hid (∀ w', Below wb.heap.size wb w' → Nt w' 20 Ab nb cb 1) := fun w' hb2 => ((hb.below hb2).nt (L := 1) (by decide)).up (by omega); clear hb rb lb mb)
        | (go_at_call_of 33 (Value.slice A m c); (with_reducible refine (add_n (L := 20) (hA.below (by ((repeat (first | (with_reducible assumption) | (with_reducible exact Below.refl _ _) | (with_reducible refine Below.drewS ?_) | (with_reducible refine Below.allocS ?_ _) | (with_reducible refine Below.setS ?_ (by first | omega | (simp; omega)) _))); (first | done | fail)))) (tb.out _ (by ((repeat (first | (with_reducible assumption) | (with_reducible exact Below.refl _ _) | (with_reducible refine Below.drewS ?_) | (with_reducible refine Below.allocS ?_ _) | (with_reducible refine Below.setS ?_ (by first | omega | (simp; omega)) _))); (first | done | fail)))) (by omega) (u + 1) rfl).mono ?_); rintro e wc ⟨Ac, nc, cc, rfl, rc, lc, mc, hbc⟩; have Ec : Below W.heap.size W wc := Below.next (by ((repeat (first | (with_reducible assumption) | (with_reducible exact Below.refl _ _) | (with_reducible refine Below.drewS ?_) | (with_reducible refine Below.allocS ?_ _) | (with_reducible refine Below.setS ?_ (by first | omega | (simp; omega)) _))); (first | done | fail))) hbc; have zc := Ec.size; have yc := hbc.size; (try simp at yc); have hc : Cn wc Ac nc cc (u + 1) := ⟨rc, lc, mc⟩; have tc : Hid (∀ w', Below wc.heap.size wc w' → Cn w' Ac nc cc (u + 1)) := fun w' hb2 => hc.below hb2; clear hc rc lc mc tb)
        | (go_at_call_of 50 (Value.slice Aa na ca); (with_reducible refine (sub_c (ta.out _ (by ((repeat (first | (with_reducible assumption) | (with_reducible exact Below.refl _ _) | (with_reducible refine Below.drewS ?_) | (with_reducible refine Below.allocS ?_ _) | (with_reducible refine Below.next ?_ hbc) | (with_reducible refine Below.next ?_ hbb))); (first | done | fail)))) (tc.out _ (by ((repeat (first | (with_reducible assumption) | (with_reducible exact Below.refl _ _) | (with_reducible refine Below.drewS ?_) | (with_reducible refine Below.allocS ?_ _) | (with_reducible refine Below.setS ?_ (by first | omega | (simp; omega)) _))); (first | done | fail)))) HB1.out HB2.out _ 2 rfl HE.out).mono ?_); rintro e wq ⟨Aq, nq, cq, rfl, rq, lq, mq, hbq⟩; have Eq : Below W.heap.size W wq := Below.next (by ((repeat (first | (with_reducible assumption) | (with_reducible exact Below.refl _ _) | (with_reducible refine Below.drewS ?_) | (with_reducible refine Below.allocS ?_ _) | (with_reducible refine Below.setS ?_ (by first | omega | (simp; omega)) _))); (first | done | fail))) hbq; have zq := Eq.size; have yq := hbq.size; (try simp at yq); (try (have q0_0 : W.heap.size < wq.heap.size := by omega)); (try (have q1_0 : wa.heap.size < wq.heap.size := by omega)); (try (have q2_0 : wb.heap.size < wq.heap.size := by omega)); (try (have q3_0 : wc.heap.size < wq.heap.size := by omega)); (try (have e0_0 : Box wq (W.heap.size) #[.slice none 0 0] 25 := (by ((repeat (first | (with_reducible exact Box.newE _ _ _ (by first | rfl | (simp; (first | done | fail)))) | (with_reducible refine Box.drewS ?_) | (with_reducible refine Box.alloc ?_ _) | (with_reducible refine Box.below' ?_ hbq) | (with_reducible refine Box.below' ?_ hbc) | (with_reducible refine Box.below' ?_ hbb) | (with_reducible refine Box.below' ?_ hba))); (first | done | fail))); have le0_0 := Box.lt e0_0; have ke0_0 := Box.cell e0_0; have fe0_0 := Box.frozen e0_0 0)); (try (have e1_0 : Box wq (wa.heap.size) #[.slice none 0 0] 25 := (by ((repeat (first | (with_reducible exact Box.newE _ _ _ (by first | rfl | (simp; (first | done | fail)))) | (with_reducible refine Box.drewS ?_) | (with_reducible refine Box.alloc ?_ _) | (with_reducible refine Box.below' ?_ hbq) | (with_reducible refine Box.below' ?_ hbc) | (with_reducible refine Box.below' ?_ hbb) | (with_reducible refine Box.below' ?_ hba))); (first | done | fail))); have le1_0 := Box.lt e1_0; have ke1_0 := Box.cell e1_0; have fe1_0 := Box.frozen e1_0 0)); (try (have e2_0 : Box wq (wb.heap.size) #[.slice none 0 0] 25 := (by ((repeat (first | (with_reducible exact Box.newE _ _ _ (by first | rfl | (simp; (first | done | fail)))) | (with_reducible refine Box.drewS ?_) | (with_reducible refine Box.alloc ?_ _) | (with_reducible refine Box.below' ?_ hbq) | (with_reducible refine Box.below' ?_ hbc) | (with_reducible refine Box.below' ?_ hbb) | (with_reducible refine Box.below' ?_ hba))); (first | done | fail))); have le2_0 := Box.lt e2_0; have ke2_0 := Box.cell e2_0; have fe2_0 := Box.frozen e2_0 0)); (try (have e3_0 : Box wq (wc.heap.size) #[.slice none 0 0] 25 := (by ((repeat (first | (with_reducible exact Box.newE _ _ _ (by first | rfl | (simp; (first | done | fail)))) | (with_reducible refine Box.drewS ?_) | (with_reducible refine Box.alloc ?_ _) | (with_reducible refine Box.below' ?_ hbq) | (with_reducible refine Box.below' ?_ hbc) | (with_reducible refine Box.below' ?_ hbb) | (with_reducible refine Box.below' ?_ hba))); (first | done | fail))); have le3_0 := Box.lt e3_0; have ke3_0 := Box.cell e3_0; have fe3_0 := Box.frozen e3_0 0)); have hq : Cn wq Aq nq cq (subU (cho n k) (u + 1)) := ⟨rq, lq, mq⟩; clear rq lq mq ta tc))
    all_goals
      go_wp2_with fail
      go_meet
      exact ⟨⟨_, Aq, nq, cq, rfl, (by first | omega | (simp; omega)), (by ((repeat (first | (with_reducible assumption) | (with_reducible exact Box.newE _ _ _ (by first | rfl | (simp; (first | done | fail)))) | (with_reducible refine Box.drewS ?_) | (with_reducible refine Box.alloc ?_ _) | (with_reducible refine Box.put1z ?_) | (with_reducible refine Box.far1 ?_ (by first | omega | (simp; omega)) _))); (first | done | fail))), (by ((repeat (first | (with_reducible exact hq) | (with_reducible refine Cn.allocS ?_ _) | (with_reducible refine Cn.far1z ?_ (by ((repeat (first | (with_reducible assumption) | (with_reducible exact Box.newE _ _ _ (by first | rfl | (simp; (first | done | fail)))) | (with_reducible refine Box.drewS ?_) | (with_reducible refine Box.alloc ?_ _) | (with_reducible refine Box.put1z ?_) | (with_reducible refine Box.far1 ?_ (by first | omega | (simp; omega)) _))); (first | done | fail))) _))); (first | done | fail)))⟩, rfl, (by ((repeat (first | (with_reducible assumption) | (with_reducible exact Below.refl _ _) | (with_reducible refine Below.drewS ?_) | (with_reducible refine Below.allocS ?_ _) | (with_reducible refine Below.setS ?_ (by first | omega | (simp; omega)) _))); (first | done | fail)))⟩
  case rest =>
  obtain ⟨⟨g8, Aq, nq, cq, rfl, hg8, b8, hq⟩, rfl, E6⟩ := hcut
  have hbA := hbW.trans (E6.mono hbW.size)
  clear E6 KS lt5 b5 hA
  generalize wc = W6 at *
  clear b8 hq hg8
  go_wp2_with fail
  go_ret2
  exact ⟨rfl, hbA⟩
set_option maxHeartbeats 8000000 in
set_option maxRecDepth 100000 in
theorem cunr_ok (n k : Nat) (hn : n ≤ 64) (hk : k ≤ n) (A : Option Addr) (m c u : Nat) (w : World) (hA : Nt w 20 A m c u) (hu : u < cho n k) (U : List Nat) (hU : un n 0 k u = U) : Calls Tryd.prog 28 #[.int .i64 (n : Int), .int .i64 (k : Int), .agg #[.slice A m c]] w (GivesI U w) := by
  have HC := hide (choI_nat n k)
  have HB1 := hide (show cho n k < B9 ^ 100 from upB (cho_lt n k) (by omega))
  have HB2 := hide (show u + 1 < B9 ^ 100 from by
    have h1 := hA.lt
    have h2 : B9 ^ (20 + 1) + 1 < B9 ^ 100 := by decide +kernel
    omega)
  have HE := hide (show subE (cho n k) (u + 1) = 0 from if_neg (by omega))
  have HI : Hid (UInv n k U 0 [] (subU (cho n k) (u + 1))) := ⟨u, by rw [Nat.sub_zero]; show cho n k - (u + 1) + u + 1 = cho n k; omega, by rw [Nat.sub_zero]; exact hU⟩
  clear hU
  go_enter Tryd.func28, Tryd.ntmps28
  go_wp2_with fail
  generalize hW : w.alloc _ = W
  obtain ⟨hbW, b5, -⟩ := boxesA1 hW
  clear hW
  refine (within_any n 64 _ true ⟨fun _ => rfl, fun _ => ⟨by omega, by omega⟩⟩).mono ?_
  rintro e w1 ⟨rfl, rfl⟩
  go_wp2_with fail
  refine (within_any k n _ true ⟨fun _ => rfl, fun _ => ⟨by omega, by omega⟩⟩).mono ?_
  rintro e W ⟨rfl, rfl⟩
  have hA := hA.below hbW
  go_wp2_with fail
  have lt5 := b5.lt
  have KS : Hid (∀ w', Below W.heap.size W w' → w'.cell? ⟨w.heap.size, 0, none⟩ = some (.slice A m c)) := fun w' h => (b5.below h lt5).at_ 0
  go_cut [8, 9] from 23 to 32 (fun s8 s9 wx => MadeN W (subU (cho n k) (u + 1)) s8 wx ∧ s9 = .int .i64 0 ∧ Below W.heap.size W wx)
  case first =>
    go_region_held3 (fun w' => w'.cell? ⟨w.heap.size, 0, none⟩ = some (.slice A m c))
      (exact KS.out _ (by ((repeat (first | (with_reducible assumption) | (with_reducible exact Below.refl _ _) | (with_reducible refine Below.drewS ?_) | (with_reducible refine Below.allocS ?_ _) | (with_reducible refine Below.setS ?_ (by first | omega | (simp; omega)) _))); (first | done | fail))))
      (first
        | (go_at_call 44; (with_reducible refine (choose_any n k (by omega) _ (cho n k) HC.out).mono ?_); rintro e wa ⟨Aa, na, ca, rfl, ra, la, ma, hba⟩; have Ea : Below W.heap.size W wa := Below.next (by ((repeat (first | (with_reducible assumption) | (with_reducible exact Below.refl _ _) | (with_reducible refine Below.drewS ?_) | (with_reducible refine Below.allocS ?_ _) | (with_reducible refine Below.setS ?_ (by first | omega | (simp; omega)) _))); (first | done | fail))) hba; have za := Ea.size; have ya := hba.size; (try simp at ya); have ha : Cn wa Aa na ca (cho n k) := ⟨ra, la, ma⟩; have ta : Hid (∀ w', Below wa.heap.size wa w' → Cn w' Aa na ca (cho n k)) := fun w' hb => ha.below hb; clear ha ra la ma)
        | (go_at_call 36; (with_reducible refine (of_one _).mono ?_); rintro e wb ⟨Ab, nb, cb, rfl, rb, lb, mb, hbb⟩; have Eb : Below W.heap.size W wb := Below.next (by ((repeat (first | (with_reducible assumption) | (with_reducible exact Below.refl _ _) | (with_reducible refine Below.drewS ?_) | (with_reducible refine Below.allocS ?_ _) | (with_reducible refine Below.setS ?_ (by first | omega | (simp; omega)) _))); (first | done | fail))) hbb; have zb := Eb.size; have yb := hbb.size; (try simp at yb); have hb : Cn wb Ab nb cb 1 := ⟨rb, lb, mb⟩; have tb : Hid (∀ w', Below wb.heap.size wb w' → Nt w' 20 Ab nb cb 1) := fun w' hb2 => ((hb.below hb2).nt (L := 1) (by decide)).up (by omega); clear hb rb lb mb)
        | (go_at_call_of 33 (Value.slice A m c); (with_reducible refine (add_n (L := 20) (hA.below (by ((repeat (first | (with_reducible assumption) | (with_reducible exact Below.refl _ _) | (with_reducible refine Below.drewS ?_) | (with_reducible refine Below.allocS ?_ _) | (with_reducible refine Below.setS ?_ (by first | omega | (simp; omega)) _))); (first | done | fail)))) (tb.out _ (by ((repeat (first | (with_reducible assumption) | (with_reducible exact Below.refl _ _) | (with_reducible refine Below.drewS ?_) | (with_reducible refine Below.allocS ?_ _) | (with_reducible refine Below.setS ?_ (by first | omega | (simp; omega)) _))); (first | done | fail)))) (by omega) (u + 1) rfl).mono ?_); rintro e wc ⟨Ac, nc, cc, rfl, rc, lc, mc, hbc⟩; have Ec : Below W.heap.size W wc := Below.next (by ((repeat (first | (with_reducible assumption) | (with_reducible exact Below.refl _ _) | (with_reducible refine Below.drewS ?_) | (with_reducible refine Below.allocS ?_ _) | (with_reducible refine Below.setS ?_ (by first | omega | (simp; omega)) _))); (first | done | fail))) hbc; have zc := Ec.size; have yc := hbc.size; (try simp at yc); have hc : Cn wc Ac nc cc (u + 1) := ⟨rc, lc, mc⟩; have tc : Hid (∀ w', Below wc.heap.size wc w' → Cn w' Ac nc cc (u + 1)) := fun w' hb2 => hc.below hb2; clear hc rc lc mc tb)
        | (go_at_call_of 50 (Value.slice Aa na ca); (with_reducible refine (sub_c (ta.out _ (by ((repeat (first | (with_reducible assumption) | (with_reducible exact Below.refl _ _) | (with_reducible refine Below.drewS ?_) | (with_reducible refine Below.allocS ?_ _) | (with_reducible refine Below.next ?_ hbc) | (with_reducible refine Below.next ?_ hbb))); (first | done | fail)))) (tc.out _ (by ((repeat (first | (with_reducible assumption) | (with_reducible exact Below.refl _ _) | (with_reducible refine Below.drewS ?_) | (with_reducible refine Below.allocS ?_ _) | (with_reducible refine Below.setS ?_ (by first | omega | (simp; omega)) _))); (first | done | fail)))) HB1.out HB2.out _ 0 rfl HE.out).mono ?_); rintro e wq ⟨Aq, nq, cq, rfl, rq, lq, mq, hbq⟩; have Eq : Below W.heap.size W wq := Below.next (by ((repeat (first | (with_reducible assumption) | (with_reducible exact Below.refl _ _) | (with_reducible refine Below.drewS ?_) | (with_reducible refine Below.allocS ?_ _) | (with_reducible refine Below.setS ?_ (by first | omega | (simp; omega)) _))); (first | done | fail))) hbq; have zq := Eq.size; have yq := hbq.size; (try simp at yq); (try (have q0_0 : W.heap.size < wq.heap.size := by omega)); (try (have q1_0 : wa.heap.size < wq.heap.size := by omega)); (try (have q2_0 : wb.heap.size < wq.heap.size := by omega)); (try (have q3_0 : wc.heap.size < wq.heap.size := by omega)); (try (have e0_0 : Box wq (W.heap.size) #[.slice none 0 0] 25 := (by ((repeat (first | (with_reducible exact Box.newE _ _ _ (by first | rfl | (simp; (first | done | fail)))) | (with_reducible refine Box.drewS ?_) | (with_reducible refine Box.alloc ?_ _) | (with_reducible refine Box.below' ?_ hbq) | (with_reducible refine Box.below' ?_ hbc) | (with_reducible refine Box.below' ?_ hbb) | (with_reducible refine Box.below' ?_ hba))); (first | done | fail))); have le0_0 := Box.lt e0_0; have ke0_0 := Box.cell e0_0; have fe0_0 := Box.frozen e0_0 0)); (try (have e1_0 : Box wq (wa.heap.size) #[.slice none 0 0] 25 := (by ((repeat (first | (with_reducible exact Box.newE _ _ _ (by first | rfl | (simp; (first | done | fail)))) | (with_reducible refine Box.drewS ?_) | (with_reducible refine Box.alloc ?_ _) | (with_reducible refine Box.below' ?_ hbq) | (with_reducible refine Box.below' ?_ hbc) | (with_reducible refine Box.below' ?_ hbb) | (with_reducible refine Box.below' ?_ hba))); (first | done | fail))); have le1_0 := Box.lt e1_0; have ke1_0 := Box.cell e1_0; have fe1_0 := Box.frozen e1_0 0)); (try (have e2_0 : Box wq (wb.heap.size) #[.slice none 0 0] 25 := (by ((repeat (first | (with_reducible exact Box.newE _ _ _ (by first | rfl | (simp; (first | done | fail)))) | (with_reducible refine Box.drewS ?_) | (with_reducible refine Box.alloc ?_ _) | (with_reducible refine Box.below' ?_ hbq) | (with_reducible refine Box.below' ?_ hbc) | (with_reducible refine Box.below' ?_ hbb) | (with_reducible refine Box.below' ?_ hba))); (first | done | fail))); have le2_0 := Box.lt e2_0; have ke2_0 := Box.cell e2_0; have fe2_0 := Box.frozen e2_0 0)); (try (have e3_0 : Box wq (wc.heap.size) #[.slice none 0 0] 25 := (by ((repeat (first | (with_reducible exact Box.newE _ _ _ (by first | rfl | (simp; (first | done | fail)))) | (with_reducible refine Box.drewS ?_) | (with_reducible refine Box.alloc ?_ _) | (with_reducible refine Box.below' ?_ hbq) | (with_reducible refine Box.below' ?_ hbc) | (with_reducible refine Box.below' ?_ hbb) | (with_reducible refine Box.below' ?_ hba))); (first | done | fail))); have le3_0 := Box.lt e3_0; have ke3_0 := Box.cell e3_0; have fe3_0 := Box.frozen e3_0 0)); have hq : Cn wq Aq nq cq (subU (cho n k) (u + 1)) := ⟨rq, lq, mq⟩; clear rq lq mq ta tc))
    all_goals
      go_wp2_with fail
      go_meet
      exact ⟨⟨_, Aq, nq, cq, rfl, (by first | omega | (simp; omega)), (by ((repeat (first | (with_reducible assumption) | (with_reducible exact Box.newE _ _ _ (by first | rfl | (simp; (first | done | fail)))) | (with_reducible refine Box.drewS ?_) | (with_reducible refine Box.alloc ?_ _) | (with_reducible refine Box.put1z ?_) | (with_reducible refine Box.far1 ?_ (by first | omega | (simp; omega)) _))); (first | done | fail))), (by ((repeat (first | (with_reducible exact hq) | (with_reducible refine Cn.allocS ?_ _) | (with_reducible refine Cn.far1z ?_ (by ((repeat (first | (with_reducible assumption) | (with_reducible exact Box.newE _ _ _ (by first | rfl | (simp; (first | done | fail)))) | (with_reducible refine Box.drewS ?_) | (with_reducible refine Box.alloc ?_ _) | (with_reducible refine Box.put1z ?_) | (with_reducible refine Box.far1 ?_ (by first | omega | (simp; omega)) _))); (first | done | fail))) _))); (first | done | fail)))⟩, rfl, (by ((repeat (first | (with_reducible assumption) | (with_reducible exact Below.refl _ _) | (with_reducible refine Below.drewS ?_) | (with_reducible refine Below.allocS ?_ _) | (with_reducible refine Below.setS ?_ (by first | omega | (simp; omega)) _))); (first | done | fail)))⟩
  case rest =>
  obtain ⟨⟨g8, Aq, nq, cq, rfl, hg8, b8, hq⟩, rfl, E6⟩ := hcut
  have hbA := hbW.trans (E6.mono hbW.size)
  clear E6 KS lt5 b5 hA
  generalize wc = W6 at *
  go_wp2_with (at_make; refine wpList_make_ir _ rfl _ _ 32 rfl 8 Tryd.underlying32 int_info .i64 .i64 _ k rfl rfl rfl (by omega) (by omega) ?_; intro g10 w7 hg10 hx hb)
  have HG := hide (show g8 < W6.heap.size ∧ w.heap.size ≤ W6.heap.size ∧ w.heap.size ≤ g8 from ⟨b8.lt, hbA.size, Nat.le_trans hbW.size hg8⟩)
  have hbA := hbA.trans (hb.mono hbA.size)
  have b8 := b8.below' hb
  have hq := hq.below hb
  have HZ := hide hb.size
  clear hb hbW hg8 hg10
  generalize W6.heap.size = B at *
  go_wp2_with fail
  go_loopw [10, 11, 12, 13] (fun v10 v11 _ _ wr => ∃ (s : List Nat) (A : Option Addr) (q c v a : Nat) (Ar : Option Addr) (nr cr : Nat), s.length = q ∧ v11 = .int .i64 ((v : Nat) : Int) ∧ v10 = .slice A q c ∧ IR wr B A q c s ∧ q ≤ k ∧ v ≤ n ∧ Hid (UInv n k U v s a) ∧ Below w.heap.size w wr ∧ Box wr g8 #[.slice Ar nr cr] 25 ∧ Cn wr Ar nr cr a ∧ B ≤ wr.heap.size) (fun _ v11 _ _ _ => n - (intOf v11).toNat)
  case atStart => exact ⟨[], _, 0, _, 0, _, _, _, _, rfl, rfl, rfl, hx, Nat.zero_le _, Nat.zero_le _, HI, hbA, b8, hq, HZ.out⟩
  case round =>
    clear hA hx hq b8 hbA
    obtain ⟨s, A, q, c, v, a, Ar, nr, cr, hsl, rfl, rfl, hx, hqk, hv, HU, hbA, b8, hr, hB⟩ := hrel
    by_cases hlt : q < k
    · have hvn : v < n := HU.out.lt (by omega)
      obtain ⟨need, hneed⟩ : ∃ need, k - q = need := ⟨_, rfl⟩
      have hki : (k : Int) - (q : Int) = (need : Int) := by omega
      have hw : IntKind.i64.wrap (need : Int) = (need : Int) := IntWalk.i64_in _ (by omega)
      have HB3 := hide (HU.out.bound hn)
      have HB4 := hide (show cho (n - 1 - v) need < B9 ^ 100 from upB (cho_lt _ _) (by omega))
      have lt8 := b8.lt
      have KS : Hid (∀ w', Below wr.heap.size wr w' → w'.cell? ⟨g8, 0, none⟩ = some (.slice Ar nr cr)) := fun w' h => (b8.below h lt8).at_ 0
      have HNE := hide (show ∀ b o, A = some ⟨b, o, none⟩ → B ≤ b ∧ b < wr.heap.size from fun b o e => hx.lt b o e)
      have HSL := hide hsl
      by_cases hle : cho (n - 1 - v) need ≤ a
      · have HE := hide (show subE a (cho (n - 1 - v) need) = 0 from if_neg (by omega))
        have HUN := hide (show UInv n k U (v + 1) (s ++ [v]) (a - cho (n - 1 - v) need) from by
          have h1 := HU.out.take (by omega) (by rw [hsl, hneed]; exact hle)
          rw [hsl, hneed] at h1
          exact h1)
        clear hle hneed hsl HU
        go_wp2_with fail
        go_cut [12, 13] from 43 to 54 (fun s12 s13 wx => MadeN wr (subU a (cho (n - 1 - v) need)) s12 wx ∧ s13 = .int .i64 0 ∧ Below wr.heap.size wr wx)
        case first =>
          go_region_held3 (fun w' => w'.cell? ⟨g8, 0, none⟩ = some (.slice Ar nr cr))
            (exact KS.out _ (by ((repeat (first | (with_reducible assumption) | (with_reducible exact Below.refl _ _) | (with_reducible refine Below.drewS ?_) | (with_reducible refine Below.allocS ?_ _) | (with_reducible refine Below.setS ?_ (by first | omega | (simp; omega)) _))); (first | done | fail))))
            (first
              | (go_at_call 51; (with_reducible refine (later_any n need v hn hvn _ _ rfl).mono ?_); rintro e wa ⟨Aa, na, ca, rfl, ra, la, ma, hba⟩; have Ea : Below wr.heap.size wr wa := Below.next (by ((repeat (first | (with_reducible assumption) | (with_reducible exact Below.refl _ _) | (with_reducible refine Below.drewS ?_) | (with_reducible refine Below.allocS ?_ _) | (with_reducible refine Below.setS ?_ (by first | omega | (simp; omega)) _))); (first | done | fail))) hba; have za := Ea.size; have ya := hba.size; (try simp at ya); have ha : Cn wa Aa na ca (cho (n - 1 - v) need) := ⟨ra, la, ma⟩; have ta : Hid (∀ w', Below wa.heap.size wa w' → Cn w' Aa na ca (cho (n - 1 - v) need)) := fun w' hb => ha.below hb; clear ha ra la ma)
              | (go_at_call_of 50 (Value.slice Ar nr cr); (with_reducible refine (sub_c (hr.below (by ((repeat (first | (with_reducible assumption) | (with_reducible exact Below.refl _ _) | (with_reducible refine Below.drewS ?_) | (with_reducible refine Below.allocS ?_ _) | (with_reducible refine Below.setS ?_ (by first | omega | (simp; omega)) _))); (first | done | fail)))) (ta.out _ (by ((repeat (first | (with_reducible assumption) | (with_reducible exact Below.refl _ _) | (with_reducible refine Below.drewS ?_) | (with_reducible refine Below.allocS ?_ _) | (with_reducible refine Below.setS ?_ (by first | omega | (simp; omega)) _))); (first | done | fail)))) HB3.out HB4.out _ 0 rfl HE.out).mono ?_); rintro e wq ⟨Aq, nq, cq, rfl, rq, lq, mq, hbq⟩; have Eq : Below wr.heap.size wr wq := Below.next (by ((repeat (first | (with_reducible assumption) | (with_reducible exact Below.refl _ _) | (with_reducible refine Below.drewS ?_) | (with_reducible refine Below.allocS ?_ _) | (with_reducible refine Below.setS ?_ (by first | omega | (simp; omega)) _))); (first | done | fail))) hbq; have zq := Eq.size; have yq := hbq.size; (try simp at yq); (try (have q0_0 : wr.heap.size < wq.heap.size := by omega)); (try (have q1_0 : wa.heap.size < wq.heap.size := by omega)); (try (have e0_0 : Box wq (wr.heap.size) #[.slice none 0 0] 25 := (by ((repeat (first | (with_reducible exact Box.newE _ _ _ (by first | rfl | (simp; (first | done | fail)))) | (with_reducible refine Box.drewS ?_) | (with_reducible refine Box.alloc ?_ _) | (with_reducible refine Box.below' ?_ hbq) | (with_reducible refine Box.below' ?_ hba))); (first | done | fail))); have le0_0 := Box.lt e0_0; have ke0_0 := Box.cell e0_0; have fe0_0 := Box.frozen e0_0 0)); (try (have e1_0 : Box wq (wa.heap.size) #[.slice none 0 0] 25 := (by ((repeat (first | (with_reducible exact Box.newE _ _ _ (by first | rfl | (simp; (first | done | fail)))) | (with_reducible refine Box.drewS ?_) | (with_reducible refine Box.alloc ?_ _) | (with_reducible refine Box.below' ?_ hbq) | (with_reducible refine Box.below' ?_ hba))); (first | done | fail))); have le1_0 := Box.lt e1_0; have ke1_0 := Box.cell e1_0; have fe1_0 := Box.frozen e1_0 0)); have hq : Cn wq Aq nq cq (subU a (cho (n - 1 - v) need)) := ⟨rq, lq, mq⟩; clear rq lq mq ta))
          all_goals
            go_wp2_with fail
            go_meet
            exact ⟨⟨_, Aq, nq, cq, rfl, (by first | omega | (simp; omega)), (by ((repeat (first | (with_reducible assumption) | (with_reducible exact Box.newE _ _ _ (by first | rfl | (simp; (first | done | fail)))) | (with_reducible refine Box.drewS ?_) | (with_reducible refine Box.alloc ?_ _) | (with_reducible refine Box.put1z ?_) | (with_reducible refine Box.far1 ?_ (by first | omega | (simp; omega)) _))); (first | done | fail))), (by ((repeat (first | (with_reducible exact hq) | (with_reducible refine Cn.allocS ?_ _) | (with_reducible refine Cn.far1z ?_ (by ((repeat (first | (with_reducible assumption) | (with_reducible exact Box.newE _ _ _ (by first | rfl | (simp; (first | done | fail)))) | (with_reducible refine Box.drewS ?_) | (with_reducible refine Box.alloc ?_ _) | (with_reducible refine Box.put1z ?_) | (with_reducible refine Box.far1 ?_ (by first | omega | (simp; omega)) _))); (first | done | fail))) _))); (first | done | fail)))⟩, rfl, (by ((repeat (first | (with_reducible assumption) | (with_reducible exact Below.refl _ _) | (with_reducible refine Below.drewS ?_) | (with_reducible refine Below.allocS ?_ _) | (with_reducible refine Below.setS ?_ (by first | omega | (simp; omega)) _))); (first | done | fail)))⟩
        case rest =>
        obtain ⟨⟨g12, Aq, nq, cq, rfl, hg12, b12, hq⟩, rfl, E6⟩ := hcut
        have hbA := hbA.trans (E6.mono hbA.size)
        have hx := hx.below E6
        have b8 := b8.below' E6
        have hr := hr.below E6
        have hB6 := Nat.le_trans hB E6.size
        clear E6 KS lt8 hB
        generalize wc = W7 at *
        have kx := b12.cell
        have lx := b12.lt
        have F : Below W7.heap.size W7 (W7.alloc (.cells #[.int .i64 (v : Int)] 3)) := (Below.refl _ _).alloc (Nat.le_refl _) _
        have bF8 := b8.below' F
        have bF12 := b12.below' F
        have hqF := hq.below F
        have hbF := hbA.trans (F.mono hbA.size)
        have HN12 := hide (show ∀ b o, A = some ⟨b, o, none⟩ → b ≠ g12 from fun b o e => by have := (HNE.out b o e).2; omega)
        have HBF := hide (Nat.le_trans hB6 F.size)
        clear hr hq b8 b12 hbA
        go_wp2_with (at_builtin; refine wpList_append_ir rfl _ _ 32 rfl 8 Tryd.underlying32 int_info B _ q c s rfl (hx.below F) W7.heap.size 0 1 v rfl (Box.new W7 #[.int .i64 (v : Int)] 3).cell (by omega) (q + 1) rfl (by omega) HBF.out ?_; intro A8 c8 w8 hr8 hG8; have b12 := hG8.2.2.2 _ _ _ bF12 HN12.out; have k12 := b12.cell; have b8 := bF8.below hG8.1 HG.out.1; have k8 := b8.cell; have f8 := b8.frozen 0)
        have hbA := hbF.trans (hG8.1.mono HG.out.2.1)
        have hq := hG8.cn hqF
        have hB8 := Nat.le_trans HBF.out hG8.2.1
        have hq2 := hq.far (i := 0) b8 noInt1 (.slice Aq nq cq)
        have b8n := b8.put (.slice Aq nq cq)
        have hbN : Below w.heap.size w (w8.setCell ⟨g8, 0, none⟩ (.slice Aq nq cq)) := hbA.setCell HG.out.2.2 _
        have HRN := hide (show IR (w8.setCell ⟨g8, 0, none⟩ (.slice Aq nq cq)) B A8 (q + 1) c8 (s ++ [v]) from hr8.far (fun b o e => by have := (hr8.lt b o e).1; have := HG.out.1; omega) _)
        have HS8 := hide (show B ≤ (w8.setCell ⟨g8, 0, none⟩ (.slice Aq nq cq)).heap.size from by simpa [World.setCell] using hB8)
        go_roundw
        case measure => simp [intOf]; omega
        case rel => exact ⟨s ++ [v], A8, q + 1, c8, v + 1, _, Aq, nq, cq, by rw [List.length_append, HSL.out]; rfl, by go_num, rfl, HRN.out, by omega, by omega, HUN, hbN, b8n, hq2, HS8.out⟩
      · have HE := hide (show subE a (cho (n - 1 - v) need) = 2 from if_pos (by omega))
        have HUN := hide (show UInv n k U (v + 1) s a from HU.out.skip (by omega) (by rw [hsl, hneed]; omega))
        clear hle hneed hsl HU
        go_wp2_with fail
        go_cut [12, 13] from 43 to 54 (fun s12 s13 wx => MadeN wr (subU a (cho (n - 1 - v) need)) s12 wx ∧ s13 = .int .i64 2 ∧ Below wr.heap.size wr wx)
        case first =>
          go_region_held3 (fun w' => w'.cell? ⟨g8, 0, none⟩ = some (.slice Ar nr cr))
            (exact KS.out _ (by ((repeat (first | (with_reducible assumption) | (with_reducible exact Below.refl _ _) | (with_reducible refine Below.drewS ?_) | (with_reducible refine Below.allocS ?_ _) | (with_reducible refine Below.setS ?_ (by first | omega | (simp; omega)) _))); (first | done | fail))))
            (first
              | (go_at_call 51; (with_reducible refine (later_any n need v hn hvn _ _ rfl).mono ?_); rintro e wa ⟨Aa, na, ca, rfl, ra, la, ma, hba⟩; have Ea : Below wr.heap.size wr wa := Below.next (by ((repeat (first | (with_reducible assumption) | (with_reducible exact Below.refl _ _) | (with_reducible refine Below.drewS ?_) | (with_reducible refine Below.allocS ?_ _) | (with_reducible refine Below.setS ?_ (by first | omega | (simp; omega)) _))); (first | done | fail))) hba; have za := Ea.size; have ya := hba.size; (try simp at ya); have ha : Cn wa Aa na ca (cho (n - 1 - v) need) := ⟨ra, la, ma⟩; have ta : Hid (∀ w', Below wa.heap.size wa w' → Cn w' Aa na ca (cho (n - 1 - v) need)) := fun w' hb => ha.below hb; clear ha ra la ma)
              | (go_at_call_of 50 (Value.slice Ar nr cr); (with_reducible refine (sub_c (hr.below (by ((repeat (first | (with_reducible assumption) | (with_reducible exact Below.refl _ _) | (with_reducible refine Below.drewS ?_) | (with_reducible refine Below.allocS ?_ _) | (with_reducible refine Below.setS ?_ (by first | omega | (simp; omega)) _))); (first | done | fail)))) (ta.out _ (by ((repeat (first | (with_reducible assumption) | (with_reducible exact Below.refl _ _) | (with_reducible refine Below.drewS ?_) | (with_reducible refine Below.allocS ?_ _) | (with_reducible refine Below.setS ?_ (by first | omega | (simp; omega)) _))); (first | done | fail)))) HB3.out HB4.out _ 2 rfl HE.out).mono ?_); rintro e wq ⟨Aq, nq, cq, rfl, rq, lq, mq, hbq⟩; have Eq : Below wr.heap.size wr wq := Below.next (by ((repeat (first | (with_reducible assumption) | (with_reducible exact Below.refl _ _) | (with_reducible refine Below.drewS ?_) | (with_reducible refine Below.allocS ?_ _) | (with_reducible refine Below.setS ?_ (by first | omega | (simp; omega)) _))); (first | done | fail))) hbq; have zq := Eq.size; have yq := hbq.size; (try simp at yq); (try (have q0_0 : wr.heap.size < wq.heap.size := by omega)); (try (have q1_0 : wa.heap.size < wq.heap.size := by omega)); (try (have e0_0 : Box wq (wr.heap.size) #[.slice none 0 0] 25 := (by ((repeat (first | (with_reducible exact Box.newE _ _ _ (by first | rfl | (simp; (first | done | fail)))) | (with_reducible refine Box.drewS ?_) | (with_reducible refine Box.alloc ?_ _) | (with_reducible refine Box.below' ?_ hbq) | (with_reducible refine Box.below' ?_ hba))); (first | done | fail))); have le0_0 := Box.lt e0_0; have ke0_0 := Box.cell e0_0; have fe0_0 := Box.frozen e0_0 0)); (try (have e1_0 : Box wq (wa.heap.size) #[.slice none 0 0] 25 := (by ((repeat (first | (with_reducible exact Box.newE _ _ _ (by first | rfl | (simp; (first | done | fail)))) | (with_reducible refine Box.drewS ?_) | (with_reducible refine Box.alloc ?_ _) | (with_reducible refine Box.below' ?_ hbq) | (with_reducible refine Box.below' ?_ hba))); (first | done | fail))); have le1_0 := Box.lt e1_0; have ke1_0 := Box.cell e1_0; have fe1_0 := Box.frozen e1_0 0)); have hq : Cn wq Aq nq cq (subU a (cho (n - 1 - v) need)) := ⟨rq, lq, mq⟩; clear rq lq mq ta))
          all_goals
            go_wp2_with fail
            go_meet
            exact ⟨⟨_, Aq, nq, cq, rfl, (by first | omega | (simp; omega)), (by ((repeat (first | (with_reducible assumption) | (with_reducible exact Box.newE _ _ _ (by first | rfl | (simp; (first | done | fail)))) | (with_reducible refine Box.drewS ?_) | (with_reducible refine Box.alloc ?_ _) | (with_reducible refine Box.put1z ?_) | (with_reducible refine Box.far1 ?_ (by first | omega | (simp; omega)) _))); (first | done | fail))), (by ((repeat (first | (with_reducible exact hq) | (with_reducible refine Cn.allocS ?_ _) | (with_reducible refine Cn.far1z ?_ (by ((repeat (first | (with_reducible assumption) | (with_reducible exact Box.newE _ _ _ (by first | rfl | (simp; (first | done | fail)))) | (with_reducible refine Box.drewS ?_) | (with_reducible refine Box.alloc ?_ _) | (with_reducible refine Box.put1z ?_) | (with_reducible refine Box.far1 ?_ (by first | omega | (simp; omega)) _))); (first | done | fail))) _))); (first | done | fail)))⟩, rfl, (by ((repeat (first | (with_reducible assumption) | (with_reducible exact Below.refl _ _) | (with_reducible refine Below.drewS ?_) | (with_reducible refine Below.allocS ?_ _) | (with_reducible refine Below.setS ?_ (by first | omega | (simp; omega)) _))); (first | done | fail)))⟩
        case rest =>
        obtain ⟨⟨g12, Aq, nq, cq, rfl, hg12, b12, hq⟩, rfl, E6⟩ := hcut
        have hbA := hbA.trans (E6.mono hbA.size)
        have hx := hx.below E6
        have b8 := b8.below' E6
        have hr := hr.below E6
        have hB6 := Nat.le_trans hB E6.size
        clear E6 KS lt8 hB
        generalize wc = W7 at *
        clear b12 hq hg12
        go_wp2_with fail
        go_roundw
        case measure => simp [intOf]; omega
        case rel => exact ⟨s, A, q, c, v + 1, a, Ar, nr, cr, HSL.out, by go_num, rfl, hx, by omega, by omega, HUN, hbA, b8, hr, hB6⟩
    · obtain rfl : q = k := by omega
      have HF := hide (HU.out.done hsl)
      have HLE := hide hx.le
      have HRL := hide hx.rl
      clear hsl hx
      go_wp2_with fail
      go_ret2
      exact ⟨A, q, c, rfl, by rw [← HF.out]; exact HRL.out, HLE.out.1, HLE.out.2, hbA⟩
end Go.Proofs.YtjmiaodjapclbaaDoor
