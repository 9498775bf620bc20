/- The contract of the reference's Pow. -/
import Derived.Test.YthkgiobemfnpmaaDoorRMul
import Derived.Test.YthkgiobemfnpmaaDoorRDigits
import Derived.Test.YthkgiobemfnpmaaDoorROf
namespace Go.Proofs.YthkgiobemfnpmaaDoor
open Go Go.RowKit

theorem fin_boxE {w W : World} {g : Nat} {S A : Option Addr} {m d n c u : Nat} {t : TypeId} {er : Int} (hb : Below w.heap.size w W) (b : Box W g #[.slice S m d] t) (hg : w.heap.size ≤ g) (hr : RL W .u32 A n (dig B9 u)) (hn : n ≤ c) (hc : c ≤ maxLen) :
    GivesNE u er w (.returned (.tuple #[.agg #[.slice A n c], .int .i64 er])) (W.setCell ⟨g, 0, none⟩ (.slice A n c)) :=
  ⟨A, n, c, rfl, hr.put b _, hn, hc, hb.setCell hg _⟩
theorem fin_box {w W : World} {g : Nat} {S A : Option Addr} {m d n c u : Nat} {t : TypeId} (hb : Below w.heap.size w W) (b : Box W g #[.slice S m d] t) (hg : w.heap.size ≤ g) (hr : RL W .u32 A n (dig B9 u)) (hn : n ≤ c) (hc : c ≤ maxLen) :
    GivesN u w (.returned (.agg #[.slice A n c])) (W.setCell ⟨g, 0, none⟩ (.slice A n c)) :=
  ⟨A, n, c, rfl, hr.put b _, hn, hc, hb.setCell hg _⟩
theorem nd_pow {u k : Nat} (h : u < 10 ^ k) (hk : 1 ≤ k) : nd u ≤ k := by
  unfold nd
  split
  · exact hk
  · exact (dig_length_le 10 (by decide) k u).2 h
theorem nd_four {u : Nat} (h : u < B9 ^ 4) : nd u ≤ 36 := nd_pow (by rw [pow_B9] at h; exact h) (by decide)
theorem pow_four {u k : Nat} (h : u < B9 ^ 4) : u ^ k < B9 ^ (4 * k + 1) := by
  have h1 : u ^ k ≤ (B9 ^ 4) ^ k := Nat.pow_le_pow_left (Nat.le_of_lt h) k
  rw [← Nat.pow_mul] at h1
  exact Nat.lt_of_le_of_lt h1 (Nat.pow_lt_pow_right (by decide) (by omega))

theorem rpow_range (A : Option Addr) (n c : Nat) (i : Int) (w : World) (hi : i < 0 ∨ 256 < i) :
    Calls Tryd.prog 35 #[.agg #[.slice A n c], .int .i64 i] w (GivesNE 0 2 w) := by
  by_cases h0 : i < 0
  · have hd : decide (i < 0) = true := by simp; omega
    clear hi
    go_enter Tryd.func35, Tryd.ntmps35
    go_wp2
    refine bodyPost_ret (v := .tuple #[.agg #[.slice none 0 0], .int .i64 2]) (by simp [results, Tryd.results35, go_sem]) rfl ?_
    exact ⟨none, 0, 0, rfl, RL.nil_, by omega, by simp [maxLen], ((Below.refl _ _).alloc (Nat.le_refl _) _).alloc (by simp) _⟩
  · have hd : decide (i < 0) = false := by simp; omega
    have hd2 : decide (256 < i) = true := by simp; omega
    clear hi
    go_enter Tryd.func35, Tryd.ntmps35
    go_wp2
    refine bodyPost_ret (v := .tuple #[.agg #[.slice none 0 0], .int .i64 2]) (by simp [results, Tryd.results35, go_sem]) rfl ?_
    exact ⟨none, 0, 0, rfl, RL.nil_, by omega, by simp [maxLen], ((Below.refl _ _).alloc (Nat.le_refl _) _).alloc (by simp) _⟩

theorem rof_one (w : World) : Calls Tryd.prog 49 #[.int .u64 1] w (GivesN 1 w) := rof_any 1 w (by omega)
theorem rmul_g (A : Option Addr) (n c u : Nat) (A' : Option Addr) (m d : Nat) (ys : List Nat) (w : World) (hr : RL w .u32 A n (dig B9 u)) (hn : n ≤ c) (hc : c ≤ maxLen) (hN : n ≤ 100000) (hr' : RL w .u32 A' m ys) (hm : m ≤ d) (hd : d ≤ maxLen) (hM : m ≤ 100000) (hy : ∀ x ∈ ys, x < 4294967296) (v T : Nat) (hv : val B9 ys = v) (hT : u * v = T) :
    Calls Tryd.prog 19 #[.agg #[.slice A n c], .agg #[.slice A' m d]] w (GivesN T w) :=
  rmul_any A n c (dig B9 u) A' m d ys w hr hn hc hN (fun x hx => by have : x < 1000000000 := dig_lt B9 (by decide) _ x hx; omega) hr' hm hd hM hy u v (val_dig B9 (by decide) u) hv T hT

set_option maxHeartbeats 2000000 in
theorem rpow_ok (A : Option Addr) (n c : Nat) (xs : List Nat) (N : Nat) (w : World) (hr : RL w .u32 A n xs) (hn : n ≤ c) (hc : c ≤ maxLen) (hN : n ≤ 100000) (hx : ∀ x ∈ xs, x < 4294967296) (u : Nat) (hu : val B9 xs = u) (hI : N ≤ 80) (h4 : u < B9 ^ 4) (T : Nat) (hT : u ^ N = T) :
    Calls Tryd.prog 35 #[.agg #[.slice A n c], .int .i64 (N : Int)] w (GivesNE T 0 w) := by
  have HX := hide hx
  have HU := hide hu
  have HT := hide hT
  have H4 := hide h4
  obtain ⟨q, hq⟩ : ∃ q, nd u = q := ⟨_, rfl⟩
  have hqb : q ≤ 36 := by rw [← hq]; exact nd_four h4
  have HQ := hide hq
  have hp : q * N ≤ 36 * 80 := Nat.mul_le_mul hqb hI
  have hp1 : (q : Int) * (N : Int) ≤ 2880 := by rw [← Int.natCast_mul]; omega
  have hp0 : 0 ≤ (q : Int) * (N : Int) := by rw [← Int.natCast_mul]; omega
  have hd1 : decide ((N : Int) < 0) = false := by simp
  have hd2 : decide (256 < (N : Int)) = false := by simp; omega
  have hd3 : decide (4000 < (q : Int) * (N : Int)) = false := by simp; omega
  clear hx hu hT h4 hq hp
  go_enter Tryd.func35, Tryd.ntmps35
  go_wp2_with fail
  generalize hW : (w.alloc _).alloc _ = W
  obtain ⟨hbW, b0, b1, hz⟩ := boxes2 hW
  clear hW hz
  refine (rdigits_any A n c xs _ (hr.below hbW) hn hc (by omega) HX.out u HU.out q HQ.out).mono ?_
  rintro e w1 ⟨rfl, hx⟩
  have b0 := b0.below' hx
  have b1 := b1.below' hx
  have hbW := hbW.trans (hx.mono hbW.size)
  clear hx
  go_wp2_with fail
  refine (rof_one _).mono ?_
  rintro e w2 ⟨A2, n2, c2, rfl, r2, hn2, hc2, hx⟩
  have b0 := b0.below' hx
  have b1 := b1.below' hx
  have hbW := hbW.trans (hx.mono hbW.size)
  clear hx
  go_wp2_with fail
  have hg1 := b1.lt
  generalize hW : w2.alloc _ = W2
  obtain ⟨hb2, bo, -⟩ := boxes1 hW
  clear hW
  have b0 := b0.below' hb2
  have b1 := b1.below' hb2
  have r2 := r2.below hb2
  have hbW := hbW.trans (hb2.mono hbW.size)
  clear hb2
  go_loopw [7] (fun i wr => ∃ (k : Nat) (A' : Option Addr) (n' c' : Nat), k ≤ N ∧ i = .int .i64 (k : Int) ∧ Below w.heap.size w wr ∧ Box wr w.heap.size #[.slice A n c] 24 ∧ Box wr (w.heap.size + 1) #[.slice none 0 0] 24 ∧ Box wr w2.heap.size #[.slice A' n' c'] 24 ∧
      RL wr .u32 A' n' (dig B9 (u ^ k)) ∧ n' ≤ c' ∧ c' ≤ maxLen) (fun i _ => N - (intOf i).toNat)
  case atStart => exact ⟨0, A2, n2, c2, by omega, rfl, hbW, b0, b1, bo, by rw [Nat.pow_zero]; exact r2, hn2, hc2⟩
  case round =>
    obtain ⟨k, A', n', c', hk, rfl, hbr, p0, p1, po, hrk, hnk, hck⟩ := hrel
    have q0 := p0.cell
    have q1 := p1.cell
    have f1 := p1.frozen 0
    have qo := po.cell
    have fo := po.frozen 0
    have hra := hr.below hbr
    by_cases hlt : k < N
    · have hlk : n' ≤ 4 * k + 1 := by
        rw [← hrk.len]
        exact (dig_length_le B9 (by decide) _ _).2 (pow_four H4.out)
      have HM := hide (show u ^ k * u = u ^ (k + 1) from (Nat.pow_succ u k).symm)
      clear b0 b1 bo r2 hbW
      go_wp2_with fail
      refine (rmul_g A' n' c' (u ^ k) A n c xs _ hrk hnk hck (by omega) hra hn hc (by omega) HX.out u (u ^ (k + 1)) HU.out HM.out).mono ?_
      rintro e w5 ⟨A5, n5, c5, rfl, r5, hn5, hc5, hx⟩
      have p0 := p0.below' hx
      have p1 := p1.below' hx
      have po := po.below' hx
      have hbr := hbr.trans (hx.mono hbr.size)
      have qo := po.cell
      have fo := po.frozen 0
      have z0 := p0.far (p := ⟨w2.heap.size, 0, none⟩) (by simp; omega) (.slice A5 n5 c5)
      have z1 := p1.far (p := ⟨w2.heap.size, 0, none⟩) (by simp; omega) (.slice A5 n5 c5)
      have zo := po.put (.slice A5 n5 c5)
      have z5 := r5.put (i := 0) po (.slice A5 n5 c5)
      have zb := hbr.setCell (p := ⟨w2.heap.size, 0, none⟩) (by simp; omega) (.slice A5 n5 c5)
      clear hx p0 p1 po q0 q1 f1
      go_wp2
      go_roundw
      case rel => exact ⟨k + 1, A5, n5, c5, by omega, by go_num, zb, z0, z1, zo, z5, hn5, hc5⟩
      case measure => simp [intOf]; omega
    · obtain rfl : k = N := by omega
      have HE := hide (show u ^ k = T from HT.out)
      have hG := fin_boxE (er := 0) hbr p1 (by omega) (u := u ^ k) hrk hnk hck
      have HG := hide hG
      clear b0 b1 bo r2 hbW hG
      go_wp2
      refine bodyPost_ret (v := .tuple #[.agg #[.slice A' n' c'], .int .i64 0]) (by simp [results, Tryd.results35, go_sem, q1]) rfl ?_
      rw [← HE.out]
      exact HG.out
end Go.Proofs.YthkgiobemfnpmaaDoor
