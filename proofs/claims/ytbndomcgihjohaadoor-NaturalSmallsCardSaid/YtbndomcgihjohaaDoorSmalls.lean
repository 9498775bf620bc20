/- The law of the naturals that fit into machine words. -/
import Derived.Test.YtbndomcgihjohaaDoorAwake
namespace Go.Proofs.YtbndomcgihjohaaDoor
open Go Go.RowKit

theorem of_i (x : Int) (n : Nat) (e : (n : Int) = x) (w : World) (hn : n < 18446744073709551616) : Calls Tryd.prog 29 #[.int .u64 x] w (GivesN n w) := by
  subst e; exact of_any n w hn
theorem small_i (x : Int) (A : Option Addr) (n c u : Nat) (w : World) (e : (u : Int) = x) (hr : RL w .u32 A n (dig B9 u)) (hn : n ≤ c) (hc : c ≤ maxLen) (h : u < 18446744073709551616) :
    Calls Tryd.prog 30 #[.agg #[.slice A n c]] w fun e w' => e = .returned (.tuple #[.int .u64 x, .bool true]) ∧ Below w.heap.size w w' := by
  subst e
  exact small_ok A n c u w hr hn hc (Nat.le_trans (len_le (k := 3) hr.len (Nat.lt_trans h (by decide))) (by decide)) h
theorem len64_of {w : World} {A : Option Addr} {n u : Nat} (h : RL w .u32 A n (dig B9 u)) (hu : u < 18446744073709551616) : n ≤ 900000 :=
  Nat.le_trans (len_le (k := 3) h.len (Nat.lt_trans hu (by decide))) (by decide)

set_option maxHeartbeats 4000000 in
set_option maxRecDepth 100000 in
theorem smalls_any (N M : Nat) (x y : Int) (hx0 : (N : Int) = x) (hy0 : (M : Int) = y) (w : World) (hN : N < 18446744073709551616) (hM : M < 18446744073709551616) (hT : Tab w) (r : Int) (b1 b2 b3 : Bool) (hr : cmpI N M = r)
    (hb : (r = -1 ∧ b1 = true ∧ b2 = false) ∨ (r = 0 ∧ b1 = false ∧ b2 = true) ∨ (r = 1 ∧ b1 = false ∧ b2 = false))
    (h1 : decide (x < y) = b1) (h2 : (x == y) = b2) (h3 : (y == 0) = b3) :
    Calls Tryd.prog 6 #[.int .u64 x, .int .u64 y] w fun e w' => e = .returned (.bool true) ∧ Below w.heap.size w w' := by
  have r0 : 0 ≤ x := by omega
  have r1 : x < 18446744073709551616 := by omega
  have r2 : 0 ≤ y := by omega
  have r3 : y < 18446744073709551616 := by omega
  have HX := hide hx0
  have HY := hide hy0
  clear hx0 hy0
  go_enter Tryd.func6, Tryd.ntmps6
  go_wp2_with fail
  refine (awake_any _ hT).mono ?_
  rintro e w1 ⟨rfl, C1⟩
  go_wp2_with fail
  refine (of_i x N HX.out _ hN).mono ?_
  rintro e w2 ⟨Aa, na, ca, rfl, ha, hna, hca, hb2⟩
  have C2 := C1.trans (hb2.mono C1.size)
  clear hb2 C1
  go_wp2_with fail
  refine (of_i y M HY.out _ hM).mono ?_
  rintro e w3 ⟨Ab, nb, cb, rfl, hbb, hnb, hcb, hb2⟩
  have C3 := C2.trans (hb2.mono C2.size)
  have ha := ha.below hb2
  clear hb2 C2
  go_wp2_with fail
  generalize hW : (w3.alloc _).alloc _ = W3
  obtain ⟨hb2, e1, e2, e3⟩ := box2e hW
  clear hW
  have KA : Hid (∀ w', Below W3.heap.size W3 w' → w'.cell? ⟨w3.heap.size, 0, none⟩ = some (.slice Aa na ca)) := fun w' hb => (hb.cell (by have := hb2.size; simp; omega)).trans e1
  have KB : Hid (∀ w', Below W3.heap.size W3 w' → w'.cell? ⟨w3.heap.size + 1, 0, none⟩ = some (.slice Ab nb cb)) := fun w' hb => (hb.cell (by have := hb2.size; simp; omega)).trans e2
  have C4 := C3.trans (hb2.mono C3.size)
  have ha := ha.below hb2
  have hbb := hbb.below hb2
  clear hb2 C3 e1 e2
  have hna9 : na ≤ 900000 := Nat.le_trans (len_le (k := 3) ha.len (Nat.lt_trans hN (by decide))) (by decide)
  have hnb9 : nb ≤ 900000 := Nat.le_trans (len_le (k := 3) hbb.len (Nat.lt_trans hM (by decide))) (by decide)
  refine (small_i x Aa na ca N _ HX.out ha hna hca hN).mono ?_
  rintro e w4 ⟨rfl, D4⟩
  have hqa := KA.out w4 D4
  have hqb := KB.out w4 D4
  rcases hb with ⟨rfl, rfl, rfl⟩ | ⟨rfl, rfl, rfl⟩ | ⟨rfl, rfl, rfl⟩
  all_goals
    go_wp2_with fail
    have ha4 := ha.below D4
    have hb4 := hbb.below D4
    refine (cmp_d Aa na ca N Ab nb cb M _ ha4 hna hca hna9 hb4 hnb hcb hnb9 _ hr).mono ?_
    rintro e w5 ⟨rfl, hx⟩
    have D5 := D4.trans (hx.mono D4.size)
    clear hx ha4 hb4 hqa hqb
    have hqa := KA.out w5 D5
    have hqb := KB.out w5 D5
    go_wp2_with fail
    have ha4 := ha.below D5
    have hb4 := hbb.below D5
    refine (cmp_d Aa na ca N Ab nb cb M _ ha4 hna hca hna9 hb4 hnb hcb hnb9 _ hr).mono ?_
    rintro e w6 ⟨rfl, hx⟩
    have D6 := D5.trans (hx.mono D5.size)
    clear hx ha4 hb4 hqa hqb
    go_wp2_with fail
    clear hr h1 h2 D4 D5
    refine (of_i (x / 2) (N / 2) (by have := HX.out; omega) _ (by omega)).mono ?_
    rintro e w7 ⟨A1, n1, c1, rfl, hr1, hn1, hc1, hx⟩
    have D7 := D6.trans (hx.mono D6.size)
    clear hx D6
    go_wp2_with fail
    refine (of_i (y / 2) (M / 2) (by have := HY.out; omega) _ (by omega)).mono ?_
    rintro e w8 ⟨A2, n2, c2, rfl, hr2, hn2, hc2, hx⟩
    have D8 := D7.trans (hx.mono D7.size)
    have hr1 := hr1.below hx
    clear hx D7
    go_wp2_with fail
    refine (add_d A1 n1 c1 (N / 2) A2 n2 c2 (M / 2) _ hr1 hn1 hc1 (len64_of hr1 (by omega)) hr2 hn2 hc2 (len64_of hr2 (by omega)) _ rfl).mono ?_
    rintro e w9 ⟨A3, n3, c3, rfl, hr3, hn3, hc3, hx⟩
    have D9 := D8.trans (hx.mono D8.size)
    clear hx D8 hr1 hr2 hn1 hn2 hc1 hc2
    go_wp2_with fail
    refine (small_i (x / 2 + y / 2) A3 n3 c3 (N / 2 + M / 2) _ (by have := HX.out; have := HY.out; omega) hr3 hn3 hc3 (by omega)).mono ?_
    rintro e w10 ⟨rfl, hx⟩
    have D10 := D9.trans (hx.mono D9.size)
    clear hx D9 hr3 hn3 hc3
    go_wp2_with fail
    have hpn : N / 4294967296 ≤ 4294967295 := by omega
    have hpm : M / 4294967296 ≤ 4294967295 := by omega
    have hp : Hid (N / 4294967296 * (M / 4294967296) ≤ 4294967295 * 4294967295) := Nat.mul_le_mul hpn hpm
    clear hpn hpm
    refine (of_i (x / 4294967296) (N / 4294967296) (by have := HX.out; omega) _ (by omega)).mono ?_
    rintro e w11 ⟨A4, n4, c4, rfl, hr4, hn4, hc4, hx⟩
    have D11 := D10.trans (hx.mono D10.size)
    clear hx D10
    go_wp2_with fail
    refine (of_i (y / 4294967296) (M / 4294967296) (by have := HY.out; omega) _ (by omega)).mono ?_
    rintro e w12 ⟨A5, n5, c5, rfl, hr5, hn5, hc5, hx⟩
    have D12 := D11.trans (hx.mono D11.size)
    have hr4 := hr4.below hx
    clear hx D11
    go_wp2_with fail
    refine (mul_d A4 n4 c4 (N / 4294967296) A5 n5 c5 (M / 4294967296) _ hr4 hn4 hc4 (len64_of hr4 (by omega)) hr5 hn5 hc5 (len64_of hr5 (by omega)) _ rfl).mono ?_
    rintro e w13 ⟨A6, n6, c6, rfl, hr6, hn6, hc6, hx⟩
    have D13 := D12.trans (hx.mono D12.size)
    clear hx D12 hr4 hr5 hn4 hn5 hc4 hc5
    go_wp2_with fail
    refine (small_i (x / 4294967296 * (y / 4294967296)) A6 n6 c6 _ _ (by rw [← HX.out, ← HY.out, Int.natCast_mul]; rfl) hr6 hn6 hc6 (Nat.lt_of_le_of_lt hp.out (by decide))).mono ?_
    rintro e w14 ⟨rfl, hx⟩
    have D14 := D13.trans (hx.mono D13.size)
    clear hx D13 hr6 hn6 hc6
    have q1 : IntKind.u64.wrap (x / 2 + y / 2) = x / 2 + y / 2 := IntWalk.u64_in _ (by omega)
    have q2 : IntKind.u64.wrap (x / 4294967296 * (y / 4294967296)) = x / 4294967296 * (y / 4294967296) := by
      have hpp : x / 4294967296 * (y / 4294967296) = ((N / 4294967296 * (M / 4294967296) : Nat) : Int) := by rw [← HX.out, ← HY.out, Int.natCast_mul]; rfl
      rw [hpp]
      exact IntWalk.u64_in _ (by have := hp.out; omega)
    clear hp
    have hqa := KA.out w14 D14
    have hqb := KB.out w14 D14
    have hM0 : b3 = false → M ≠ 0 := by
      intro hf h0
      subst hf
      have := HY.out
      rw [h0] at this
      rw [← this] at h3
      exact absurd h3 (by decide)
    cases b3
    · have hM1 := hM0 rfl
      clear hM0
      go_wp2_with fail
      have ha4 := ha.below D14
      have hb4 := hbb.below D14
      refine (divMod_d Aa na ca N Ab nb cb M _ ha4 hna hca hna9 hb4 hnb hcb hnb9 _ _ hM1 rfl rfl).mono ?_
      rintro e w15 ⟨Aq, nq, cq, Ar, nr, cr, rfl, hrq, hnq, hcq, hrr, hnr, hcr, hx⟩
      have D15 := D14.trans (hx.mono D14.size)
      clear hx D14 ha4 hb4 hqa hqb
      go_wp2_with fail
      generalize hW : (w15.alloc _).alloc _ = W15
      obtain ⟨hx, e1, e2, e3⟩ := box2e hW
      clear hW
      have D16 := D15.trans (hx.mono D15.size)
      have hrq := hrq.below hx
      have hrr := hrr.below hx
      have hdq : N / M < 18446744073709551616 := Nat.lt_of_le_of_lt (Nat.div_le_self N M) hN
      have hdr : N % M < 18446744073709551616 := Nat.lt_of_le_of_lt (Nat.mod_le N M) hN
      have eq1 : ((N / M : Nat) : Int) = x / y := by rw [← HX.out, ← HY.out]; rfl
      have er1 : ((N % M : Nat) : Int) = x % y := by rw [← HX.out, ← HY.out]; rfl
      have HQ := hide eq1
      have HR := hide er1
      clear eq1 er1 D15
      refine (small_i (x / y) Aq nq cq (N / M) _ HQ.out hrq hnq hcq hdq).mono ?_
      rintro e w17 ⟨rfl, hx2⟩
      have D17 := D16.trans (hx2.mono D16.size)
      have hqr : w17.cell? ⟨w15.heap.size + 1, 0, none⟩ = some (.slice Ar nr cr) := (hx2.cell (by simp; omega)).trans e2
      have hrr := hrr.below hx2
      clear hx hx2 e1 e2 e3 D16
      go_wp2_with fail
      refine (small_i (x % y) Ar nr cr (N % M) _ HR.out hrr hnr hcr hdr).mono ?_
      rintro e w18 ⟨rfl, hx2⟩
      have D18 := D17.trans (hx2.mono D17.size)
      clear hx2 D17
      have hy0 : ¬ y = 0 := by have := HY.out; omega
      have D := C4.trans (D18.mono C4.size)
      go_wp2_with fail
      go_ret
      exact ⟨rfl, D⟩
    · clear hM0
      go_wp2_with fail
      have D := C4.trans (D14.mono C4.size)
      go_ret
      exact ⟨rfl, D⟩
end Go.Proofs.YtbndomcgihjohaaDoor
