/- The contract of the reference's Digits. -/
import Derived.Test.YthkgiobemfnpmaaDoorRNorm
import Derived.Test.YthkgiobemfnpmaaDoorBox
import Derived.Test.YthkgiobemfnpmaaDoorSimple
namespace Go.Proofs.YthkgiobemfnpmaaDoor
open Go Go.RowKit

set_option maxHeartbeats 2000000 in
theorem rdigits_any (A : Option Addr) (n c : Nat) (xs : List Nat) (w : World) (hr : RL w .u32 A n xs) (hn : n ≤ c) (hc : c ≤ maxLen) (hN : n ≤ 100000) (hx : ∀ x ∈ xs, x < 4294967296) (u : Nat) (hu : val B9 xs = u) (r : Nat) (hd : nd u = r) :
    Calls Tryd.prog 25 #[.agg #[.slice A n c]] w fun e w' => e = .returned (.int .i64 (r : Int)) ∧ Below w.heap.size w w' := by
  have HX := hide hx
  have HU := hide hu
  have HL := hide hr.len
  clear hx hu
  have HD := hide hd
  clear hd
  go_enter Tryd.func25, Tryd.ntmps25
  go_wp2_with fail
  generalize hW : w.alloc _ = W
  obtain ⟨hbW, b0, hz⟩ := boxes1 hW
  clear hW
  refine (rnorm_any A n c xs _ (hr.below hbW) hn hc (by omega) HX.out u HU.out).mono ?_
  rintro e w1 ⟨A1, n1, c1, rfl, r1, hn1, hc1, hb1⟩
  have hl1 : n1 ≤ n + 1 := dig_len_u32 (n := n1) (m := n) (xs := xs) (by rw [HU.out]; exact r1.len) HL.out HX.out
  have b0 := b0.below' hb1
  have hbA := hbW.trans (hb1.mono hbW.size)
  have f0 := b0.frozen 0
  have g0 := b0.cell
  have r4 : RL (w1.setCell ⟨w.heap.size, 0, none⟩ (.slice A1 n1 c1)) .u32 A1 n1 (dig B9 u) := r1.put b0 _
  have d0 : Box (w1.setCell ⟨w.heap.size, 0, none⟩ (.slice A1 n1 c1)) w.heap.size #[.slice A1 n1 c1] 24 := b0.put _
  have hb4 : Below w.heap.size w (w1.setCell ⟨w.heap.size, 0, none⟩ (.slice A1 n1 c1)) := hbA.setCell (by simp) _
  clear hr hb1 hbW r1 b0 hbA
  have k0 := d0.cell
  have HR4 := hide r4.len
  have hc1' : n1 ≤ maxLen := Nat.le_trans hn1 hc1
  unfold maxLen at hc1'
  by_cases h0 : n1 = 0
  · subst h0
    have HE := hide (show r = 1 from by
      have := (dig_eq_nil B9 (by decide)).1 (List.eq_nil_of_length_eq_zero r4.len)
      rw [← HD.out, this]; rfl)
    go_wp2
    go_ret
    exact ⟨ret_int (by rw [HE.out]; rfl), hb4⟩
  · obtain ⟨b, o, x, rfl, hx, hcell⟩ := r4.at_ (j := n1 - 1) (by omega)
    have hxb : x < 1000000000 := dig_lt B9 (by decide) _ x (List.mem_of_getElem? hx)
    have HE := hide (show nd u = 9 * (n1 - 1) + (dig 10 x).length ∧ x ≠ 0 from nd_top HR4.out h0 hx)
    have hn0 : ((n1 : Int) == 0) = false := by simp; exact h0
    have hcell0 : w1.cell? ⟨b, o + (n1 - 1), none⟩ = some (.int .u32 (x : Int)) := by
      have hne : b ≠ w.heap.size := by
        rintro rfl
        have h1 := d0.at_ (o + (n1 - 1))
        rw [hcell] at h1
        exact no_int1 _ _ h1.symm
      exact (World.cell?_of_block (a := ⟨b, o + (n1 - 1), none⟩) (Below.heap_setCell w1 ⟨w.heap.size, 0, none⟩ (.slice (some ⟨b, o, none⟩) n1 c1) b hne)).symm.trans hcell
    clear hx r4
    go_wp2
    generalize w1.setCell (⟨w.heap.size, 0, none⟩ : Addr) (.slice (some ⟨b, o, none⟩) n1 c1) = W4 at *
    go_loop [3, 4] (fun s t => ∃ p q : Nat, s = .int .i64 (p : Int) ∧ t = .int .u32 (q : Int) ∧ q < 4294967296 ∧ p + (dig 10 q).length = nd u ∧ p ≤ 9000020 ∧ 9 ≤ 9 + p ∧ (dig 10 q).length ≤ 10 ∧ p + (dig 10 q).length ≤ 9000020) (fun _ t => (intOf t).toNat)
    case atStart =>
      have h9 : (dig 10 x).length ≤ 9 := (dig_length_le 10 (by decide) 9 x).2 (by omega)
      exact ⟨9 * (n1 - 1), x, by go_num, rfl, by omega, HE.out.1.symm, by omega, by omega, by omega, by omega⟩
    case round =>
      obtain ⟨p, q, rfl, rfl, hq, hpq, hp, _, hq10, hs⟩ := hrel
      by_cases hq0 : q = 0
      · subst hq0
        have HP := hide hpq
        clear hpq
        go_wp2
        go_ret
        exact ⟨ret_int (by rw [← HD.out, ← HP.out, dig_zero]; rfl), hb4⟩
      · have hst := dig_len_step hq0
        have HP := hide (show p + 1 + (dig 10 (q / 10)).length = nd u from by omega)
        have hs1 : p + 1 ≤ 9000020 := by omega
        have HS := hide (show (dig 10 (q / 10)).length ≤ 10 ∧ p + 1 + (dig 10 (q / 10)).length ≤ 9000020 from by omega)
        clear hpq hst hs hq10
        go_wp2
        go_round
        case rel => exact ⟨p + 1, q / 10, by go_num, by go_num, by omega, HP.out, by omega, by omega, HS.out.1, HS.out.2⟩
        case measure => simp [intOf]; omega
end Go.Proofs.YthkgiobemfnpmaaDoor
