/- The contracts of coinagebase.Natural, Digits. -/
import Derived.Test.YtoeknkakdoemfaaGreatDoorBaseA
namespace Go.Proofs.YtoeknkakdoemfaaGreatDoor
open Go Go.RowKit

set_option maxHeartbeats 1000000 in
theorem base_same (A : Option Addr) (n c : Nat) (xs : List Nat) (A' : Option Addr) (d : Nat) (w : World) (hr : RL w .u32 A n xs) (hN : n ≤ maxLen) (hr' : RL w .u32 A' n xs) :
    Calls Tryz.prog 39 #[.agg #[.slice A n c], .agg #[.slice A' n d]] w fun e w' => e = .returned (.bool true) ∧ Below w.heap.size w w' := by
  unfold maxLen at hN
  go_enter Tryz.func39, Tryz.ntmps39
  go_wp2
  have HB := box2 w (.slice A n c) (.slice A' n d) 24 24
  generalize (w.alloc (Obj.cells #[Value.slice A n c] 24)).alloc (Obj.cells #[Value.slice A' n d] 24) = W at HB ⊢
  obtain ⟨hW, h1, h2, hz⟩ := HB
  have hrW := hr.below hW
  have hrW' := hr'.below hW
  clear hr hr' hz
  go_loopw [5] (fun t wr => ∃ k m : Nat, k ≤ n ∧ t = .int .i64 k ∧ wr = W.drewN m) (fun t _ => n - (intOf t).toNat)
  case atStart => exact ⟨0, 0, by omega, rfl, rfl⟩
  case round =>
    obtain ⟨k, m, hk, rfl, rfl⟩ := hrel
    by_cases hlt : k < n
    · obtain ⟨b, o, x, rfl, hx, hcell⟩ := hrW.at_ hlt
      obtain ⟨b', o', x', rfl, hx', hcell'⟩ := hrW'.at_ hlt
      obtain rfl : x = x' := by rw [hx] at hx'; exact Option.some.inj hx'
      clear hx hx'
      have hcell : (W.drewN m).cell? ⟨b, o + k, none⟩ = some (.int .u32 (x : Int)) := hcell
      have hcell' : (W.drewN m).cell? ⟨b', o' + k, none⟩ = some (.int .u32 (x : Int)) := hcell'
      have h1 : (W.drewN m).cell? ⟨w.heap.size, 0, none⟩ = some (.slice (some ⟨b, o, none⟩) n c) := h1
      have h2 : (W.drewN m).cell? ⟨w.heap.size + 1, 0, none⟩ = some (.slice (some ⟨b', o', none⟩) n d) := h2
      generalize hWe : W.drewN m = wo at *
      have HW := hide hWe
      clear hWe
      go_wp2
      go_quiet (fail)
      go_wp2
      go_roundw
      case rel => exact ⟨k + 1, _, by omega, by go_num, by rw [← HW.out, World.drewN_drewN]⟩
      case measure => simp [intOf]; omega
    · obtain rfl : k = n := by omega
      go_wp2
      go_ret
      exact ⟨rfl, below_drewN hW m⟩

theorem digits_any (A : Option Addr) (n c : Nat) (xs : List Nat) (w : World) (hr : RL w .u32 A n xs) (hn : n ≤ c) (hc : c ≤ maxLen) (hN : n ≤ 900000) (hx : ∀ x ∈ xs, x < 4294967296) :
    Calls Tryz.prog 108 #[.agg #[.slice A n c]] w fun e w' => e = .returned (.int .i64 ((nd (val B9 xs) : Nat) : Int)) ∧ Below w.heap.size w w' := by
  have HX := hide hx
  clear hx
  go_enter Tryz.func108, Tryz.ntmps108
  go_wp2_with fail
  have HB := box1 w (.slice A n c) 24
  generalize w.alloc (Obj.cells #[Value.slice A n c] 24) = W at HB ⊢
  obtain ⟨hW, _, _⟩ := HB
  refine (canon_any A n c xs _ (hr.below hW) hn hc (by omega) HX.out).mono ?_
  rintro e w1 ⟨A1, n1, c1, rfl, hr1, hn1, hc1, hb1⟩
  have hl1 : n1 ≤ n + 1 := dig_len_u32 hr1.len hr.len HX.out
  have hb2 := hW.trans (hb1.mono hW.size)
  clear hr hb1
  by_cases h0 : n1 = 0
  · subst h0
    have HE := hide (show nd (val B9 xs) = 1 from by
      have := (dig_eq_nil B9 (by decide)).1 (List.eq_nil_of_length_eq_zero hr1.len)
      rw [this]; rfl)
    go_wp2
    go_ret
    exact ⟨ret_int (by rw [HE.out]; rfl), hb2⟩
  · obtain ⟨b, o, x, rfl, hx, hcell⟩ := hr1.at_ (j := n1 - 1) (by omega)
    have hxb : x < 1000000000 := dig_lt B9 (by decide) _ x (List.mem_of_getElem? hx)
    have HE := hide (nd_top hr1.len h0 hx)
    have hn0 : ((n1 : Int) == 0) = false := by simp; exact h0
    clear hx hr1
    go_wp2
    go_loop [4, 5] (fun s t => ∃ p q : Nat, s = .int .i64 (p : Int) ∧ t = .int .u32 (q : Int) ∧ q < 4294967296 ∧ p + (dig 10 q).length = nd (val B9 xs) ∧ p ≤ 9000020 ∧ 9 ≤ 9 + p ∧ (dig 10 q).length ≤ 10 ∧ p + (dig 10 q).length ≤ 9000020) (fun _ t => (intOf t).toNat)
    case atStart =>
      have h9 : (dig 10 x).length ≤ 9 := (dig_length_le 10 (by decide) 9 x).2 (by omega)
      exact ⟨9 * (n1 - 1), x, by go_num, rfl, by omega, HE.out.1.symm, by omega, by omega, by omega, by omega⟩
    case round =>
      obtain ⟨p, q, rfl, rfl, hq, hpq, hp, _, hq10, hs⟩ := hrel
      by_cases hq0 : q = 0
      · subst hq0
        have HP := hide hpq
        clear hpq
        go_wp2
        go_ret
        exact ⟨ret_int (by rw [← HP.out, dig_zero]; rfl), hb2⟩
      · have hst := dig_len_step hq0
        have HP := hide (show p + 1 + (dig 10 (q / 10)).length = nd (val B9 xs) from by omega)
        have hs1 : p + 1 ≤ 9000020 := by omega
        have hs2 : (dig 10 (q / 10)).length ≤ 10 ∧ p + 1 + (dig 10 (q / 10)).length ≤ 9000020 := by omega
        have HS := hide hs2
        clear hpq hst hs2 hs hq10
        go_wp2
        go_round
        case rel => exact ⟨p + 1, q / 10, by go_num, by go_num, by omega, HP.out, by omega, by omega, HS.out.1, HS.out.2⟩
        case measure => simp [intOf]; omega
end Go.Proofs.YtoeknkakdoemfaaGreatDoor
