/- The contracts of natural.sign, natural.compare. -/
import Derived.Test.YthkgiobemfnpmaaDoorTrim
import Derived.BigQuiet
import Derived.Deep.QuietTactic
namespace Go.Proofs.YthkgiobemfnpmaaDoor
open Go Go.RowKit

theorem sign_true (w : World) : Calls Tryd.prog 61 #[.bool true] w fun e w' => e = .returned (.int .i64 (-1)) ∧ w' = w := by
  go_enter Tryd.func61, Tryd.ntmps61
  go_wp2
  go_ret
  exact ⟨rfl, rfl⟩
theorem sign_false (w : World) : Calls Tryd.prog 61 #[.bool false] w fun e w' => e = .returned (.int .i64 1) ∧ w' = w := by
  go_enter Tryd.func61, Tryd.ntmps61
  go_wp2
  go_ret
  exact ⟨rfl, rfl⟩

theorem compare_short (A A' : Option Addr) (n m c d : Nat) (u v : Nat) (w : World) (hr : RL w .u32 A n (dig B9 u)) (hr' : RL w .u32 A' m (dig B9 v)) (h : n < m) :
    Calls Tryd.prog 44 #[.slice A n c, .slice A' m d] w fun e w' => e = .returned (.int .i64 (cmpI u v)) ∧ ∃ k, w' = w.drewN k := by
  have HE := hide (cmp_short (b := B9) (u := u) (v := v) (by decide) (by rw [hr.len, hr'.len]; exact h))
  clear hr hr'
  go_enter Tryd.func44, Tryd.ntmps44
  go_wp2_with (go_at_call 61; refine (sign_true _).mono ?_; rintro e w' ⟨rfl, rfl⟩)
  go_ret
  exact ⟨ret_int HE.out.symm, 0, rfl⟩
theorem compare_long (A A' : Option Addr) (n m c d : Nat) (u v : Nat) (w : World) (hr : RL w .u32 A n (dig B9 u)) (hr' : RL w .u32 A' m (dig B9 v)) (h : m < n) :
    Calls Tryd.prog 44 #[.slice A n c, .slice A' m d] w fun e w' => e = .returned (.int .i64 (cmpI u v)) ∧ ∃ k, w' = w.drewN k := by
  have HE := hide (cmp_long (b := B9) (u := u) (v := v) (by decide) (by rw [hr.len, hr'.len]; exact h))
  have hd : decide (n < m) = false := by simp; omega
  clear hr hr'
  go_enter Tryd.func44, Tryd.ntmps44
  go_wp2_with (go_at_call 61; refine (sign_false _).mono ?_; rintro e w' ⟨rfl, rfl⟩)
  go_ret
  exact ⟨ret_int HE.out.symm, 0, rfl⟩

set_option maxHeartbeats 400000 in
theorem compare_same (A A' : Option Addr) (n c d : Nat) (u v : Nat) (w : World) (hr : RL w .u32 A n (dig B9 u)) (hr' : RL w .u32 A' n (dig B9 v)) (hn : n ≤ maxLen) :
    Calls Tryd.prog 44 #[.slice A n c, .slice A' n d] w fun e w' => e = .returned (.int .i64 (cmpI u v)) ∧ ∃ k, w' = w.drewN k := by
  unfold maxLen at hn
  have HL := hide hr.len
  have HL' := hide hr'.len
  go_enter Tryd.func44, Tryd.ntmps44
  go_wp2
  go_loopw [5] (fun t wr => ∃ k m : Nat, k ≤ n ∧ t = .int .i64 ((k : Int) - 1) ∧ (dig B9 u).drop k = (dig B9 v).drop k ∧ wr = w.drewN m) (fun t _ => (intOf t + 1).toNat)
  case atStart => exact ⟨n, 0, by omega, rfl, by rw [List.drop_eq_nil_of_le (by rw [HL.out]; exact Nat.le_refl _), List.drop_eq_nil_of_le (by rw [HL'.out]; exact Nat.le_refl _)], rfl⟩
  case round =>
    obtain ⟨k, m, hk, rfl, ht, rfl⟩ := hrel
    by_cases h0 : k = 0
    · subst h0
      have HE := hide (cmp_same (b := B9) (u := u) (v := v) (by decide) ht)
      clear ht
      go_wp2
      go_ret
      exact ⟨ret_int HE.out.symm, m, rfl⟩
    · obtain ⟨k, rfl⟩ : ∃ j, k = j + 1 := ⟨k - 1, by omega⟩
      obtain ⟨b, o, x, rfl, hx, hcell⟩ := hr.at_ (j := k) (by omega)
      obtain ⟨b', o', x', rfl, hx', hcell'⟩ := hr'.at_ (j := k) (by omega)
      have HT := hide ht
      have HX := hide hx
      have HX' := hide hx'
      clear ht hx hx'
      rw [show (((k + 1 : Nat) : Int) - 1) = (k : Int) from by omega]
      have hcell : (w.drewN m).cell? ⟨b, o + k, none⟩ = some (.int .u32 (x : Int)) := hcell
      have hcell' : (w.drewN m).cell? ⟨b', o' + k, none⟩ = some (.int .u32 (x' : Int)) := hcell'
      generalize hW : w.drewN m = wo at *
      have HW := hide hW
      clear hW
      rcases Nat.lt_trichotomy x x' with hlt | rfl | hlt
      · have HE := hide (cmp_digit_lt (by decide) HX.out HX'.out HT.out hlt)
        have hne : ((x : Int) != x') = true := by simp; omega
        go_wp2
        go_quiet (fail)
        go_wp2
        have hc2 : (wo.drewN nq).cell? ⟨b, o + k, none⟩ = some (.int .u32 (x : Int)) := hcell
        have hc2' : (wo.drewN nq).cell? ⟨b', o' + k, none⟩ = some (.int .u32 (x' : Int)) := hcell'
        generalize hW : wo.drewN nq = wo2 at *
        have HW2 := hide hW
        clear hW hcell hcell'
        go_quiet ((go_at_call 61; exact Calls.quiet_of_same (sign_true _)))
        go_wp2
        go_ret
        exact ⟨ret_int HE.out.symm, _, by rw [← HW2.out, ← HW.out, World.drewN_drewN, World.drewN_drewN]⟩
      · have HE := hide (drop_step HX.out HX'.out HT.out)
        go_wp2
        go_quiet (fail)
        go_wp2
        go_roundw
        case rel => exact ⟨k, _, by omega, rfl, HE.out, by rw [← HW.out, World.drewN_drewN]⟩
        case measure => simp [intOf]
      · have HE := hide (cmp_digit_gt (by decide) HX.out HX'.out HT.out hlt)
        have hne : ((x : Int) != x') = true := by simp; omega
        have hd : decide (x < x') = false := by simp; omega
        go_wp2
        go_quiet (fail)
        go_wp2
        have hc2 : (wo.drewN nq).cell? ⟨b, o + k, none⟩ = some (.int .u32 (x : Int)) := hcell
        have hc2' : (wo.drewN nq).cell? ⟨b', o' + k, none⟩ = some (.int .u32 (x' : Int)) := hcell'
        generalize hW : wo.drewN nq = wo2 at *
        have HW2 := hide hW
        clear hW hcell hcell'
        go_quiet ((go_at_call 61; exact Calls.quiet_of_same (sign_false _)))
        go_wp2
        go_ret
        exact ⟨ret_int HE.out.symm, _, by rw [← HW2.out, ← HW.out, World.drewN_drewN, World.drewN_drewN]⟩
end Go.Proofs.YthkgiobemfnpmaaDoor
