/- CountingUnranks: the walks -/
import Derived.Test.YtjmiaodjapclbaaDoorCLaw
import Derived.Test.YtjmiaodjapclbaaDoorHUnr
import Derived.Test.YtjmiaodjapclbaaDoorHRank
namespace Go.Proofs.YtjmiaodjapclbaaDoor
open Go Go.RowKit

theorem cunr_err (i j : Int) (A : Option Addr) (n c : Nat) (w : World) (h : ¬((0 ≤ i ∧ i ≤ 64) ∧ 0 ≤ j ∧ j ≤ i)) : Calls Tryd.prog 28 #[.int .i64 i, .int .i64 j, .agg #[.slice A n c]] w fun e w' => e = .returned (.tuple #[.slice none 0 0, .int .i64 2]) ∧ Below w.heap.size w w' := by
  by_cases hi : 0 ≤ i ∧ i ≤ 64
  · obtain ⟨m, rfl⟩ : ∃ m : Nat, i = (m : Int) := ⟨i.toNat, by omega⟩
    exact cunr_err2 m j A n c w (by omega) (fun q => h ⟨hi, q⟩)
  · exact cunr_err1 i j A n c w hi
set_option maxHeartbeats 2000000 in
theorem ints_eq (A : Option Addr) (n c : Nat) (xs : List Int) (B : Option Addr) (d : Nat) (w : World) (hx : IL w A n xs) (hy : IL w B n xs) (hn : n ≤ maxLen) :
    Calls Tryd.prog 30 #[.slice A n c, .slice B n d] w fun e w' => e = .returned (.bool true) ∧ Below w.heap.size w w' := by
  unfold maxLen at hn
  have HX := hide hx
  have HY := hide hy
  clear hx hy
  go_enter Tryd.func30, Tryd.ntmps30
  go_wp2_with fail
  go_loopw [5] (fun t wr => ∃ k q : Nat, k ≤ n ∧ t = .int .i64 ((k : Nat) : Int) ∧ wr = w.drewN q) (fun t _ => n - (intOf t).toNat)
  case atStart => exact ⟨0, 0, Nat.zero_le _, rfl, rfl⟩
  case round =>
    obtain ⟨k, q, hk, rfl, rfl⟩ := hrel
    by_cases hlt : k < n
    · obtain ⟨b, o, x, rfl, h1, c1⟩ := (HX.out.drewN q).at_ hlt
      obtain ⟨b', o', y, rfl, h2, c2⟩ := (HY.out.drewN q).at_ hlt
      obtain rfl : x = y := by rw [h1] at h2; exact Option.some.inj h2
      have HB : Hid (Below w.heap.size w (w.drewN q)) := below_drewN (Below.refl _ _) q
      have HQ : Hid (∀ z, (w.drewN q).drewN z = w.drewN (q + z)) := fun z => World.drewN_drewN _ _ _
      have i1 : (0 : Int) ≤ (k : Int) := by omega
      have i2 : (k : Int) < (n : Int) := by omega
      clear h1 h2
      generalize w.drewN q = W at *
      go_wp2_with fail
      go_quiet (fail)
      go_wp2_with fail
      go_roundw
      case rel => exact ⟨k + 1, _, hlt, by go_num, HQ.out _⟩
      case measure => simp [intOf]; omega
    · obtain rfl : k = n := by omega
      go_wp2_with fail
      go_ret
      exact ⟨rfl, below_drewN (Below.refl _ _) q⟩
set_option maxHeartbeats 16000000 in
set_option maxRecDepth 100000 in
theorem cunranks_big (w : World) (i j : Int) (A : Option Addr) (m c : Nat) (HA : Hid (∀ w, Tab w → Calls Tryd.prog 12 #[] w fun e w' => e = .returned (.bool true) ∧ Below w.heap.size w w')) (hT : Tab w) (h : 8 < m) : Calls Tryd.prog 7 #[.int .i64 i, .int .i64 j, .agg #[.slice A m c]] w fun e w' => e = .returned (.bool true) ∧ Below w.heap.size w w' := by
  have HT := hide hT
  clear hT
  have d8 : decide ((8 : Int) < (m : Int)) = true := by simp; omega
  go_enter Tryd.func7, Tryd.ntmps7
  go_wp2_with fail
  generalize hW : w.alloc _ = w0
  obtain ⟨hbA, b5, -⟩ := boxesA1 hW
  clear hW
  with_reducible refine (HA.out _ (HT.out.below hbA)).mono ?_
  rintro e w1 ⟨rfl, hb⟩
  have hbA := hbA.trans (hb.mono hbA.size)
  have b5 := b5.below' hb
  clear hb
  have k5 := b5.cell
  have l5 := b5.lt
  go_wp2_with fail
  clear k5 l5
  with_reducible refine (HA.out _ (HT.out.below hbA)).mono ?_
  rintro e w2 ⟨rfl, hb⟩
  have hbA := hbA.trans (hb.mono hbA.size)
  have b5 := b5.below' hb
  clear hb
  go_wp2_with fail
  go_ret
  exact ⟨rfl, hbA⟩
set_option maxHeartbeats 16000000 in
set_option maxRecDepth 100000 in
theorem cunranks_err (w : World) (i j : Int) (A : Option Addr) (m c : Nat) (HA : Hid (∀ w, Tab w → Calls Tryd.prog 12 #[] w fun e w' => e = .returned (.bool true) ∧ Below w.heap.size w w')) (hT : Tab w) (hm : m ≤ 8) (h : ¬((0 ≤ i ∧ i ≤ 64) ∧ 0 ≤ j ∧ j ≤ i)) : Calls Tryd.prog 7 #[.int .i64 i, .int .i64 j, .agg #[.slice A m c]] w fun e w' => e = .returned (.bool true) ∧ Below w.heap.size w w' := by
  have HT := hide hT
  clear hT
  have d8 : decide ((8 : Int) < (m : Int)) = false := by simp; omega
  have H1 := hide h
  clear h
  go_enter Tryd.func7, Tryd.ntmps7
  go_wp2_with fail
  generalize hW : w.alloc _ = w0
  obtain ⟨hbA, b5, -⟩ := boxesA1 hW
  clear hW
  with_reducible refine (HA.out _ (HT.out.below hbA)).mono ?_
  rintro e w1 ⟨rfl, hb⟩
  have hbA := hbA.trans (hb.mono hbA.size)
  have b5 := b5.below' hb
  clear hb
  have k5 := b5.cell
  have l5 := b5.lt
  go_wp2_with fail
  clear k5 l5
  with_reducible refine (cunr_err i j A m c _ H1.out).mono ?_
  rintro e w2 ⟨rfl, hb⟩
  have hbA := hbA.trans (hb.mono hbA.size)
  have b5 := b5.below' hb
  clear hb
  have k5 := b5.cell
  have l5 := b5.lt
  go_wp2_with fail
  clear k5 l5
  with_reducible refine (hunr_err i j A m c _ H1.out).mono ?_
  rintro e w3 ⟨rfl, hb⟩
  have hbA := hbA.trans (hb.mono hbA.size)
  have b5 := b5.below' hb
  clear hb
  go_wp2_with fail
  with_reducible refine (ints_eq _ 0 _ [] _ _ _ IL.nil_ IL.nil_ (by simp [maxLen])).mono ?_
  rintro e w4 ⟨rfl, hb⟩
  have hbA := hbA.trans (hb.mono hbA.size)
  have b5 := b5.below' hb
  clear hb
  go_wp2_with fail
  go_ret
  exact ⟨rfl, hbA⟩
set_option maxHeartbeats 16000000 in
set_option maxRecDepth 100000 in
theorem cunranks_none (w : World) (n k : Nat) (hn : n ≤ 64) (hk : k ≤ n) (A : Option Addr) (m c : Nat) (u : Nat) (HA : Hid (∀ w, Tab w → Calls Tryd.prog 12 #[] w fun e w' => e = .returned (.bool true) ∧ Below w.heap.size w w')) (hT : Tab w) (hA : Nt w 20 A m c u) (hm : m ≤ 8) (h : cho n k ≤ u) : Calls Tryd.prog 7 #[.int .i64 (n : Int), .int .i64 (k : Int), .agg #[.slice A m c]] w fun e w' => e = .returned (.bool true) ∧ Below w.heap.size w w' := by
  have HT := hide hT
  clear hT
  have d8 : decide ((8 : Int) < (m : Int)) = false := by simp; omega
  have H1 := hide h
  have HN := hide hA
  clear h hA
  go_enter Tryd.func7, Tryd.ntmps7
  go_wp2_with fail
  generalize hW : w.alloc _ = w0
  obtain ⟨hbA, b5, -⟩ := boxesA1 hW
  clear hW
  with_reducible refine (HA.out _ (HT.out.below hbA)).mono ?_
  rintro e w1 ⟨rfl, hb⟩
  have hbA := hbA.trans (hb.mono hbA.size)
  have b5 := b5.below' hb
  clear hb
  have k5 := b5.cell
  have l5 := b5.lt
  go_wp2_with fail
  clear k5 l5
  with_reducible refine (cunr_none n k hn hk A m c u _ (HN.out.below hbA) H1.out).mono ?_
  rintro e w2 ⟨rfl, hb⟩
  have hbA := hbA.trans (hb.mono hbA.size)
  have b5 := b5.below' hb
  clear hb
  have k5 := b5.cell
  have l5 := b5.lt
  go_wp2_with fail
  clear k5 l5
  with_reducible refine (hunr_none n k hn hk A m c u _ (HN.out.below hbA) H1.out).mono ?_
  rintro e w3 ⟨rfl, hb⟩
  have hbA := hbA.trans (hb.mono hbA.size)
  have b5 := b5.below' hb
  clear hb
  go_wp2_with fail
  with_reducible refine (ints_eq _ 0 _ [] _ _ _ IL.nil_ IL.nil_ (by simp [maxLen])).mono ?_
  rintro e w4 ⟨rfl, hb⟩
  have hbA := hbA.trans (hb.mono hbA.size)
  have b5 := b5.below' hb
  clear hb
  go_wp2_with fail
  go_ret
  exact ⟨rfl, hbA⟩
set_option maxHeartbeats 16000000 in
set_option maxRecDepth 100000 in
theorem cunranks_ok (w : World) (n k : Nat) (hn : n ≤ 64) (hk : k ≤ n) (A : Option Addr) (m c : Nat) (u : Nat) (HA : Hid (∀ w, Tab w → Calls Tryd.prog 12 #[] w fun e w' => e = .returned (.bool true) ∧ Below w.heap.size w w')) (hT : Tab w) (hA : Nt w 20 A m c u) (hm : m ≤ 8) (h : u < cho n k) : Calls Tryd.prog 7 #[.int .i64 (n : Int), .int .i64 (k : Int), .agg #[.slice A m c]] w fun e w' => e = .returned (.bool true) ∧ Below w.heap.size w w' := by
  have HT := hide hT
  clear hT
  have d8 : decide ((8 : Int) < (m : Int)) = false := by simp; omega
  have H1 := hide h
  have HN := hide hA
  obtain ⟨U, hU⟩ : ∃ U, un n 0 k u = U := ⟨_, rfl⟩
  have HU := hide hU
  clear h hA hU
  go_enter Tryd.func7, Tryd.ntmps7
  go_wp2_with fail
  generalize hW : w.alloc _ = w0
  obtain ⟨hbA, b5, -⟩ := boxesA1 hW
  clear hW
  with_reducible refine (HA.out _ (HT.out.below hbA)).mono ?_
  rintro e w1 ⟨rfl, hb⟩
  have hbA := hbA.trans (hb.mono hbA.size)
  have b5 := b5.below' hb
  clear hb
  have k5 := b5.cell
  have l5 := b5.lt
  go_wp2_with fail
  clear k5 l5
  with_reducible refine (cunr_ok n k hn hk A m c u _ (HN.out.below hbA) H1.out U HU.out).mono ?_
  rintro e w2 ⟨A1, m1, c1, rfl, hx1, hm1, hc1, hb⟩
  have hbA := hbA.trans (hb.mono hbA.size)
  have b5 := b5.below' hb
  clear hb
  have k5 := b5.cell
  have l5 := b5.lt
  go_wp2_with fail
  clear k5 l5
  with_reducible refine (hunr_ok n k hn hk A m c u _ (HN.out.below hbA) H1.out U HU.out).mono ?_
  rintro e w3 ⟨A2, m2, c2, rfl, hx2, hm2, hc2, hb⟩
  have hbA := hbA.trans (hb.mono hbA.size)
  have b5 := b5.below' hb
  have hx1 := hx1.below hb
  clear hb
  go_wp2_with fail
  obtain rfl : m1 = m2 := hx1.len.symm.trans hx2.len
  with_reducible refine (ints_eq _ m1 _ _ _ _ _ hx1.il hx2.il (Nat.le_trans hm1 hc1)).mono ?_
  rintro e w4 ⟨rfl, hb⟩
  have hbA := hbA.trans (hb.mono hbA.size)
  have b5 := b5.below' hb
  have hx1 := hx1.below hb
  have hx2 := hx2.below hb
  clear hb
  go_wp2_with fail
  go_ret
  exact ⟨rfl, hbA⟩
theorem cunranks_all (HA : Hid (∀ w, Tab w → Calls Tryd.prog 12 #[] w fun e w' => e = .returned (.bool true) ∧ Below w.heap.size w w')) (i j : Int) (A : Option Addr) (m c : Nat) (xs : List Nat) (w : World) (hT : Tab w) (hr : RL w .u32 A m xs) (hmc : m ≤ c) (hc : c ≤ maxLen) (hx : ∀ x ∈ xs, x < 4294967296) : Calls Tryd.prog 7 #[.int .i64 i, .int .i64 j, .agg #[.slice A m c]] w fun e w' => e = .returned (.bool true) ∧ Below w.heap.size w w' := by
  by_cases hm : m ≤ 8
  · by_cases h : (0 ≤ i ∧ i ≤ 64) ∧ 0 ≤ j ∧ j ≤ i
    · obtain ⟨n, rfl⟩ : ∃ n : Nat, i = (n : Int) := ⟨i.toNat, by omega⟩
      obtain ⟨k, rfl⟩ : ∃ k : Nat, j = (k : Int) := ⟨j.toNat, by omega⟩
      have hA : Nt w 20 A m c (val B9 xs) := ⟨xs, hr, hmc, hc, by omega, hx, rfl⟩
      by_cases hu : val B9 xs < cho n k
      · exact cunranks_ok w n k (by omega) (by omega) A m c _ HA hT hA hm hu
      · exact cunranks_none w n k (by omega) (by omega) A m c _ HA hT hA hm (by omega)
    · exact cunranks_err w i j A m c HA hT hm h
  · exact cunranks_big w i j A m c HA hT (by omega)
end Go.Proofs.YtjmiaodjapclbaaDoor
