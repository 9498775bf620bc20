/- same (layer 3), texts -/
import Derived.Test.YtjmiaodjapclbaaDoorCSet
import Derived.Test.YtjmiaodjapclbaaDoorCPart
import Derived.Test.YtjmiaodjapclbaaDoorCCho
import Derived.IntWalk
namespace Go.Proofs.YtjmiaodjapclbaaDoor
open Go Go.RowKit

theorem asc7 : strN (asc 7) = ⟨#[55]⟩ := by rw [asc_small (by decide)]; rfl
theorem asc2 : strN (asc 2) = ⟨#[50]⟩ := by rw [asc_small (by decide)]; rfl
theorem asc20 : strN (asc 20) = ⟨#[50, 48]⟩ := by rw [asc_eq (n := 1) (by decide) (by decide)]; decide +kernel
theorem ctext {w : World} {A : Option Addr} {n c u : Nat} (h : Cn w A n c u) (hu : u < B9 ^ 100) (hT : Tab w) (s : ByteArray) (hs : strN (asc u) = s) : Calls Tryd.prog 39 #[.agg #[.slice A n c]] w fun e w' => e = .returned (.string s) ∧ Below w.heap.size w w' :=
  text_d A n c u w h.1 h.2.1 h.2.2 (lenB h.1 hu (by omega)) hT s hs
/-- both results are the same -/
theorem csame {w : World} {A : Option Addr} {n c : Nat} {A' : Option Addr} {m d u : Nat} (h : Cn w A n c u) (h' : Cn w A' m d u) (e : Int) : Calls Tryd.prog 17 #[.agg #[.slice A n c], .int .i64 e, .agg #[.slice A' m d], .int .i64 e] w fun r w' => r = .returned (.bool true) ∧ Below w.heap.size w w' := by
  obtain rfl : n = m := h.1.len.symm.trans h'.1.len
  have HH := hide h
  have HH' := hide h'
  have hm : n ≤ maxLen := Nat.le_trans h.2.1 h.2.2
  have HM := hide hm
  clear h h' hm
  go_enter Tryd.func17, Tryd.ntmps17
  go_wp2_with fail
  generalize hW : (w.alloc _).alloc _ = W
  obtain ⟨hb, -, -, -⟩ := boxesA2 hW
  clear hW
  refine (base_same A n c _ A' d W (HH.out.below hb).1 HM.out (HH'.out.below hb).1).mono ?_
  rintro e w1 ⟨rfl, hb1⟩
  have hbA := hb.trans (hb1.mono hb.size)
  go_wp2_with fail
  go_ret
  exact ⟨rfl, hbA⟩
theorem cbase {w : World} {A : Option Addr} {n c : Nat} {A' : Option Addr} {m d u : Nat} (h : Cn w A n c u) (h' : Cn w A' m d u) : Calls Tryd.prog 34 #[.agg #[.slice A n c], .agg #[.slice A' m d]] w fun r w' => r = .returned (.bool true) ∧ Below w.heap.size w w' := by
  obtain rfl : n = m := h.1.len.symm.trans h'.1.len
  exact base_same A n c _ A' d w h.1 (Nat.le_trans h.2.1 h.2.2) h'.1
theorem cbin_i (i k : Int) (n : Nat) (hi : i = (n : Int)) (hn : n ≤ 300) (w : World) (T : Nat) (hT : choI n k = T) : Calls Tryd.prog 18 #[.int .i64 i, .int .i64 k] w (GivesNE T 0 w) := by
  subst hi
  exact cbin_ok n k hn w T hT
theorem cstir_i (i k : Int) (n : Nat) (hi : i = (n : Int)) (hn : n ≤ 64) (w : World) (T : Nat) (hT : stI n k = T) : Calls Tryd.prog 20 #[.int .i64 i, .int .i64 k] w (GivesNE T 0 w) := by
  subst hi
  exact cstir_ok n k hn w T hT
end Go.Proofs.YtjmiaodjapclbaaDoor
