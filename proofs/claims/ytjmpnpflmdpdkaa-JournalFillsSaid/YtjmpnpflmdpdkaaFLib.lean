/- bytes.Clone, slices.Grow of nil, slices.Concat of two. -/
import Derived.Test.YtjmpnpflmdpdkaaFNum
import Derived.Lib.AppendZerosOnto
import Derived.Lib.SliceRun
import Derived.Lib.Walk
namespace Go.Proofs.Ytjmpnpflmdpdkaa
open Go Go.RowKit FM

/-- a row of bytes of the call's own, from base on -/
def RB (w : World) (base : Nat) (A : Option Addr) (n c : Nat) (xs : List Nat) : Prop := Row w base .u8 5 A n c xs
theorem RB.low {w : World} {base b' : Nat} {A : Option Addr} {n c : Nat} {xs : List Nat} (h : RB w base A n c xs) (hb : b' ≤ base) : RB w b' A n c xs := by
  refine ⟨h.1, ?_⟩
  rcases h.2 with h0 | ⟨g, cap, cur, hv, hg, r⟩
  · exact .inl h0
  · exact .inr ⟨g, cap, cur, hv, by omega, r⟩
theorem RB.below {w w' : World} {base : Nat} {A : Option Addr} {n c : Nat} {xs : List Nat} (h : RB w base A n c xs) (hb : Below w.heap.size w w') : RB w' base A n c xs := Row.below h hb (Nat.le_refl _)
theorem RB.br {w : World} {base : Nat} {A : Option Addr} {n c : Nat} {xs : List Nat} (h : RB w base A n c xs) (hb : By xs) : BR w A n xs := ⟨Row.rl h, hb⟩
theorem RB.new (w : World) {base : Nat} (hb : base ≤ w.heap.size) : RB (w.alloc (.cells #[] 5)) base (some ⟨w.heap.size, 0, none⟩) 0 0 [] := Row.new w .u8 5 hb
theorem RB.lit (w : World) {base : Nat} (hb : base ≤ w.heap.size) (xs : List Nat) {n : Nat} (hn : xs.length = n) (hm : n ≤ maxLen) : RB (w.alloc (.cells (cells .u8 xs).toArray 5)) base (some ⟨w.heap.size, 0, none⟩) n n xs :=
  (Own.new w .u8 5 xs).row hb (by omega) hn
theorem OwnB.rb {w : World} {base g : Nat} {xs : List Nat} (h : OwnB w base g xs) {n : Nat} (hn : xs.length = n) (hm : n ≤ maxLen) : RB w base (some ⟨g, 0, none⟩) n n xs := h.1.row h.2 (by omega) hn
set_option maxHeartbeats 1000000 in
theorem clone_any (p : Addr) (n c : Nat) (xs : List Nat) (w : World) (hx : BR w (some p) n xs) (hn : n ≤ 1000000) :
    Calls Try.prog 33 #[.slice (some p) n c] w fun e w' => ∃ A' c', e = .returned (.slice A' n c') ∧ RB w' w.heap.size A' n c' xs ∧ Below w.heap.size w w' := by
  have HX := hide hx
  clear hx
  have q22 : ∀ (w : World) (a : Option Addr) (n c n' c' : Nat), (binOp .eql 31 (.slice a n c) (.slice none n' c')).run Try.prog w = .ok (.bool a.isNone) w := fun w a n c n' c' => Lib.run_eql_slice_nil w _ _ a n c n' c' Try.underlying31
  go_enter Try.func33, Try.ntmps33
  go_wp2_with (at_builtin; refine wpList_append_rl _ rfl _ _ 31 rfl w.heap.size 5 .u8 1 Try.underlying31 u8_info _ _ _ [] rfl (RB.new w (Nat.le_refl _)) (some p) n c xs rfl (HX.out.1.below ((Below.refl _ _).alloc (Nat.le_refl _) _)) (by omega) n (by omega) (by omega) (by simp) ?_; intro A2 c2 w1 hrow1 hbel1 hsz1)
  go_ret
  exact ⟨A2, c2, rfl, hrow1, ((Below.refl _ _).alloc (Nat.le_refl _) _).trans hbel1⟩
theorem clone_nil (n c : Nat) (w : World) :
    Calls Try.prog 33 #[.slice none n c] w fun e w' => e = .returned (.slice none 0 0) ∧ w = w' := by
  have q22 : ∀ (w : World) (a : Option Addr) (n c n' c' : Nat), (binOp .eql 31 (.slice a n c) (.slice none n' c')).run Try.prog w = .ok (.bool a.isNone) w := fun w a n c n' c' => Lib.run_eql_slice_nil w _ _ a n c n' c' Try.underlying31
  go_enter Try.func33, Try.ntmps33
  go_wp2_with fail
  go_ret
  exact ⟨rfl, rfl⟩
/-- Grow of nil: a new row with room, and nothing in it -/
theorem zrow (w : World) (G k : Nat) (hk : k ≤ G) (hG : G ≤ maxLen) {base : Nat} (hb : base ≤ w.heap.size) :
    RB (w.drew.alloc (.cells ((([] : List Value).toArray ++ Builtin.zeroCells (Value.int .u8 0).cells k) ++ Builtin.zeroCells (Value.int .u8 0).cells (G - k)) 5)) base (some ⟨w.heap.size, 0, none⟩) 0 G [] := by
  refine World.ownsRow_made w.drew _ G hb hG ?_
  simp [size_zeroCells, Value.cells]
  omega
set_option maxHeartbeats 2000000 in
theorem grow_any (n : Nat) (w : World) (h0 : 0 < n) (hn : n ≤ 1000000) :
    Calls Try.prog 49 #[.slice none 0 0, .int .i64 (n : Int)] w fun e w' => ∃ A' c', e = .returned (.slice A' 0 c') ∧ RB w' w.heap.size A' 0 c' [] ∧ Below w.heap.size w w' := by
  obtain ⟨i, hi, hz, hs, hb⟩ := info_parts u8_info
  have hold : (Builtin.firstCells i.size 0 (.slice none 0 0)).run Try.prog w.drew = .ok ([] : List Value).toArray w.drew := run_firstCells_none w.drew i.size 0 0 0
  have h := fun ty => Lib.run_append_grow_zeros (P := Try.prog) w 31 3 ty 5 i (.int .u8 0) .i64 .i64 Try.underlying31 Try.underlying3 hi hz none 0 0 [] hold n h0 (by omega) (by omega) (by omega) (by rw [hb]; omega) (growslice_fits (by omega) (by rw [hb]; omega))
  have hge := grownCap_ge w (0 + n) 0 5
  have hle := grownCap_le_maxLen w (0 + n) 0 5 (by unfold maxLen; omega)
  simp only [Nat.zero_add] at h hge hle
  have hrow := hide (zrow w (grownCap w n 0 5) n hge hle (Nat.le_refl _))
  have hbel := hide ((Below.refl w.heap.size w).drew.alloc (Nat.le_refl _) (.cells ((([] : List Value).toArray ++ Builtin.zeroCells (Value.int .u8 0).cells n) ++ Builtin.zeroCells (Value.int .u8 0).cells (grownCap w n 0 5 - n)) 5))
  have hi1 : ¬ ((n : Int) < 0) := by omega
  have w1 : wrap64 ((n : Int) - 0) = (n : Int) := by unfold wrap64; omega
  generalize hG : grownCap w n 0 5 = G at *
  generalize w.drew.alloc _ = W at *
  have H := hide h
  unfold maxLen at hle
  clear hi hz hs hb hold h hG
  go_enter Try.func49, Try.ntmps49
  go_wp2_with (at_builtin; refine Lib.wpList_append_run _ rfl _ _ _ _ rfl _ _ rfl rfl _ _ (H.out _) ?_)
  go_ret
  exact ⟨_, _, rfl, hrow.out, hbel.out⟩
end Go.Proofs.Ytjmpnpflmdpdkaa
