/- Seal, of the program and of the reference. -/
import Derived.Test.YtjmpnpflmdpdkaaFCat
namespace Go.Proofs.Ytjmpnpflmdpdkaa
open Go Go.RowKit FM

section
variable {w W : World} {c0 : Array Value} {t0 : TypeId}
theorem boxC (hW : w.alloc (.cells c0 t0) = W) : Below w.heap.size w W ∧ Box W w.heap.size c0 t0 ∧ W.heap.size = w.heap.size + 1 := by
  subst hW
  exact ⟨(Below.refl _ _).alloc (Nat.le_refl _) _, Box.new _ _ _, by simp⟩
end
theorem head_lit {w W : World} {k : Nat} (hW : w.alloc (.cells #[.int .u8 209, .int .u8 (k : Int)] 5) = W) : Below w.heap.size w W ∧ RB W w.heap.size (some ⟨w.heap.size, 0, none⟩) 2 2 [209, k] := by
  subst hW
  exact ⟨(Below.refl _ _).alloc (Nat.le_refl _) _, RB.lit w (Nat.le_refl _) [209, k] rfl (by unfold maxLen; omega)⟩
set_option maxHeartbeats 1000000 in
theorem seal_full (kind : Int) (A : Option Addr) (n c : Nat) (w : World) (hn : n ≤ maxLen) (hf : 8192 < n) :
    Calls Try.prog 27 #[.int .u8 kind, .slice A n c] w fun e w' => e = .returned (.tuple #[.slice none 0 0, .int .i64 6]) ∧ w = w' := by
  unfold maxLen at hn
  have d : decide ((8192 : Int) < (n : Int)) = true := decide_eq_true (by omega)
  go_enter Try.func27, Try.ntmps27
  go_wp2_with fail
  go_ret2
  exact ⟨rfl, rfl⟩
set_option maxHeartbeats 1000000 in
theorem rseal_full (kind : Int) (A : Option Addr) (n c : Nat) (w : World) (hn : n ≤ maxLen) (hf : 8192 < n) :
    Calls Try.prog 29 #[.int .u8 kind, .slice A n c] w fun e w' => e = .returned (.tuple #[.slice none 0 0, .int .i64 6]) ∧ w = w' := by
  unfold maxLen at hn
  have d : decide ((8192 : Int) < (n : Int)) = true := decide_eq_true (by omega)
  go_enter Try.func29, Try.ntmps29
  go_wp2_with fail
  go_ret2
  exact ⟨rfl, rfl⟩
/-- a sealed frame -/
def Sealed (ys : List Nat) (n : Nat) (w : World) (e : Ending) (w' : World) : Prop := ∃ A c, e = .returned (.tuple #[.slice A n c, .int .i64 0]) ∧ RB w' w.heap.size A n c ys ∧ Below w.heap.size w w'
set_option maxHeartbeats 4000000 in
theorem seal_any (k : Nat) (A : Option Addr) (n c : Nat) (xs : List Nat) (w : World) (hx : BR w A n xs) (hk : k < 256) (hn : n ≤ 8192) (ys : List Nat) (hy : frame k xs = ys) :
    Calls Try.prog 27 #[.int .u8 (k : Int), .slice A n c] w (Sealed ys (n + 9) w) := by
  have HX := hide hx
  have HL := hide hx.len
  have HY := hide hy
  obtain ⟨s, hs⟩ := (⟨_, rfl⟩ : ∃ s, adler (body k xs) = s)
  have hsb : s < 4294967296 := by rw [← hs]; exact adler_lt _
  have HS := hide hs
  have HK := hide hk
  have d : decide ((8192 : Int) < (n : Int)) = false := decide_eq_false (by omega)
  have HB5 := hide (show ([209, k] ++ big n 3) ++ xs = body k xs from by unfold body; rw [hx.len]; simp)
  clear hx hy hs
  go_enter Try.func27, Try.ntmps27
  go_wp2_with fail
  generalize hW : w.alloc _ = W
  obtain ⟨hbW, hh⟩ := head_lit hW
  have HH := hide hh
  have HBW := hide hbW
  have hsW := hbW.size
  clear hW hh hbW
  refine (digits_any n 3 W (by omega) _ rfl).mono ?_
  rintro e w1 ⟨g1, rfl, ho1, hb1⟩
  have HO1 := hide (ho1.rb (big_len 3 n) (by unfold maxLen; omega))
  have HB1 := hide (HBW.out.trans (hb1.mono hsW))
  have HH1 := hide (HH.out.below hb1)
  have hs1 : w.heap.size ≤ w1.heap.size := HB1.out.size
  clear ho1 hb1
  go_wp2_with (at_builtin; refine wpList_append_rl _ rfl _ _ 31 rfl w.heap.size 5 .u8 1 Try.underlying31 u8_info _ 2 2 [209, k] rfl HH1.out _ 3 3 (big n 3) rfl (Row.rl HO1.out) (by omega) 5 rfl (by omega) hs1 ?_; intro A3 c3 w3 hrow3 hbel3 hsz3)
  have HR3 := hide hrow3
  have HB3 := hide (HB1.out.trans hbel3)
  clear hrow3 hbel3
  go_wp2_with fail
  generalize hW : w3.alloc _ = W4
  obtain ⟨hb4, hx4, -⟩ := boxC hW
  have HB4 := hide (HB3.out.trans (hb4.mono HB3.out.size))
  have HX4 := hide hx4
  have HH4 := hide (RB.br (RB.below HR3.out hb4) ((By.cons (by omega) (By.cons HK.out By.nil)).app (big_by 3 n)))
  have hs4 : w.heap.size ≤ W4.heap.size := HB4.out.size
  clear hW hb4 hx4
  refine (concat_any _ A3 5 c3 ([209, k] ++ big n 3) A n c xs W4 _ HX4.out HH4.out (HX.out.below HB4.out) (by omega) (by omega) (by omega)).mono ?_
  rintro e w5 ⟨A5, c5, rfl, hr5, hb5⟩
  rw [HB5.out] at hr5
  have HR5 := hide hr5
  have HB5' := hide (HB4.out.trans (hb5.mono hs4))
  have hs5 : w.heap.size ≤ w5.heap.size := HB5'.out.size
  have BB := hide (body_by HK.out HX.out.2)
  clear hr5 hb5
  go_wp2_with fail
  refine (adler_any A5 (5 + n) c5 (body k xs) _ (RB.br HR5.out BB.out) (by unfold maxLen; omega) s HS.out).mono ?_
  rintro e w6 ⟨rfl, rfl⟩
  go_wp2_with fail
  refine (digits_any s 4 _ (by omega) _ rfl).mono ?_
  rintro e w7 ⟨g7, rfl, ho7, hb7⟩
  have HO7 := hide (ho7.rb (big_len 4 s) (by unfold maxLen; omega))
  have HB7 := hide (HB5'.out.trans (hb7.mono hs5))
  have HR7 := hide ((RB.below HR5.out hb7).low hs4)
  have hs7 : w.heap.size ≤ w7.heap.size := HB7.out.size
  clear ho7 hb7
  go_wp2_with (at_builtin; refine wpList_append_rl _ rfl _ _ 31 rfl w.heap.size 5 .u8 1 Try.underlying31 u8_info A5 (5 + n) c5 (body k xs) rfl HR7.out _ 4 4 (big s 4) rfl (Row.rl HO7.out) (by omega) (n + 9) (by omega) (by omega) hs7 ?_; intro A8 c8 w8 hrow8 hbel8 hsz8)
  have HE := hide (show body k xs ++ big s 4 = ys from by rw [← HY.out, ← HS.out]; rfl)
  have HR8 := hide hrow8
  have HB8 := hide (HB7.out.trans hbel8)
  clear hrow8 hbel8
  go_wp2_with fail
  go_ret2
  exact ⟨A8, c8, rfl, by have h := HR8.out; rw [HE.out] at h; exact h, HB8.out⟩
set_option maxHeartbeats 4000000 in
theorem rseal_any (k : Nat) (A : Option Addr) (n c : Nat) (xs : List Nat) (w : World) (hx : BR w A n xs) (hk : k < 256) (hn : n ≤ 8192) (ys : List Nat) (hy : frame k xs = ys) :
    Calls Try.prog 29 #[.int .u8 (k : Int), .slice A n c] w (Sealed ys (n + 9) w) := by
  have HX := hide hx
  have HL := hide hx.len
  have HY := hide hy
  obtain ⟨s, hs⟩ := (⟨_, rfl⟩ : ∃ s, adler (body k xs) = s)
  have hsb : s < 4294967296 := by rw [← hs]; exact adler_lt _
  have HS := hide hs
  have HK := hide hk
  have d : decide ((8192 : Int) < (n : Int)) = false := decide_eq_false (by omega)
  have HB5 := hide (show ([209, k] ++ big n 3) ++ xs = body k xs from by unfold body; rw [hx.len]; simp)
  clear hx hy hs
  go_enter Try.func29, Try.ntmps29
  go_wp2_with fail
  generalize hW : w.alloc _ = W
  obtain ⟨hbW, hh⟩ := head_lit hW
  have HH := hide hh
  have HBW := hide hbW
  have hsW := hbW.size
  clear hW hh hbW
  refine (big_any n 3 W (by omega) (by omega) _ rfl).mono ?_
  rintro e w1 ⟨g1, rfl, ho1, hb1⟩
  have HO1 := hide (ho1.rb (big_len 3 n) (by unfold maxLen; omega))
  have HB1 := hide (HBW.out.trans (hb1.mono hsW))
  have HH1 := hide (HH.out.below hb1)
  have hs1 : w.heap.size ≤ w1.heap.size := HB1.out.size
  clear ho1 hb1
  go_wp2_with (first
    | (at_builtin; refine wpList_append_rl _ rfl _ _ 31 rfl w.heap.size 5 .u8 1 Try.underlying31 u8_info _ 2 2 [209, k] rfl HH1.out _ 3 3 (big n 3) rfl (Row.rl HO1.out) (by omega) 5 rfl (by omega) hs1 ?_; intro A3 c3 w3 hrow3 hbel3 hsz3; have HR3 := hide hrow3; have HB3 := hide (HB1.out.trans hbel3); have hs3 : w.heap.size ≤ w3.heap.size := HB3.out.size; clear hrow3 hbel3)
    | (at_builtin; refine wpList_append_rl _ rfl _ _ 31 rfl w.heap.size 5 .u8 1 Try.underlying31 u8_info A3 5 c3 ([209, k] ++ big n 3) rfl HR3.out A n c xs rfl (HX.out.below HB3.out).1 (by omega) (5 + n) (by omega) (by omega) hs3 ?_; intro A5 c5 w5 hr5 hbel5 hsz5))
  rw [HB5.out] at hr5
  have HR5 := hide hr5
  have HB5' := hide (HB3.out.trans hbel5)
  have hs5 : w.heap.size ≤ w5.heap.size := HB5'.out.size
  have BB := hide (body_by HK.out HX.out.2)
  clear hr5 hbel5
  go_wp2_with fail
  refine (radler_any A5 (5 + n) c5 (body k xs) _ (RB.br HR5.out BB.out) (by unfold maxLen; omega) s HS.out).mono ?_
  rintro e w6 ⟨rfl, rfl⟩
  go_wp2_with fail
  refine (big_any s 4 _ (by omega) (by omega) _ rfl).mono ?_
  rintro e w7 ⟨g7, rfl, ho7, hb7⟩
  have HO7 := hide (ho7.rb (big_len 4 s) (by unfold maxLen; omega))
  have HB7 := hide (HB5'.out.trans (hb7.mono hs5))
  have HR7 := hide (RB.below HR5.out hb7)
  have hs7 : w.heap.size ≤ w7.heap.size := HB7.out.size
  clear ho7 hb7
  go_wp2_with (at_builtin; refine wpList_append_rl _ rfl _ _ 31 rfl w.heap.size 5 .u8 1 Try.underlying31 u8_info A5 (5 + n) c5 (body k xs) rfl HR7.out _ 4 4 (big s 4) rfl (Row.rl HO7.out) (by omega) (n + 9) (by omega) (by omega) hs7 ?_; intro A8 c8 w8 hrow8 hbel8 hsz8)
  have HE := hide (show body k xs ++ big s 4 = ys from by rw [← HY.out, ← HS.out]; rfl)
  have HR8 := hide hrow8
  have HB8 := hide (HB7.out.trans hbel8)
  clear hrow8 hbel8
  go_wp2_with fail
  go_ret2
  exact ⟨A8, c8, rfl, by have h := HR8.out; rw [HE.out] at h; exact h, HB8.out⟩
end Go.Proofs.Ytjmpnpflmdpdkaa
