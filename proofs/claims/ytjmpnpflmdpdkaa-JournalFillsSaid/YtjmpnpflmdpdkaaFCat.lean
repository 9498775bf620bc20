/- slices.Concat of two rows. -/
import Derived.Test.YtjmpnpflmdpdkaaFLib
namespace Go.Proofs.Ytjmpnpflmdpdkaa
open Go Go.RowKit FM

def szc (n m : Nat) : Nat → Nat
  | 0 => 0
  | 1 => n
  | _ => n + m
def catc (xs ys : List Nat) : Nat → List Nat
  | 0 => []
  | 1 => xs
  | _ => xs ++ ys
set_option maxHeartbeats 4000000 in
theorem concat_any (g : Nat) (A : Option Addr) (n c : Nat) (xs : List Nat) (A' : Option Addr) (m d : Nat) (ys : List Nat) (w : World) (t : TypeId) (hg : Box w g #[.slice A n c, .slice A' m d] t) (hx : BR w A n xs) (hy : BR w A' m ys) (h0 : 0 < n) (hn : n ≤ 100000) (hm : m ≤ 100000) :
    Calls Try.prog 41 #[.slice (some ⟨g, 0, none⟩) 2 2] w fun e w' => ∃ A'' c'', e = .returned (.slice A'' (n + m) c'') ∧ RB w' w.heap.size A'' (n + m) c'' (xs ++ ys) ∧ Below w.heap.size w w' := by
  have HX := hide hx
  have HY := hide hy
  have HG := hide hg
  have k0 : w.cell? ⟨g, 0, none⟩ = some (.slice A n c) := hg.at_ 0
  have k1 : w.cell? ⟨g, 1, none⟩ = some (.slice A' m d) := hg.at_ 1
  clear hx hy hg
  go_enter Try.func41, Try.ntmps41
  go_wp2_with fail
  go_loopg [3, 11] 2 (fun gk s i wr => ∃ j : Nat, j + gk = 2 ∧ i = .int .i64 (j : Int) ∧ s = .int .i64 (szc n m j : Int) ∧ w = wr)
  case atStart => exact ⟨0, by omega, rfl, rfl, rfl⟩
  case round =>
    obtain ⟨j, hj, rfl, rfl, rfl⟩ := hrel
    have hc : j = 0 ∨ j = 1 ∨ j = 2 := by omega
    rcases hc with rfl | rfl | rfl
    · obtain rfl : gk = 2 := by omega
      rw [show szc n m 0 = 0 from rfl]
      clear hj
      go_wp2_with fail
      go_roundg 1
      case measure => omega
      case rel => exact ⟨1, by omega, by go_num, by show _ = Value.int .i64 (n : Int); go_num, rfl⟩
    · obtain rfl : gk = 1 := by omega
      rw [show szc n m 1 = n from rfl]
      clear hj
      go_wp2_with fail
      go_roundg 0
      case measure => omega
      case rel => exact ⟨2, by omega, by go_num, by show _ = Value.int .i64 ((n + m : Nat) : Int); go_num, rfl⟩
    · obtain rfl : gk = 0 := by omega
      rw [show szc n m 2 = n + m from rfl]
      clear hj
      go_wp2_with fail
      refine (grow_any (n + m) w (by omega) (by omega)).mono ?_
      rintro e w1 ⟨A1, c1, rfl, hr, hb⟩
      have HR := hide hr
      have HB := hide hb
      clear hr hb k0 k1
      go_wp2_with fail
      go_loopg [6, 27] 2 (fun gk s i wr => ∃ (j c2 : Nat) (A2 : Option Addr), j + gk = 2 ∧ i = .int .i64 (j : Int) ∧ s = .slice A2 (szc n m j) c2 ∧ RB wr w.heap.size A2 (szc n m j) c2 (catc xs ys j) ∧ Below w.heap.size w wr)
      case atStart => exact ⟨0, c1, A1, by omega, rfl, rfl, HR.out, HB.out⟩
      case round =>
        obtain ⟨j, c2, A2, hj, rfl, rfl, hr, hb⟩ := hrel
        have HR2 := hide hr
        have HB2 := hide hb
        have hwr := hb.size
        have k0 : wr.cell? ⟨g, 0, none⟩ = some (.slice A n c) := (HG.out.below' hb).at_ 0
        have k1 : wr.cell? ⟨g, 1, none⟩ = some (.slice A' m d) := (HG.out.below' hb).at_ 1
        clear hr hb
        have hc : j = 0 ∨ j = 1 ∨ j = 2 := by omega
        rcases hc with rfl | rfl | rfl
        · obtain rfl : gk = 2 := by omega
          rw [show szc n m 0 = 0 from rfl] at HR2 ⊢
          clear hj
          go_wp2_with (at_builtin; refine wpList_append_rl _ rfl _ _ 31 rfl w.heap.size 5 .u8 1 Try.underlying31 u8_info A2 0 c2 [] rfl HR2.out A n c xs rfl (HX.out.1.below HB2.out) (by omega) n (by omega) (by omega) hwr ?_; intro A3 c3 w3 hrow3 hbel3 hsz3)
          go_roundg 1
          case measure => omega
          case rel => exact ⟨1, c3, A3, by omega, by go_num, rfl, hrow3, HB2.out.trans hbel3⟩
        · obtain rfl : gk = 1 := by omega
          rw [show szc n m 1 = n from rfl] at HR2 ⊢
          clear hj
          go_wp2_with (at_builtin; refine wpList_append_rl _ rfl _ _ 31 rfl w.heap.size 5 .u8 1 Try.underlying31 u8_info A2 n c2 xs rfl HR2.out A' m d ys rfl (HY.out.1.below HB2.out) (by omega) (n + m) (by omega) (by omega) hwr ?_; intro A3 c3 w3 hrow3 hbel3 hsz3)
          go_roundg 0
          case measure => omega
          case rel => exact ⟨2, c3, A3, by omega, by go_num, rfl, hrow3, HB2.out.trans hbel3⟩
        · obtain rfl : gk = 0 := by omega
          rw [show szc n m 2 = n + m from rfl] at HR2 ⊢
          clear hj
          go_wp2_with fail
          go_ret
          exact ⟨A2, c2, rfl, HR2.out, HB2.out⟩
end Go.Proofs.Ytjmpnpflmdpdkaa
