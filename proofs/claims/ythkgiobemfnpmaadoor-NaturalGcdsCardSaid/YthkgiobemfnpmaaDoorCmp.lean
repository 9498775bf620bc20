/- The contract of natural.Cmp. -/
import Derived.Test.YthkgiobemfnpmaaDoorClone
import Derived.Deep.RegionHeld3
namespace Go.Proofs.YthkgiobemfnpmaaDoor
open Go Go.RowKit

theorem compare_any (A A' : Option Addr) (n m c d : Nat) (u v : Nat) (w : World) (hr : RL w .u32 A n (dig B9 u)) (hr' : RL w .u32 A' m (dig B9 v)) (hn : n ≤ maxLen) :
    Calls Tryd.prog 44 #[.slice A n c, .slice A' m d] w fun e w' => e = .returned (.int .i64 (cmpI u v)) ∧ ∃ k, w' = w.drewN k := by
  rcases Nat.lt_trichotomy n m with h | rfl | h
  · exact compare_short A A' n m c d u v w hr hr' h
  · exact compare_same A A' n c d u v w hr hr' hn
  · exact compare_long A A' n m c d u v w hr hr' h

set_option maxHeartbeats 1000000 in
theorem cmp_any (A : Option Addr) (n c : Nat) (xs : List Nat) (A' : Option Addr) (m d : Nat) (ys : List Nat) (w : World) (hr : RL w .u32 A n xs) (hn : n ≤ c) (hc : c ≤ maxLen) (hN : n ≤ 900000) (hx : ∀ x ∈ xs, x < 4294967296)
    (hr' : RL w .u32 A' m ys) (hm : m ≤ d) (hd : d ≤ maxLen) (hM : m ≤ 900000) (hy : ∀ x ∈ ys, x < 4294967296) :
    Calls Tryd.prog 20 #[.agg #[.slice A n c], .agg #[.slice A' m d]] w fun e w' => e = .returned (.int .i64 (cmpI (val B9 xs) (val B9 ys))) ∧ Below w.heap.size w w' := by
  have HX := hide hx
  have HY := hide hy
  clear hx hy
  go_enter Tryd.func20, Tryd.ntmps20
  go_wp2
  have hW : Below w.heap.size w ((w.alloc (Obj.cells #[Value.slice A n c] 24)).alloc (Obj.cells #[Value.slice A' m d] 24)) := ((Below.refl _ _).alloc (Nat.le_refl _) _).alloc (by simp) _
  have h1 : ((w.alloc (Obj.cells #[Value.slice A n c] 24)).alloc (Obj.cells #[Value.slice A' m d] 24)).cell? ⟨w.heap.size, 0, none⟩ = some (.slice A n c) := by simp
  have h2 : ((w.alloc (Obj.cells #[Value.slice A n c] 24)).alloc (Obj.cells #[Value.slice A' m d] 24)).cell? ⟨w.heap.size + 1, 0, none⟩ = some (.slice A' m d) := by simp
  have hz : w.heap.size + 1 < ((w.alloc (Obj.cells #[Value.slice A n c] 24)).alloc (Obj.cells #[Value.slice A' m d] 24)).heap.size := by simp
  generalize hWe : (w.alloc (Obj.cells #[Value.slice A n c] 24)).alloc (Obj.cells #[Value.slice A' m d] 24) = W at *
  have hrW := hr.below hW
  have hrW' := hr'.below hW
  clear hWe
  have KS : Hid (∀ w', Below W.heap.size W w' → w'.cell? ⟨w.heap.size, 0, none⟩ = some (.slice A n c) ∧ w'.cell? ⟨w.heap.size + 1, 0, none⟩ = some (.slice A' m d) ∧ Below W.heap.size W w') :=
    fun w' h => ⟨(h.cell (p := ⟨w.heap.size, 0, none⟩) (by simp; omega)).trans h1, (h.cell (p := ⟨w.heap.size + 1, 0, none⟩) (by simp; omega)).trans h2, h⟩
  go_region_held3 (fun w' => w'.cell? ⟨w.heap.size, 0, none⟩ = some (.slice A n c) ∧ w'.cell? ⟨w.heap.size + 1, 0, none⟩ = some (.slice A' m d) ∧ Below W.heap.size W w')
    (first | exact KS.out _ hbC | exact KS.out _ hbB | exact KS.out _ hbA | exact KS.out _ ((Below.refl _ _).drew))
    (first
      | (go_at_call_of 41 (Value.slice A n c); refine (canon_any A n c xs _ (hrW.below ((Below.refl _ _).drew)) hn hc (by omega) HX.out).mono ?_; rintro e w1 ⟨A1, n1, c1, rfl, hr1, hn1, hc1, hb1⟩; have hbA : Below W.heap.size W w1 := ((Below.refl _ _).drew).trans hb1)
      | (go_at_call_of 41 (Value.slice A' m d); refine (canon_any A' m d ys _ (hrW'.below hbA) hm hd (by omega) HY.out).mono ?_; rintro e w2 ⟨A2, n2, c2, rfl, hr2, hn2, hc2, hb2⟩; have hbB : Below W.heap.size W w2 := hbA.trans (hb2.mono hbA.size))
      | (go_at_call 44; refine (compare_any A1 A2 n1 n2 c1 c2 (val B9 xs) (val B9 ys) _ (hr1.below hb2) hr2 (Nat.le_trans hn1 hc1)).mono ?_; rintro e w3 ⟨rfl, k3, rfl⟩; have hbC : Below W.heap.size W (w2.drewN k3) := below_drewN hbB k3))
  go_wp2
  go_ret
  exact ⟨rfl, hW.trans (hbC.mono hW.size)⟩
end Go.Proofs.YthkgiobemfnpmaaDoor
