/- The contract of the reference's Parse of years. -/
import Derived.Test.YtihadabaehcmiaaDoorYRParS
import Derived.Test.YtihadabaehcmiaaDoorYRParB
import Derived.Test.YtihadabaehcmiaaDoorYRParA
import Derived.Test.YtihadabaehcmiaaDoorYRParN
namespace Go.Proofs.YtihadabaehcmiaaDoor
open Go Go.RowKit Go.Lib

theorem ne3 {m : List UInt8} {l : List UInt8} (q : (strB m).size < 3) (hl : l.length = 3) : m.take 3 ≠ l := fun h => by
  have h2 := congrArg List.length h
  rw [List.length_take, hl] at h2
  rw [strB_size] at q
  omega
theorem rp_S (s : ByteArray) (w : World) (hs : s.size ≤ 900) (x y z : Int) (h : prs s.data.toList = (x, y, z)) (n : Nat) (m : List UInt8) (hd : digF5 5 0 s.data.toList = (n, m)) (q0 : (strB m).size < 3) :
    Calls Tryd.prog 24 #[.string s] w fun e w' => e = .returned (.tuple #[.agg #[.int .i64 x, .int .i64 y], .int .i64 z]) ∧ Below w.heap.size w w' := by
  have hr : restL s.data.toList = m := rest_S hd (ne3 q0 rfl) (ne3 q0 rfl)
  have ha := numA_of hd
  rcases hM : m with _ | ⟨c, r⟩
  · exact rp_SE s w hs x y z h n m hd q0 (by rw [hM]; rfl) ha (numB_not hd hr (by rw [hM]; decide))
  · by_cases hc : c = 45
    · obtain ⟨n2, m2, h2⟩ : ∃ n2 m2, digF5 5 0 r = (n2, m2) := ⟨_, _, rfl⟩
      exact rp_SH s w hs x y z h n m hd q0 c r hM hc n2 m2 h2 ha (numB_hy hr (by rw [hM, hc]; rfl) (by rw [hM]; exact h2))
    · exact rp_SO s w hs x y z h n m hd q0 c r hM hc ha (numB_not hd hr (by rw [hM]; intro e; injection e with e; exact hc e))
theorem rp_B (s : ByteArray) (w : World) (hs : s.size ≤ 900) (x y z : Int) (h : prs s.data.toList = (x, y, z)) (n : Nat) (m : List UInt8) (hd : digF5 5 0 s.data.toList = (n, m)) (q0 : 3 ≤ (strB m).size) (q1 : m.take 3 = bcL) :
    Calls Tryd.prog 24 #[.string s] w fun e w' => e = .returned (.tuple #[.agg #[.int .i64 x, .int .i64 y], .int .i64 z]) ∧ Below w.heap.size w w' := by
  have hr : restL s.data.toList = m.drop 3 := rest_B hd (Or.inl q1)
  have ha := numA_of hd
  rcases hM : m.drop 3 with _ | ⟨c, r⟩
  · exact rp_BE s w hs x y z h n m hd q0 q1 (by rw [hM]; rfl) ha (numB_not hd hr (by rw [hM]; decide))
  · by_cases hc : c = 45
    · obtain ⟨n2, m2, h2⟩ : ∃ n2 m2, digF5 5 0 r = (n2, m2) := ⟨_, _, rfl⟩
      exact rp_BH s w hs x y z h n m hd q0 q1 c r hM hc n2 m2 h2 ha (numB_hy hr (by rw [hM, hc]; rfl) (by rw [hM]; exact h2))
    · exact rp_BO s w hs x y z h n m hd q0 q1 c r hM hc ha (numB_not hd hr (by rw [hM]; intro e; injection e with e; exact hc e))
theorem rp_A (s : ByteArray) (w : World) (hs : s.size ≤ 900) (x y z : Int) (h : prs s.data.toList = (x, y, z)) (n : Nat) (m : List UInt8) (hd : digF5 5 0 s.data.toList = (n, m)) (q0 : 3 ≤ (strB m).size) (q1 : m.take 3 ≠ bcL) (q2 : m.take 3 = adL) :
    Calls Tryd.prog 24 #[.string s] w fun e w' => e = .returned (.tuple #[.agg #[.int .i64 x, .int .i64 y], .int .i64 z]) ∧ Below w.heap.size w w' := by
  have hr : restL s.data.toList = m.drop 3 := rest_B hd (Or.inr q2)
  have ha := numA_of hd
  rcases hM : m.drop 3 with _ | ⟨c, r⟩
  · exact rp_AE s w hs x y z h n m hd q0 q1 q2 (by rw [hM]; rfl) ha (numB_not hd hr (by rw [hM]; decide))
  · by_cases hc : c = 45
    · obtain ⟨n2, m2, h2⟩ : ∃ n2 m2, digF5 5 0 r = (n2, m2) := ⟨_, _, rfl⟩
      exact rp_AH s w hs x y z h n m hd q0 q1 q2 c r hM hc n2 m2 h2 ha (numB_hy hr (by rw [hM, hc]; rfl) (by rw [hM]; exact h2))
    · exact rp_AO s w hs x y z h n m hd q0 q1 q2 c r hM hc ha (numB_not hd hr (by rw [hM]; intro e; injection e with e; exact hc e))
theorem rp_N (s : ByteArray) (w : World) (hs : s.size ≤ 900) (x y z : Int) (h : prs s.data.toList = (x, y, z)) (n : Nat) (m : List UInt8) (hd : digF5 5 0 s.data.toList = (n, m)) (q0 : 3 ≤ (strB m).size) (q1 : m.take 3 ≠ bcL) (q2 : m.take 3 ≠ adL) :
    Calls Tryd.prog 24 #[.string s] w fun e w' => e = .returned (.tuple #[.agg #[.int .i64 x, .int .i64 y], .int .i64 z]) ∧ Below w.heap.size w w' := by
  have hr : restL s.data.toList = m := rest_S hd q1 q2
  have ha := numA_of hd
  rcases hM : m with _ | ⟨c, r⟩
  · exfalso
    rw [strB_size, hM] at q0
    simp at q0
  · by_cases hc : c = 45
    · obtain ⟨n2, m2, h2⟩ : ∃ n2 m2, digF5 5 0 r = (n2, m2) := ⟨_, _, rfl⟩
      exact rp_NH s w hs x y z h n m hd q0 q1 q2 c r hM hc n2 m2 h2 ha (numB_hy hr (by rw [hM, hc]; rfl) (by rw [hM]; exact h2))
    · exact rp_NO s w hs x y z h n m hd q0 q1 q2 c r hM hc ha (numB_not hd hr (by rw [hM]; intro e; injection e with e; exact hc e))
theorem rparse_v (s : ByteArray) (w : World) (hs : s.size ≤ 900) (x y z : Int) (h : prs s.data.toList = (x, y, z)) :
    Calls Tryd.prog 24 #[.string s] w fun e w' => e = .returned (.tuple #[.agg #[.int .i64 x, .int .i64 y], .int .i64 z]) ∧ Below w.heap.size w w' := by
  obtain ⟨n, m, hd⟩ : ∃ n m, digF5 5 0 s.data.toList = (n, m) := ⟨_, _, rfl⟩
  by_cases q0 : (strB m).size < 3
  · exact rp_S s w hs x y z h n m hd q0
  · have q0 : 3 ≤ (strB m).size := by omega
    by_cases q1 : m.take 3 = bcL
    · exact rp_B s w hs x y z h n m hd q0 q1
    · by_cases q2 : m.take 3 = adL
      · exact rp_A s w hs x y z h n m hd q0 q1 q2
      · exact rp_N s w hs x y z h n m hd q0 q1 q2
end Go.Proofs.YtihadabaehcmiaaDoor
