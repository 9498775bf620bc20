/- The laws of sums, products and quotients of fractions: the walk. -/
import Derived.Test.YtoeknkakdoemfaaGreatDoorFRat
import Derived.Test.YtoeknkakdoemfaaGreatDoorFFew
import Derived.Test.YtoeknkakdoemfaaGreatDoorBaseF
import Derived.Deep.CutRange
import Derived.Deep.RegionHeld3
namespace Go.Proofs.YtoeknkakdoemfaaGreatDoor
open Go Go.RowKit

/-- a canonical fraction of the number r in a new box that a slot points to -/
def MadeF (W : World) (r : Rat) (s : Value) (wx : World) : Prop :=
  ∃ g p A n c B m d, s = .pointer (some ⟨g, 0, none⟩) ∧ W.heap.size ≤ g ∧ Box wx g #[.bool p, .slice A n c, .slice B m d] 26 ∧ Fc wx p A n c B m d r
theorem Fc.drewS {w : World} {p : Bool} {A : Option Addr} {n c : Nat} {B : Option Addr} {m d : Nat} {x : Rat} (h : Fc w p A n c B m d x) : Fc w.drew p A n c B m d x := h
theorem Fc.allocS {w : World} {p : Bool} {A : Option Addr} {n c : Nat} {B : Option Addr} {m d : Nat} {x : Rat} (h : Fc w p A n c B m d x) (o : Obj) : Fc (w.alloc o) p A n c B m d x := h.below ((Below.refl _ _).alloc (Nat.le_refl _) _)
theorem Fc.far3z {w : World} {p : Bool} {A : Option Addr} {n c : Nat} {B : Option Addr} {m d : Nat} {x : Rat} {g : Nat} (h : Fc w p A n c B m d x) (b : Box w g #[.bool false, .slice none 0 0, .slice none 0 0] 26) (q : Bool) (A' : Option Addr) (n' c' : Nat) (B' : Option Addr) (m' d' : Nat) :
    Fc (((w.setCell ⟨g, 0, none⟩ (.bool q)).setCell ⟨g, 1, none⟩ (.slice A' n' c')).setCell ⟨g, 2, none⟩ (.slice B' m' d')) p A n c B m d x :=
  ⟨h.1, h.2.1.far3z b _ _ _ _ _ _ _, h.2.2.far3z b _ _ _ _ _ _ _⟩
/-- the boxes of three fractions, with a slice of them -/
theorem few3 {w W : World} {t : TypeId} {p1 p2 p3 : Bool} {A1 B1 A2 B2 A3 B3 : Option Addr} {n1 c1 m1 d1 n2 c2 m2 d2 n3 c3 m3 d3 : Nat} (hW : w.alloc (.cells #[.bool p1, .slice A1 n1 c1, .slice B1 m1 d1, .bool p2, .slice A2 n2 c2, .slice B2 m2 d2, .bool p3, .slice A3 n3 c3, .slice B3 m3 d3] t) = W) :
    Below w.heap.size w W ∧ FewL W (some ⟨w.heap.size, 0, none⟩) 3 (fun i => if i = 0 then n1 else if i = 1 then n2 else n3) (fun i => if i = 0 then m1 else if i = 1 then m2 else m3) := by
  obtain ⟨h1, h2, -⟩ := boxesA1 hW
  refine ⟨h1, fun _ => ⟨_, _, rfl, fun i hi => ?_⟩⟩
  have h0 : i = 0 ∨ i = 1 ∨ i = 2 := by omega
  rcases h0 with rfl | rfl | rfl
  · exact ⟨A1, c1, B1, d1, h2.at_ 1, h2.at_ 2⟩
  · exact ⟨A2, c2, B2, d2, h2.at_ 4, h2.at_ 5⟩
  · exact ⟨A3, c3, B3, d3, h2.at_ 7, h2.at_ 8⟩
theorem isFew3 {n1 m1 n2 m2 n3 m3 : Nat} : isFew 3 (fun i => if i = 0 then n1 else if i = 1 then n2 else n3) (fun i => if i = 0 then m1 else if i = 1 then m2 else m3) ↔ (n1 ≤ 6 ∧ m1 ≤ 6) ∧ (n2 ≤ 6 ∧ m2 ≤ 6) ∧ n3 ≤ 6 ∧ m3 ≤ 6 := by
  constructor
  · intro h
    exact ⟨h.1 0 (by omega), h.1 1 (by omega), h.1 2 (by omega)⟩
  · intro h
    refine ⟨fun i hi => ?_, by omega⟩
    have h0 : i = 0 ∨ i = 1 ∨ i = 2 := by omega
    rcases h0 with rfl | rfl | rfl
    · exact h.1
    · exact h.2.1
    · exact h.2.2
/-- what awake gives -/
def Awake : Prop := ∀ w : World, Tab w → Calls Tryz.prog 8 #[] w fun e w' => e = .returned (.bool true) ∧ Below w.heap.size w w'
end Go.Proofs.YtoeknkakdoemfaaGreatDoor
