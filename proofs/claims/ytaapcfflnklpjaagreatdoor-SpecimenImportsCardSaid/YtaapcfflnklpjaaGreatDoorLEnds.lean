/- The ends of a group. -/
import Derived.Test.YtaapcfflnklpjaaGreatDoorYB
import Derived.Test.YtaapcfflnklpjaaGreatDoorShelf4
namespace Go.Proofs.YtaapcfflnklpjaaGreatDoor
open Go Go.RowKit Go.Lib

theorem atoi_ok (s : ByteArray) (v : Int) (h : Lib.atoiAll s.data.toList = .ok v) (hs : s.size ≤ 5000) (w : World) :
    Calls Tryz.prog 49 #[.string s] w fun e w' => e = .returned (.tuple #[.int .i64 v, .nilIface]) ∧ Below w.heap.size w w' :=
  (Tryz.strconv_Atoi_ok s (by omega) v h w).mono fun _ _ ⟨he, hw⟩ => ⟨he, by
    rcases hw with rfl | ⟨t, rfl⟩
    · exact Below.refl _ _
    · exact Lib.bytesWorld_below _ _ _⟩
theorem atoi_bad (s : ByteArray) (h : ∀ v, Lib.atoiAll s.data.toList ≠ .ok v) (hs : s.size ≤ 5000) (w : World) (hT : Lw w) :
    Calls Tryz.prog 49 #[.string s] w fun e w' => ∃ n t p, e = .returned (.tuple #[.int .i64 n, .iface t p]) ∧ Below w.heap.size w w' := by
  obtain ⟨-, ⟨t2, p2, h2⟩, ⟨t3, p3, h3⟩, -⟩ := hT
  rcases e : Lib.atoiAll s.data.toList with v | _ | _
  · exact absurd e (h v)
  · exact Calls.mono (Any.strconv_Atoi_syntax_var Tryz.laysC172 s (by omega) e t2 p2 w h2) fun _ _ ⟨N, he, _, _, hb⟩ => ⟨_, _, _, he, hb⟩
  · exact Calls.mono (Any.strconv_Atoi_range_var Tryz.laysC172 s (by omega) e t3 p3 w h3) fun _ _ ⟨N, he, _, _, hb⟩ => ⟨_, _, _, he, hb⟩

/-- the number that a text is -/
def endL (l : List UInt8) : Option Int := match Lib.atoiAll l with
  | .ok v => some v
  | _ => none
theorem endL_some {l : List UInt8} {v : Int} : endL l = some v ↔ Lib.atoiAll l = .ok v := by
  unfold endL
  rcases h : Lib.atoiAll l with u | _ | _ <;> simp
theorem endL_none {l : List UInt8} : endL l = none ↔ ∀ v, Lib.atoiAll l ≠ .ok v := by
  unfold endL
  rcases h : Lib.atoiAll l with u | _ | _ <;> simp
theorem cut_any (s : ByteArray) (c : UInt8) (w : World) (hT : Lw w) (hs : s.size ≤ 500000) (X Y : ByteArray) (f : Bool) (hX : strB (Lib.cut s.data.toList [c]).1 = X) (hY : strB (Lib.cut s.data.toList [c]).2.1 = Y) (hf : (Lib.cut s.data.toList [c]).2.2 = f) :
    Calls Tryz.prog 84 #[.string s, .string ⟨#[c]⟩] w fun e w' => e = .returned (.tuple #[.string X, .string Y, .bool f]) ∧ Below w.heap.size w w' := by
  obtain ⟨-, -, -, m, h2⟩ := hT
  refine Calls.mono (Tryz.strings_Cut s ⟨#[c]⟩ m w (by omega) h2) ?_
  rintro e w' ⟨rfl, n, rfl⟩
  refine ⟨?_, below_drewN (Below.refl _ _) _⟩
  show Ending.returned (.tuple #[.string ⟨(Lib.cut s.data.toList [c]).1.toArray⟩, .string ⟨(Lib.cut s.data.toList [c]).2.1.toArray⟩, .bool (Lib.cut s.data.toList [c]).2.2]) = _
  rw [← hX, ← hY, ← hf]
  rfl
/-- strconv.Atoi, either way -/
def AtoiP (s : ByteArray) (w : World) (e : Ending) (w' : World) : Prop :=
  (∃ n v, e = .returned (.tuple #[.int .i64 n, v]) ∧ ((endL s.data.toList = some n ∧ v = .nilIface) ∨ (endL s.data.toList = none ∧ ∃ t p, v = .iface t p))) ∧ Below w.heap.size w w'
theorem atoi_any (s : ByteArray) (hs : s.size ≤ 5000) (w : World) (hT : Lw w) : Calls Tryz.prog 49 #[.string s] w (AtoiP s w) := by
  rcases h : endL s.data.toList with _ | v
  · exact (atoi_bad s (endL_none.1 h) hs w hT).mono fun _ _ ⟨n, t, p, he, hb⟩ => ⟨⟨n, _, he, Or.inr ⟨h, t, p, rfl⟩⟩, hb⟩
  · exact (atoi_ok s v (endL_some.1 h) hs w).mono fun _ _ ⟨he, hb⟩ => ⟨⟨v, _, he, Or.inl ⟨h, rfl⟩⟩, hb⟩
/-- what ends gives of the two texts -/
def EndsP (X Y : ByteArray) (w : World) (e : Ending) (w' : World) : Prop :=
  (∃ x y ok, e = .returned (.tuple #[.int .i64 x, .int .i64 y, .bool ok]) ∧ ((ok = true ∧ endL X.data.toList = some x ∧ endL Y.data.toList = some y) ∨ (ok = false ∧ (endL X.data.toList = none ∨ endL Y.data.toList = none)))) ∧ Below w.heap.size w w'
end Go.Proofs.YtaapcfflnklpjaaGreatDoor
