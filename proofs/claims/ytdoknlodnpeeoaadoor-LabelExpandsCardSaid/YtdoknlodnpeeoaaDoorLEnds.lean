/- The ends of a group. -/
import Derived.Test.YtdoknlodnpeeoaaDoorLRuns3
import Derived.Test.YtdoknlodnpeeoaaDoorShelf4
namespace Go.Proofs.YtdoknlodnpeeoaaDoor
open Go Go.RowKit Go.Lib

theorem atoi_ok (s : ByteArray) (v : Int) (h : Lib.atoiAll s.data.toList = .ok v) (hs : s.size ≤ 1000) (w : World) :
    Calls Tryd.prog 33 #[.string s] w fun e w' => e = .returned (.tuple #[.int .i64 v, .nilIface]) ∧ Below w.heap.size w w' :=
  (Tryd.strconv_Atoi_ok s (by omega) v h w).mono fun _ _ ⟨he, hw⟩ => ⟨he, by
    rcases hw with rfl | ⟨t, rfl⟩
    · exact Below.refl _ _
    · exact Lib.bytesWorld_below _ _ _⟩
theorem atoi_bad (s : ByteArray) (h : ∀ v, Lib.atoiAll s.data.toList ≠ .ok v) (hs : s.size ≤ 1000) (w : World) (hT : Lw w) :
    Calls Tryd.prog 33 #[.string s] w fun e w' => ∃ n t p, e = .returned (.tuple #[.int .i64 n, .iface t p]) ∧ Below w.heap.size w w' := by
  obtain ⟨-, ⟨t2, p2, h2⟩, ⟨t3, p3, h3⟩, -⟩ := hT
  rcases e : Lib.atoiAll s.data.toList with v | _ | _
  · exact absurd e (h v)
  · exact Calls.mono (Any.strconv_Atoi_syntax_var Tryd.laysC172 s (by omega) e t2 p2 w h2) fun _ _ ⟨N, he, _, _, hb⟩ => ⟨_, _, _, he, hb⟩
  · exact Calls.mono (Any.strconv_Atoi_range_var Tryd.laysC172 s (by omega) e t3 p3 w h3) fun _ _ ⟨N, he, _, _, hb⟩ => ⟨_, _, _, he, hb⟩

/-- the number that a text is -/
def endL (l : List UInt8) : Option Int := match Lib.atoiAll l with
  | .ok v => some v
  | _ => none
theorem endL_some {l : List UInt8} {v : Int} : endL l = some v ↔ Lib.atoiAll l = .ok v := by
  unfold endL
  rcases h : Lib.atoiAll l with u | _ | _ <;> simp
theorem endL_none {l : List UInt8} : endL l = none ↔ ∀ v, Lib.atoiAll l ≠ .ok v := by
  unfold endL
  rcases h : Lib.atoiAll l with u | _ | _ <;> simp
theorem cut_any (s : ByteArray) (c : UInt8) (w : World) (hT : Lw w) (hs : s.size ≤ 100000) (X Y : ByteArray) (f : Bool) (hX : strB (Lib.cut s.data.toList [c]).1 = X) (hY : strB (Lib.cut s.data.toList [c]).2.1 = Y) (hf : (Lib.cut s.data.toList [c]).2.2 = f) :
    Calls Tryd.prog 47 #[.string s, .string ⟨#[c]⟩] w fun e w' => e = .returned (.tuple #[.string X, .string Y, .bool f]) ∧ Below w.heap.size w w' := by
  obtain ⟨-, -, -, m, h2⟩ := hT
  refine Calls.mono (Tryd.strings_Cut s ⟨#[c]⟩ m w (by omega) h2) ?_
  rintro e w' ⟨rfl, n, rfl⟩
  refine ⟨?_, below_drewN (Below.refl _ _) _⟩
  show Ending.returned (.tuple #[.string ⟨(Lib.cut s.data.toList [c]).1.toArray⟩, .string ⟨(Lib.cut s.data.toList [c]).2.1.toArray⟩, .bool (Lib.cut s.data.toList [c]).2.2]) = _
  rw [← hX, ← hY, ← hf]
  rfl
/-- strconv.Atoi, either way -/
def AtoiP (s : ByteArray) (w : World) (e : Ending) (w' : World) : Prop :=
  (∃ n v, e = .returned (.tuple #[.int .i64 n, v]) ∧ ((endL s.data.toList = some n ∧ v = .nilIface) ∨ (endL s.data.toList = none ∧ ∃ t p, v = .iface t p))) ∧ Below w.heap.size w w'
theorem atoi_any (s : ByteArray) (hs : s.size ≤ 1000) (w : World) (hT : Lw w) : Calls Tryd.prog 33 #[.string s] w (AtoiP s w) := by
  rcases h : endL s.data.toList with _ | v
  · exact (atoi_bad s (endL_none.1 h) hs w hT).mono fun _ _ ⟨n, t, p, he, hb⟩ => ⟨⟨n, _, he, Or.inr ⟨h, t, p, rfl⟩⟩, hb⟩
  · exact (atoi_ok s v (endL_some.1 h) hs w).mono fun _ _ ⟨he, hb⟩ => ⟨⟨v, _, he, Or.inl ⟨h, rfl⟩⟩, hb⟩
/-- what ends gives of the two texts -/
def EndsP (X Y : ByteArray) (w : World) (e : Ending) (w' : World) : Prop :=
  (∃ x y ok, e = .returned (.tuple #[.int .i64 x, .int .i64 y, .bool ok]) ∧ ((ok = true ∧ endL X.data.toList = some x ∧ endL Y.data.toList = some y) ∨ (ok = false ∧ (endL X.data.toList = none ∨ endL Y.data.toList = none)))) ∧ Below w.heap.size w w'
set_option maxHeartbeats 4000000 in
theorem ends_way (s : ByteArray) (w : World) (hT : Lw w) (X Y Z : ByteArray) (f : Bool) (hf : (f = true ∧ Z = Y) ∨ (f = false ∧ Z = X)) (hX : X.size ≤ 1000) (hZ : Z.size ≤ 1000) (hC : Calls Tryd.prog 47 #[.string s, .string ⟨#[45]⟩] w fun e w' => e = .returned (.tuple #[.string X, .string Y, .bool f]) ∧ Below w.heap.size w w') :
    Calls Tryd.prog 65 #[.string s] w (EndsP X Z w) := by
  have HT := hide hT
  have HC := hide hC
  have HX := hide hX
  have HZ := hide hZ
  clear hT hC hX hZ
  go_enter Tryd.func65, Tryd.ntmps65
  go_wp2_with fail
  refine HC.out.mono ?_
  rintro e w1 ⟨rfl, B⟩
  rcases hf with ⟨rfl, rfl⟩ | ⟨rfl, rfl⟩
  all_goals
    go_wp2_with fail
    refine (atoi_any _ HX.out _ (HT.out.below B)).mono ?_
    rintro e w2 ⟨⟨x, vx, rfl, hx⟩, hb⟩
    have B := B.trans (hb.mono B.size)
    clear hb
    go_wp2_with fail
    refine (atoi_any _ HZ.out _ (HT.out.below B)).mono ?_
    rintro e w3 ⟨⟨y, vy, rfl, hy⟩, hb⟩
    have B := B.trans (hb.mono B.size)
    clear hb
    rcases hx with ⟨hx, rfl⟩ | ⟨hx, t, p, rfl⟩
    · rcases hy with ⟨hy, rfl⟩ | ⟨hy, t2, p2, rfl⟩
      · have HXX := hide hx
        have HYY := hide hy
        clear hx hy
        go_wp2_with fail
        go_quiet (fail)
        go_wp2_with fail
        refine bodyPost_ret (v := .tuple #[.int .i64 x, .int .i64 y, .bool true]) (by simp [results, Tryd.results65, go_sem]) rfl ?_
        exact ⟨⟨x, y, true, rfl, Or.inl ⟨rfl, HXX.out, HYY.out⟩⟩, below_drewN B _⟩
      · have HYY := hide hy
        clear hx hy
        go_wp2_with fail
        go_quiet (fail)
        go_wp2_with fail
        refine bodyPost_ret (v := .tuple #[.int .i64 x, .int .i64 y, .bool false]) (by simp [results, Tryd.results65, go_sem]) rfl ?_
        exact ⟨⟨x, y, false, rfl, Or.inr ⟨rfl, Or.inr HYY.out⟩⟩, below_drewN B _⟩
    · have HXX := hide hx
      clear hx hy
      go_wp2_with fail
      go_quiet (fail)
      go_wp2_with fail
      refine bodyPost_ret (v := .tuple #[.int .i64 x, .int .i64 y, .bool false]) (by simp [results, Tryd.results65, go_sem]) rfl ?_
      exact ⟨⟨x, y, false, rfl, Or.inr ⟨rfl, Or.inl HXX.out⟩⟩, below_drewN B _⟩
end Go.Proofs.YtdoknlodnpeeoaaDoor
