/- Rows of ints; comparing them: the base's Ints, Has. -/
import Derived.Test.YtadmiecoahohiaaBox
import Derived.Test.YtadmiecoahohiaaChecked
import Derived.Lib.Walk
import Derived.Maps.AppendAt
import Derived.Deep.RegionHeld3
import Derived.Deep.QuietTactic
import Derived.BigQuiet
import Derived.Outline
namespace Go.Proofs.Ytadmiecoahohiaa
open Go Go.RowKit Go.Lib
theorem nxt {w W W' : World} (h : Below w.heap.size w W) (k : Below W.heap.size W W') : Below w.heap.size w W' := Below.next h k
theorem infoI : (Try.prog.info? 3).map (fun i => (i.zero, i.size, i.bytes)) = some (some (.int .i64 0), 1, 8) := by kernel_rfl
def cellsI (l : List Int) : List Value := l.map (Value.int .i64)
theorem cellsI_len (l : List Int) : (cellsI l).length = l.length := by unfold cellsI; rw [List.length_map]
theorem cellsI_snoc (l : List Int) (x : Int) : cellsI (l ++ [x]) = cellsI l ++ [.int .i64 x] := by unfold cellsI; rw [List.map_append]; rfl
/-- a slice value of n ints -/
def IS (w : World) (A : Option Addr) (n : Nat) (l : List Int) : Prop :=
  l.length = n ∧ (0 < n → ∃ b o, A = some ⟨b, o, none⟩ ∧ b < w.heap.size ∧ ∀ (j : Nat) (x : Int), l[j]? = some x → w.cell? ⟨b, o + j, none⟩ = some (.int .i64 x))
theorem IS.keep {w w' : World} {A : Option Addr} {n : Nat} {l : List Int} (h : IS w A n l) (hb : Below w.heap.size w w') : IS w' A n l :=
  ⟨h.1, fun hn => by
    obtain ⟨b, o, e, hl, hc⟩ := h.2 hn
    exact ⟨b, o, e, Nat.lt_of_lt_of_le hl hb.size, fun j u hu => (hb.cell (p := ⟨b, o + j, none⟩) hl).trans (hc j u hu)⟩⟩
theorem IS.nil_ (w : World) (A : Option Addr) : IS w A 0 [] := ⟨rfl, fun h => absurd h (by decide)⟩
theorem IS.at_ {w : World} {A : Option Addr} {n : Nat} {l : List Int} (h : IS w A n l) {j : Nat} (hj : j < n) : ∃ b o x, A = some ⟨b, o, none⟩ ∧ b < w.heap.size ∧ l[j]? = some x ∧ w.cell? ⟨b, o + j, none⟩ = some (.int .i64 x) := by
  obtain ⟨b, o, e, hl, hc⟩ := h.2 (by omega)
  have hj' : j < l.length := by rw [h.1]; exact hj
  have hx : l[j]? = some l[j] := List.getElem?_eq_getElem hj'
  exact ⟨b, o, _, e, hl, hx, hc _ _ hx⟩
/-- a slice of ints of the call's own -/
def OwnI (w : World) (base : Nat) (v : Value) (l : List Int) : Prop := w.ownsRow base 3 1 v l.length (cellsI l)
theorem own_keep9 {w w' : World} {base size n : Nat} {e : TypeId} {v : Value} {xs : List Value} (h : w.ownsRow base e size v n xs) (hb : Below w.heap.size w w') : w'.ownsRow base e size v n xs :=
  World.ownsRow.kept (row := none) h ⟨hb.os, hb.tape, hb.output, hb.size, fun i hi _ => hb.block i hi⟩ (by cases hv : v.ownBlock <;> simp)
theorem OwnI.is {w : World} {base : Nat} {v : Value} {l : List Int} (h : OwnI w base v l) : ∃ A c, v = .slice A l.length c ∧ IS w A l.length l := by
  rcases h.2 with ⟨e, hl⟩ | ⟨g, c, cur, e, _⟩
  · exact ⟨none, 0, by rw [e, hl], by rw [List.length_eq_zero_iff.1 hl]; exact IS.nil_ _ _⟩
  · subst e
    refine ⟨_, c, rfl, rfl, fun _ => ⟨g, 0, rfl, (World.ownsRow.lt h g rfl).2, fun j x hx => ?_⟩⟩
    rw [Nat.zero_add, World.ownsRow.cellAt h j (by have := (List.getElem?_eq_some_iff.1 hx).1; omega)]
    unfold cellsI
    rw [List.getElem?_map, hx]
    rfl
theorem OwnI.nil_ (w : World) (base : Nat) : OwnI w base (.slice none 0 0) [] := ⟨rfl, .inl ⟨rfl, rfl⟩⟩
theorem own_below {B base size n : Nat} {a w w' : World} {e : TypeId} {v : Value} {xs : List Value} (h : Below B a w) (k : w.grownBy w' v.ownBlock) (hB : B ≤ w.heap.size) (ho : w.ownsRow base e size v n xs) (hb : B ≤ base) : Below B a w' :=
  h.grown k hB fun j ej => Nat.le_trans hb (World.ownsRow.lt ho j ej).1
theorem add_at9 (g j : Nat) : (⟨g, 0, none⟩ : Addr).add j = ⟨g, j, none⟩ := by
  unfold Addr.add
  split
  · rename_i h; subst h; rfl
  · simp
theorem lit_cells {w : World} {t : TypeId} (vs : List Value) : ∀ j u, vs[j]? = some u → (w.alloc (.cells vs.toArray t)).cell? ((⟨w.heap.size, 0, none⟩ : Addr).add j) = some u := by
  intro j u hu
  rw [add_at9, (Box.new w vs.toArray t).at_ j]
  simpa using hu
theorem diff_at {α : Type} {xs ys : List α} (hl : xs.length = ys.length) (h : ∀ (j : Nat) (x y : α), xs[j]? = some x → ys[j]? = some y → x = y) : xs = ys := by
  apply List.ext_getElem? 
  intro j
  by_cases hj : j < xs.length
  · rw [List.getElem?_eq_getElem hj, List.getElem?_eq_getElem (by omega)]
    exact congrArg some (h j _ _ (List.getElem?_eq_getElem hj) (List.getElem?_eq_getElem (by omega)))
  · rw [List.getElem?_eq_none (by omega), List.getElem?_eq_none (by omega)]
set_option maxHeartbeats 4000000 in
theorem ints_any (A : Option Addr) (n c : Nat) (xs : List Int) (A' : Option Addr) (m d : Nat) (ys : List Int) (w : World) (hx : IS w A n xs) (hy : IS w A' m ys) (hN : n ≤ 100000) (v : Bool) (hv : decide (xs = ys) = v) :
    Calls Try.prog 30 #[.slice A n c, .slice A' m d] w fun e w' => e = .returned (.bool v) ∧ Below w.heap.size w w' := by
  have HX := hide hx
  have HY := hide hy
  have HL := hide (And.intro hx.1 hy.1)
  clear hx hy
  by_cases hnm : n = m
  · subst hnm
    have HV := hide hv
    clear hv
    go_enter Try.func30, Try.ntmps30
    go_wp2_with fail
    go_loopw [5] (fun a wr => ∃ k : Nat, a = .int .i64 (k : Int) ∧ k ≤ n ∧ Hid (∀ (j : Nat) (x y : Int), j < k → xs[j]? = some x → ys[j]? = some y → x = y) ∧ Hid (Below w.heap.size w wr)) (fun a _ => n - (RowKit.intOf a).toNat)
    case atStart => exact ⟨0, rfl, Nat.zero_le _, hide (fun j x y h => absurd h (by omega)), hide (Below.refl _ _)⟩
    case round =>
      obtain ⟨k, rfl, hk, HA, HB⟩ := hrel
      by_cases hlt : k < n
      · obtain ⟨b, o, x, rfl, hl, hxk, k0⟩ := (HX.out.keep HB.out).at_ hlt
        obtain ⟨b', o', y, rfl, hl', hyk, m0⟩ := (HY.out.keep HB.out).at_ hlt
        have HXK := hide hxk
        have HYK := hide hyk
        have d1 : decide ((k : Int) < (n : Int)) = true := decide_eq_true (by omega)
        have i2 : (0 : Int) ≤ (k : Int) := by omega
        have i3 : (k : Int) < (n : Int) := by omega
        clear hxk hyk
        by_cases he : x = y
        · have HE := hide he
          have e0 : (x != y) = false := by simp [he]
          clear he
          go_wp2_with fail
          go_region
          all_goals
            go_wp2_with fail
            go_roundw
            case rel =>
              refine ⟨k + 1, by go_num, by omega, hide fun j x' y' hj hx' hy' => ?_, hide (by first | exact HB.out.drew | exact HB.out)⟩
              by_cases hjk : j < k
              · exact HA.out j x' y' hjk hx' hy'
              · obtain rfl : j = k := by omega
                rw [HXK.out] at hx'
                rw [HYK.out] at hy'
                injection hx' with hx'
                injection hy' with hy'
                rw [← hx', ← hy']
                exact HE.out
            case measure => simp [RowKit.intOf]; omega
        · have HE := hide he
          have e0 : (x != y) = true := by simp [he]
          clear he
          go_wp2_with fail
          go_region
          all_goals
            go_wp2_with fail
            go_ret
            refine ⟨?_, by first | exact HB.out.drew | exact HB.out⟩
            rw [← HV.out, decide_eq_false fun e => HE.out (by have h1 := HXK.out; rw [e, HYK.out] at h1; injection h1 with h1; exact h1.symm)]
            rfl
      · obtain rfl : k = n := by omega
        have d1 : decide ((k : Int) < (k : Int)) = false := decide_eq_false (by omega)
        go_wp2_with fail
        go_ret
        refine ⟨?_, HB.out⟩
        rw [← HV.out, decide_eq_true (diff_at (by rw [HL.out.1, HL.out.2]) fun j x y hx hy => HA.out j x y (by have := (List.getElem?_eq_some_iff.1 hx).1; have := HL.out.1; omega) hx hy)]
        rfl
  · have e0 : ((n : Int) != (m : Int)) = true := by simp; omega
    have e1 : ¬ (n : Int) = (m : Int) := by omega
    have HV := hide (show v = false by rw [← hv]; exact decide_eq_false fun e => hnm (by rw [← HL.out.1, e, HL.out.2]))
    clear hv
    go_enter Try.func30, Try.ntmps30
    go_wp2_with fail
    go_ret
    exact ⟨by rw [HV.out]; rfl, Below.refl _ _⟩
end Go.Proofs.Ytadmiecoahohiaa
