/- A slice of bytes that reads as numbers. -/
import Derived.Test.YtfhidmlceemhaaaIA
namespace Go.Proofs.Ytfhidmlceemhaaa
open Go Go.RowKit Go.Lib
/-- a slice of n bytes -/
def B8 (w : World) (A : Option Addr) (n : Nat) (xs : List Nat) : Prop :=
  xs.length = n ∧ (0 < n → ∃ b o, A = some ⟨b, o, none⟩ ∧ b < w.heap.size ∧ ∀ (j x : Nat), xs[j]? = some x → w.cell? ⟨b, o + j, none⟩ = some (.int .u8 (x : Int))) ∧ ∀ x ∈ xs, x < 256
theorem B8.nil_ (w : World) (A : Option Addr) : B8 w A 0 [] := ⟨rfl, fun h => absurd h (by decide), fun x h => by cases h⟩
theorem B8.keep {w w' : World} {A : Option Addr} {n : Nat} {xs : List Nat} (h : B8 w A n xs) (hb : Below w.heap.size w w') : B8 w' A n xs :=
  ⟨h.1, fun hn => by
    obtain ⟨b, o, e, hl, hc⟩ := h.2.1 hn
    exact ⟨b, o, e, Nat.lt_of_lt_of_le hl hb.size, fun j u hu => (hb.cell (p := ⟨b, o + j, none⟩) hl).trans (hc j u hu)⟩, h.2.2⟩
theorem B8.at_ {w : World} {A : Option Addr} {n : Nat} {xs : List Nat} (h : B8 w A n xs) {j : Nat} (hj : j < n) : ∃ b o x, A = some ⟨b, o, none⟩ ∧ b < w.heap.size ∧ xs[j]? = some x ∧ x < 256 ∧ w.cell? ⟨b, o + j, none⟩ = some (.int .u8 (x : Int)) := by
  obtain ⟨b, o, e, hl, hc⟩ := h.2.1 (by omega)
  have hj' : j < xs.length := by rw [h.1]; exact hj
  have hx : xs[j]? = some xs[j] := List.getElem?_eq_getElem hj'
  exact ⟨b, o, _, e, hl, hx, h.2.2 _ (List.getElem_mem hj'), hc _ _ hx⟩
end Go.Proofs.Ytfhidmlceemhaaa
