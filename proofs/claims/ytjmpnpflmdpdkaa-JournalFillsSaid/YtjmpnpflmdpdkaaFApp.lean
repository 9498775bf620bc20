/- append to an empty slice, in a region that draws its order. -/
import Derived.Test.YtjmpnpflmdpdkaaFOpn
namespace Go.Proofs.Ytjmpnpflmdpdkaa
open Go Go.RowKit FM

/-- 'append([]byte{}, xs...)': the empty slice may lie wherever -/
theorem run_append_e (w : World) (ty : TypeId) (S : Addr) (A : Option Addr) (m c : Nat) (news : List Nat) (hr : BR w A m news) (hN : m ≤ 1000000) :
    ∃ A' c' w', (Builtin.append_ #[31, 31] ty #[.slice (some S) 0 0, .slice A m c]).run Try.prog w = .ok (.slice A' m c') w' ∧ BR w' A' m news ∧ Below w.heap.size w w' := by
  obtain ⟨i, hi, hz, hs, hb⟩ := info_parts u8_info
  have ht := Try.underlying31
  by_cases hm : m = 0
  · subst hm
    have hn : news = [] := List.eq_nil_of_length_eq_zero hr.len
    subst hn
    cases A with
    | none => exact ⟨some S, 0, w, by simp [Builtin.append_, run_underlying ht, sizeOf, typeInfo, hi, Builtin.lenOf, Builtin.firstCells, storeCells], BR.nil_, Below.refl _ _⟩
    | some a =>
      have h2 := run_firstCells_some (P := Try.prog) w i.size 0 a 0 c ([] : List Value) (by simp) (fun j v e => by simp at e)
      exact ⟨some S, 0, w, by simp [Builtin.append_, run_underlying ht, sizeOf, typeInfo, hi, Builtin.lenOf, h2, storeCells], BR.nil_, Below.refl _ _⟩
  · obtain ⟨b, o, e', hc⟩ := hr.1.2 (by omega)
    subst e'
    have hnews : ∀ j u, (cells .u8 news)[j]? = some u → w.cell? ((⟨b, o, none⟩ : Addr).add j) = some u := by
      intro j u hu
      rw [cells_getElem?] at hu
      obtain ⟨x, hx, rfl⟩ := Option.map_eq_some_iff.1 hu
      have ea : (⟨b, o, none⟩ : Addr).add j = ⟨b, o + j, none⟩ := by unfold Addr.add; split <;> simp_all
      rw [ea]
      exact hc j x hx
    have hr2 := run_append_grow (P := Try.prog) w 31 ty 5 i (.int .u8 0) ht hi hz S 0 0 [] (by simp) (fun j v e => by simp at e) ⟨b, o, none⟩ m c (cells .u8 news) (by rw [cells_length, hr.len, hs]; omega) hnews (by omega) (by omega) (growslice_fits (by omega) (by rw [hb]; omega))
    simp only [Nat.zero_add] at hr2
    refine ⟨_, _, _, hr2, ⟨⟨hr.len, fun _ => ⟨w.heap.size, 0, rfl, fun j x hx => ?_⟩⟩, hr.2⟩, (Below.refl _ _).drew.alloc (Nat.le_refl _) _⟩
    rw [Nat.zero_add, cell_of_row _ w.heap.size j _ _ (0, 0) (heap_alloc_new w.drew _)]
    have hj : j < news.length := (List.getElem?_eq_some_iff.1 hx).1
    rw [Array.getElem?_append_left (by simp [cells_length]; exact hj)]
    simp [cells_getElem?, hx]
theorem step_append_e {w : World} {ops : Array Oper} {o : Oper} {a : Act} {K : Act → World → Prop} {Q : Exit → Act → World → Prop} {E : Prop} (hgd : o.guard = none) (s x : Operand)
    (ho : o.op = .call { callee := .builtin .append, args := #[s, x], argTypes := #[31, 31] })
    (S : Addr) (hs : a.eval s = .slice (some S) 0 0) (A : Option Addr) (m c : Nat) (news : List Nat) (hx : a.eval x = .slice A m c) (hr : BR w A m news) (hN : m ≤ 1000000)
    (h : ∀ A' c' w', BR w' A' m news → Below w.heap.size w w' → K (a.put o.dst (.slice A' m c')) w') :
    if Region.wanted o (yielded ops a.tmps) = true then Oper.wp Try.prog o a w K Q else E := by
  have hw : Region.wanted o (yielded ops a.tmps) = true := by simp [Region.wanted, hgd]
  rw [if_pos hw]
  obtain ⟨A', c', w', hrun, h3, h4⟩ := run_append_e w o.type S A m c news hr hN
  unfold Oper.wp execOp
  simp only [ho, resolve, invoke, builtin, Sem.run_bind, Sem.run_pure, Result.andThen_ok, List.map_toArray, List.map_cons, List.map_nil, hs, hx, hrun]
  exact h A' c' w' h3 h4
/-- what a reader gives -/
def OpenedR (K : Nat) (D R : List Nat) (E : Nat) (w : World) (e : Ending) (w' : World) : Prop :=
  ∃ A1 n1 c1 A2 n2 c2, e = .returned (.tuple #[.int .u8 (K : Int), .slice A1 n1 c1, .slice A2 n2 c2, .int .i64 (E : Int)]) ∧ BR w' A1 n1 D ∧ BR w' A2 n2 R ∧ Below w.heap.size w w'
theorem openedR_no {E : Nat} {w w' : World} (h : Below w.heap.size w w') : OpenedR 0 [] [] E w (.returned (.tuple #[.int .u8 0, .slice none 0 0, .slice none 0 0, .int .i64 (E : Int)])) w' :=
  ⟨none, 0, 0, none, 0, 0, rfl, BR.nil_, BR.nil_, h⟩
end Go.Proofs.Ytjmpnpflmdpdkaa
