/- A natural, a fraction as an argument, opened. -/
import Derived.Test.YtgfdeihfinlfoaaGreatDoorBaseF
import Derived.Test.YtgfdeihfinlfoaaGreatDoorFRat
import Derived.ChangeSlices
import Derived.ChangeArms
import Derived.Carry
namespace Go.Proofs.YtgfdeihfinlfoaaGreatDoor
open Go Go.ChangeShapes Go.WideShapes Go.ChangeAt Go.RowKit

theorem laidOut : laidOutB Tryz.prog = true := by kernel_rfl
theorem cellsNat : Tryz.prog.cellsOf 24 = 1 := by kernel_rfl
theorem cellsSl : Tryz.prog.cellsOf 22 = 1 := by kernel_rfl
theorem cellsU32 : Tryz.prog.cellsOf 71 = 1 := by kernel_rfl

theorem spot_none {w : World} {a : Addr} {u : Value} (h : w.cell? a = some u) : a = ⟨a.block, a.off, none⟩ := by
  obtain ⟨b, o, s⟩ := a
  cases s with
  | none => rfl
  | some k =>
    unfold World.cell? at h
    split at h
    · simp at h
    · cases h

theorem open_limbs {H : Type} {enc : TypeId × Value → H} {W : World} {c0 : Value} {fuel : Nat} {y0 : DataW H × List MemPlace} (h0 : DataW.trod enc Tryz.prog W 0 (fun _ => true) true fuel 22 [c0] = some y0) :
    ∃ (A : Option Addr) (n c : Nat) (xs : List Nat), c0 = .slice A n c ∧ RL W .u32 A n xs ∧ n ≤ c ∧ c ≤ maxLen ∧ ∀ x ∈ xs, x < 4294967296 := by
  rcases open_ints Tryz.underlying22 Tryz.underlying71 cellsU32 h0 with ⟨hc, _⟩ | ⟨a, len, cap, zs, hc, _, hlc, hcm, hzl, _, hcell, hwf⟩
  · injection hc with hc _
    subst hc
    exact ⟨none, 0, 0, [], rfl, RL.nil_, Nat.le_refl _, by simp [maxLen], by simp⟩
  · injection hc with hc _
    subst hc
    simp only [if_true] at hzl
    have hb : ∀ j (hj : j < zs.length), 0 ≤ zs[j] ∧ zs[j] ≤ 4294967295 := by
      intro j hj
      have := hwf zs[j] (List.getElem_mem hj)
      simp [Lit.wf, IntKind.min, IntKind.max, IntKind.signed, IntKind.bits] at this
      omega
    refine ⟨some a, len, cap, (zs.take len).map Int.toNat, rfl, ⟨by simp; omega, fun hpos => ?_⟩, hlc, hcm, ?_⟩
    · have h00 := hcell 0 (by omega)
      have ea : a = ⟨a.block, a.off, none⟩ := spot_none (w := W) (a := a) (by simpa [Addr.add] using h00)
      refine ⟨a.block, a.off, by rw [← ea], fun j x hxj => ?_⟩
      rw [List.getElem?_map, Option.map_eq_some_iff] at hxj
      obtain ⟨z, hz, rfl⟩ := hxj
      have hj : j < len := by
        have := (List.getElem?_eq_some_iff.1 hz).1
        simp at this
        omega
      have hcj := hcell j (by omega)
      have hzj : zs[j]? = some z := by
        rw [List.getElem?_take_of_lt hj] at hz; exact hz
      obtain ⟨hj2, e⟩ := List.getElem?_eq_some_iff.1 hzj
      have hnn := (hb j hj2).1
      rw [e] at hnn
      have ej : a.add j = ⟨a.block, a.off + j, none⟩ := by
        rw [ea]
        unfold Addr.add
        split
        · rename_i h; subst h; rfl
        · rfl
      rw [← ej, hcj, List.getD, hzj]
      show some (Value.int .u32 z) = some (Value.int .u32 ((z.toNat : Nat) : Int))
      rw [Int.toNat_of_nonneg hnn]
    · intro x hxm
      rw [List.mem_map] at hxm
      obtain ⟨z, hz, rfl⟩ := hxm
      obtain ⟨j, hj, e⟩ := List.getElem_of_mem (List.mem_of_mem_take hz)
      have := hb j hj
      rw [e] at this
      omega
set_option maxRecDepth 100000 in
theorem open_natural {H : Type} {enc : TypeId × Value → H} {W : World} {c0 : Value} {fuel : Nat} {y0 : DataW H × List MemPlace} (h : DataW.trod enc Tryz.prog W 0 (fun _ => true) true fuel 24 [c0] = some y0) :
    ∃ (A : Option Addr) (n c : Nat) (xs : List Nat), c0 = .slice A n c ∧ RL W .u32 A n xs ∧ n ≤ c ∧ c ≤ maxLen ∧ ∀ x ∈ xs, x < 4294967296 := by
  obtain ⟨y0, m, hx, hl, h0⟩ := trod_struct1 Tryz.underlying24 h
  simp only [List.drop_zero, cellsSl, List.take_succ_cons, List.take_zero] at h0
  exact open_limbs h0
theorem cellsFr : Tryz.prog.cellsOf 26 = 3 := by kernel_rfl
theorem cellsBo : Tryz.prog.cellsOf 4 = 1 := by kernel_rfl
set_option maxRecDepth 100000 in
theorem open_frac {H : Type} {enc : TypeId × Value → H} {W : World} {base : Nat} {v : Value} {d : DataW H} {p : List MemPlace} (hv : Value.okWide Tryz.prog W .any base 26 v)
    (h : DataW.Trod enc Tryz.prog W 0 (fun _ => true) true 26 v d p) :
    ∃ (q : Bool) (A : Option Addr) (n c : Nat) (xs : List Nat) (B : Option Addr) (m e : Nat) (ys : List Nat), v = .agg #[.bool q, .slice A n c, .slice B m e] ∧ RL W .u32 A n xs ∧ n ≤ c ∧ c ≤ maxLen ∧ (∀ x ∈ xs, x < 4294967296) ∧ RL W .u32 B m ys ∧ m ≤ e ∧ e ≤ maxLen ∧ ∀ x ∈ ys, x < 4294967296 := by
  obtain ⟨cs, rfl, hsz⟩ := okWide_struct Tryz.underlying26 hv
  obtain ⟨fuel, hf⟩ := h
  obtain ⟨xs, n, _, hx, hl, hlen, hall⟩ := DataW.trod_struct Tryz.underlying26 hf
  rw [cellsFr] at hsz
  obtain ⟨c0, c1, c2, rfl⟩ : ∃ c0 c1 c2, cs = #[c0, c1, c2] := by
    match cs, hsz with
    | ⟨[c0, c1, c2]⟩, _ => exact ⟨c0, c1, c2, rfl⟩
  match xs, hlen with
  | [y0, y1, y2], _ =>
    have h0 := hall 0 _ rfl
    have h1 := hall 1 _ rfl
    have h2 := hall 2 _ rfl
    simp only [Value.cells, List.getElem?_cons_zero, List.getElem?_cons_succ] at h0 h1 h2
    obtain ⟨q, hq, -⟩ := DataW.trod_bool Tryz.underlying4 h0
    obtain ⟨A, n, c, us, rfl, r1, r2, r3, r4⟩ := open_natural h1
    obtain ⟨B, m, e, vs, rfl, s1, s2, s3, s4⟩ := open_natural h2
    have hq2 : c0 = .bool q := by
      have h5 := congrArg List.head? hq
      simpa [show Tryz.prog.cellsOf 4 = 1 from cellsBo] using h5
    subst hq2
    exact ⟨q, A, n, c, us, B, m, e, vs, rfl, r1, r2, r3, r4, s1, s2, s3, s4⟩
/-- an opened fraction, by its number -/
theorem frac_fr {W : World} {q : Bool} {A : Option Addr} {n c : Nat} {xs : List Nat} {B : Option Addr} {m e : Nat} {ys : List Nat} (r1 : RL W .u32 A n xs) (r2 : n ≤ c) (r3 : c ≤ maxLen) (r4 : ∀ x ∈ xs, x < 4294967296) (s1 : RL W .u32 B m ys) (s2 : m ≤ e) (s3 : e ≤ maxLen) (s4 : ∀ x ∈ ys, x < 4294967296) (L : Nat) (h1 : n ≤ L) (h2 : m ≤ L) :
    Fr W L q A n c B m e (qv q (val B9 xs) (val B9 ys)) := ⟨_, _, ⟨xs, r1, r2, r3, h1, r4, rfl⟩, ⟨ys, s1, s2, s3, h2, s4, rfl⟩, rfl⟩
end Go.Proofs.YtgfdeihfinlfoaaGreatDoor
