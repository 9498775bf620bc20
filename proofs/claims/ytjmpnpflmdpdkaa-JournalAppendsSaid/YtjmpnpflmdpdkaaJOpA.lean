/- Arguments opened: slices of entries. -/
import Derived.Test.YtjmpnpflmdpdkaaFOpA
import Derived.Test.YtjmpnpflmdpdkaaJSa
namespace Go.Proofs.Ytjmpnpflmdpdkaa
open Go Go.ChangeShapes Go.WideShapes Go.ChangeAt Go.RowKit FM

theorem cellsE : Try.prog.cellsOf 33 = 2 := by kernel_rfl
theorem cellsBs : Try.prog.cellsOf 31 = 1 := by kernel_rfl
theorem br_trod {H : Type} {enc : TypeId × Value → H} {W : World} {fuel : Nat} {cs : List Value} {x : DataW H × List MemPlace} (hf : DataW.trod enc Try.prog W 0 (fun _ => true) true fuel 31 cs = some x) :
    ∃ (A : Option Addr) (n c : Nat) (xs : List Nat), cs = [.slice A n c] ∧ BR W A n xs ∧ n ≤ c ∧ c ≤ maxLen := by
  rcases open_ints Try.underlying31 Try.underlying5 cellsU8 hf with ⟨hc, _⟩ | ⟨a, len, cap, zs, hc, _, hlc, hcm, hzl, _, hcell, hwf⟩
  · exact ⟨none, 0, 0, [], hc, BR.nil_, Nat.le_refl _, by simp [maxLen]⟩
  · simp only [if_true] at hzl
    have hw : ∀ (j : Nat) (z : Int), zs[j]? = some z → 0 ≤ z ∧ z ≤ 255 := by
      intro j z hj
      have := hwf z (List.mem_of_getElem? hj)
      simp [Lit.wf, IntKind.min, IntKind.max, IntKind.signed, IntKind.bits] at this
      omega
    refine ⟨some a, len, cap, (zs.take len).map Int.toNat, hc, ⟨⟨by simp; omega, fun hpos => ?_⟩, ?_⟩, hlc, hcm⟩
    · have h00 := hcell 0 (by omega)
      have ea : a = ⟨a.block, a.off, none⟩ := spot_none (w := W) (a := a) (by simpa [Addr.add] using h00)
      refine ⟨a.block, a.off, by rw [← ea], fun j x hxj => ?_⟩
      rw [List.getElem?_map] at hxj
      obtain ⟨z, hz, rfl⟩ := Option.map_eq_some_iff.1 hxj
      have hj : j < len := by
        have := (List.getElem?_eq_some_iff.1 hz).1
        simp at this
        omega
      rw [List.getElem?_take_of_lt hj] at hz
      have ej : a.add j = ⟨a.block, a.off + j, none⟩ := by
        rw [ea]
        unfold Addr.add
        split
        · rename_i h; subst h; rfl
        · rfl
      rw [← ej, hcell j (by omega), List.getD, hz]
      have hb := hw j z hz
      show some (Value.int IntKind.u8 z) = some (Value.int IntKind.u8 (z.toNat : Int))
      rw [Int.toNat_of_nonneg hb.1]
    · intro x hx
      obtain ⟨z, hz, rfl⟩ := List.mem_map.1 hx
      obtain ⟨j, hj⟩ := List.getElem?_of_mem (List.mem_of_mem_take hz)
      have := hw j z hj
      omega
theorem add_none (b o j : Nat) : (⟨b, o, none⟩ : Addr).add j = ⟨b, o + j, none⟩ := by
  unfold Addr.add
  split
  · rename_i h; subst h; rfl
  · rfl
theorem rl_blk {w : World} {k : IntKind} {A : Option Addr} {n : Nat} {xs : List Nat} (h : RL w k A n xs) (h0 : 0 < n) : ∀ g, Blk A g → g < w.heap.size := by
  rintro g ⟨o, s, e⟩
  obtain ⟨b, o', e', _⟩ := h.2 h0
  have hlt := h.lt h0 b o' e'
  rw [e] at e'; injection e' with e'; injection e' with e' _ _
  subst e'; exact hlt
set_option maxRecDepth 100000 in
theorem open_el {H : Type} {enc : TypeId × Value → H} {W : World} {base : Nat} {v : Value} {d : DataW H} {p : List MemPlace} (hv : Value.okWide Try.prog W .any base 22 v)
    (h : DataW.Trod enc Try.prog W 0 (fun _ => true) true 22 v d p) : ∃ (A : Option Addr) (n c : Nat) (es : List Ent), v = .slice A n c ∧ AE W A n es ∧ n ≤ c ∧ c ≤ maxLen := by
  obtain ⟨A, len, cap, rfl⟩ := okWide_slice Try.underlying22 hv
  obtain ⟨fuel, hf⟩ := h
  rcases Go.Deep.open_slice Try.underlying22 hf with ⟨hcs, _⟩ | ⟨a, len', cap', m, n, D, Pl, hcs, hb, hl, hm, hmm, hx, hi⟩
  · simp [Value.cells] at hcs
    obtain ⟨rfl, rfl, rfl⟩ := hcs
    exact ⟨none, 0, 0, [], rfl, ⟨[], ⟨rfl, fun h => absurd h (by omega)⟩, EV.nil_, fun e he => by cases he⟩, Nat.le_refl _, by simp [maxLen]⟩
  · simp [Value.cells] at hcs
    obtain ⟨rfl, rfl, rfl⟩ := hcs
    simp only [if_true] at hmm
    have hcell : ∀ i, i < len → ∃ y : Hd × Ent, W.cell? (a.add (i * 2)) = some (.int .u8 (y.1.1 : Int)) ∧ W.cell? (a.add (i * 2 + 1)) = some (.slice y.1.2.1 y.1.2.2.1 y.1.2.2.2) ∧ DV W All y.1 y.2 ∧ y.2.1 < 256 ∧ y.2.2.length ≤ maxLen := by
      intro i hil
      obtain ⟨cs', hc, ht⟩ := hi i (by omega)
      rw [cellsE] at hc
      obtain ⟨_, hcl, hat⟩ := World.cells?_some hc
      obtain ⟨xs, n', _, hx', hl', hlen, hall⟩ := DataW.trod_struct Try.underlying33 ht
      obtain ⟨c0, c1, rfl⟩ : ∃ c0 c1, cs' = [c0, c1] := by
        match cs', hcl with
        | [c0, c1], _ => exact ⟨c0, c1, rfl⟩
      match xs, hlen with
      | [y0, y1], _ =>
        have h0 := hall 0 _ rfl
        have h1 := hall 1 _ rfl
        obtain ⟨x, hax, -, hwf⟩ := DataW.trod_int Try.underlying5 h0
        obtain ⟨Ad, nd, cd, bs, hay, hbr, hnc, hcm⟩ := br_trod h1
        have e0 : c0 = .int .u8 x := by
          have h5 := congrArg List.head? hax
          simpa [show Try.prog.cellsOf 5 = 1 from cellsU8] using h5
        have e1 : c1 = .slice Ad nd cd := by
          have h5 := congrArg List.head? hay
          simpa [show Try.prog.cellsOf 31 = 1 from cellsBs] using h5
        have hx255 : 0 ≤ x ∧ x ≤ 255 := by
          simp [Lit.wf, IntKind.min, IntKind.max, IntKind.signed, IntKind.bits] at hwf
          omega
        have a0 := hat 0 (by omega)
        have a1 := hat 1 (by omega)
        rw [Go.Deep.add_add] at a0 a1
        rw [Nat.add_zero] at a0
        refine ⟨((x.toNat, Ad, nd, cd), (x.toNat, bs)), ?_, ?_, ⟨rfl, hbr, fun h0 g hg => ⟨trivial, rl_blk hbr.1 h0 g hg⟩⟩, by show x.toNat < 256; omega, by show bs.length ≤ _; rw [hbr.len]; omega⟩
        · show _ = some (Value.int .u8 (x.toNat : Int))
          rw [Int.toNat_of_nonneg hx255.1, a0, e0]; rfl
        · show _ = some (Value.slice Ad nd cd)
          rw [a1, e1]; rfl
    obtain ⟨V, hV⟩ := Go.Deep.choose_lt hcell
    have hgh : ∀ j (h : Hd), ((List.range len).map fun i => (V i).1)[j]? = some h → j < len ∧ h = (V j).1 := by
      intro j h hj
      rw [List.getElem?_map] at hj
      obtain ⟨i, hi', rfl⟩ := Option.map_eq_some_iff.1 hj
      have hjl : j < len := by have := (List.getElem?_eq_some_iff.1 hi').1; simpa using this
      rw [List.getElem?_range hjl] at hi'
      injection hi' with hi'; subst hi'
      exact ⟨hjl, rfl⟩
    have hge : ∀ j (e : Ent), ((List.range len).map fun i => (V i).2)[j]? = some e → j < len ∧ e = (V j).2 := by
      intro j e hj
      rw [List.getElem?_map] at hj
      obtain ⟨i, hi', rfl⟩ := Option.map_eq_some_iff.1 hj
      have hjl : j < len := by have := (List.getElem?_eq_some_iff.1 hi').1; simpa using this
      rw [List.getElem?_range hjl] at hi'
      injection hi' with hi'; subst hi'
      exact ⟨hjl, rfl⟩
    refine ⟨some a, len, cap, (List.range len).map fun i => (V i).2, rfl, ⟨(List.range len).map fun i => (V i).1, ⟨by simp, fun hn => ?_⟩, ⟨by simp, fun j h e hjh hje => ?_⟩, fun e he => ?_⟩, hl, hm⟩
    · have h00 := (hV 0 hn).1
      have ea : a = ⟨a.block, a.off, none⟩ := spot_none (w := W) (a := a) (by simpa [Addr.add] using h00)
      refine ⟨a.block, a.off, by rw [← ea], fun j u hu => ?_⟩
      have hj : j < len * 2 := by
        have := (List.getElem?_eq_some_iff.1 hu).1
        rw [flatH_len] at this
        simpa using this
      have hg : ((List.range len).map fun i => (V i).1)[j / 2]? = some (V (j / 2)).1 := by
        rw [List.getElem?_map, List.getElem?_range (by omega)]; rfl
      obtain ⟨f0, f1⟩ := flatH_get hg
      obtain ⟨v0, v1, -⟩ := hV (j / 2) (by omega)
      rw [ea, add_none] at v0 v1
      rcases Nat.mod_two_eq_zero_or_one j with h2 | h2
      · have e : j / 2 * 2 = j := by omega
        rw [e] at f0 v0
        rw [f0] at hu
        injection hu with hu; subst hu
        exact v0
      · have e : j / 2 * 2 + 1 = j := by omega
        rw [e] at f1 v1
        rw [f1] at hu
        injection hu with hu; subst hu
        exact v1
    · obtain ⟨hjl, rfl⟩ := hgh j h hjh
      obtain ⟨_, rfl⟩ := hge j e hje
      exact (hV j hjl).2.2.1
    · obtain ⟨j, hj⟩ := List.getElem?_of_mem he
      obtain ⟨hjl, rfl⟩ := hge j e hj
      exact ⟨(hV j hjl).2.2.2.1, (hV j hjl).2.2.2.2⟩
end Go.Proofs.Ytjmpnpflmdpdkaa
