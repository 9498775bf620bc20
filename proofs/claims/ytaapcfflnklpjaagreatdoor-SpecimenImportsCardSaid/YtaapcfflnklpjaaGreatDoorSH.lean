/- slices.Clone and slices.SortFunc at specimens; byId. -/
import Derived.Test.YtaapcfflnklpjaaGreatDoorSG
import Derived.Test.YtaapcfflnklpjaaGreatDoorShelfA
import Derived.Test.YtaapcfflnklpjaaGreatDoorYB
import Derived.Deep.Onto
import Derived.Sort.OwnSortedInts
namespace Go.Proofs.YtaapcfflnklpjaaGreatDoor
open Go Go.RowKit Go.Lib
open Go.Sort (HoldsK putRowK flatK get_flatK)
theorem infoS : (Tryz.prog.info? 23).map (fun i => (i.zero, i.size, i.bytes)) = some (some (.agg #[.int .i64 0, .int .i64 0, .int .i64 0, .int .i64 0, .int .i64 0, .int .i64 0, .int .i64 0]), 7, 56) := by kernel_rfl
/-- a slice of the call's own that holds the specimens ys -/
def OwnS (w : World) (base : Nat) (v : Value) (ys : List Spc) : Prop := w.ownsRow base 23 7 v ys.length (flatS ys)
theorem OwnS.keep {w w' : World} {base : Nat} {v : Value} {ys : List Spc} (h : OwnS w base v ys) (hb : Below w.heap.size w w') : OwnS w' base v ys :=
  World.ownsRow.kept (row := none) h ⟨hb.os, hb.tape, hb.output, hb.size, fun i hi _ => hb.block i hi⟩ (by cases hv : v.ownBlock <;> simp)
theorem OwnS.sl {w : World} {base g n c : Nat} {ys : List Spc} (h : OwnS w base (.slice (some ⟨g, 0, none⟩) n c) ys) : SL w (some ⟨g, 0, none⟩) n ys := by
  have hn : n = ys.length := by
    rcases h.2 with ⟨e, _⟩ | ⟨_, _, _, e, _⟩
    · cases e
    · injection e
  subst hn
  exact ⟨rfl, fun _ => ⟨g, 0, rfl, (World.ownsRow.lt h g rfl).2, fun j u hu => by
    rw [Nat.zero_add, World.ownsRow.cellAt h j (by have := (List.getElem?_eq_some_iff.1 hu).1; rwa [flatS_len] at this)]
    exact hu⟩⟩
theorem OwnS.base {w : World} {b b' : Nat} {v : Value} {ys : List Spc} (h : OwnS w b v ys) (hb : b' ≤ b) : OwnS w b' v ys := World.ownsRow.mono h hb
theorem clone_pos (A : Option Addr) (n c : Nat) (ys : List Spc) (w : World) (hr : SL w A n ys) (hn : 0 < n) (hm : n ≤ 1000) :
    Calls Tryz.prog 91 #[.slice A n c] w fun e w' => ∃ g d, e = .returned (.slice (some ⟨g, 0, none⟩) n d) ∧ w.heap.size ≤ g ∧ OwnS w' w.heap.size (.slice (some ⟨g, 0, none⟩) n d) ys ∧ n ≤ d ∧ d ≤ maxLen ∧ Below w.heap.size w w' := by
  obtain ⟨b, o, rfl, hl, hc⟩ := hr.2 hn
  obtain ⟨i0, hi, hz0, hz1, hz2⟩ := info_parts infoS
  have hcon := AnyE.slices_Clone Tryz.cloneS i0 _ 7 56 hi hz0 hz1 hz2 rfl (by decide) Tryz.sizeOf23 b o n c (flatS ys) w (by rw [flatS_len, hr.1]) (by unfold maxLen; omega) (by omega) hc (flatS_one ys)
  refine Calls.mono hcon ?_
  rintro e w' ⟨v', rfl, h1, h2, h3⟩
  rcases h1.2 with ⟨e, _⟩ | ⟨g, d, cur, e, hg, h4, hnd, hd, h5⟩
  · exact absurd e h2
  · subst e
    exact ⟨g, d, rfl, hg, by unfold OwnS; rw [hr.1]; exact h1, hnd, hd, h3⟩
set_option maxHeartbeats 1000000 in
set_option maxRecDepth 100000 in
theorem clone_zero (A : Option Addr) (c : Nat) (w : World) :
    Calls Tryz.prog 91 #[.slice A 0 c] w fun e w' => ∃ X d, e = .returned (.slice X 0 d) ∧ Below w.heap.size w w' := by
  cases A with
  | none =>
    refine Calls.mono (AnyE.slices_Clone_nil Tryz.cloneS 0 c w) ?_
    rintro e w' ⟨rfl, rfl⟩
    exact ⟨_, _, rfl, Below.refl _ _⟩
  | some a =>
    have q := fun (w : World) (a : Option Addr) (n c n' c' : Nat) => Lib.run_eql_slice_nil (P := Tryz.prog) w _ _ a n c n' c' Tryz.underlying31
    go_enter Tryz.func91, Tryz.ntmps91
    go_wp2_with fail
    go_ret
    exact ⟨_, _, rfl, (Below.refl _ _).alloc (Nat.le_refl _) _⟩
/-- what byId compares -/
def cmpIds (x y : Spc) : Int := cI x.i y.i
theorem ltIds (x y : Spc) : ltOf cmpIds x y = decide (x.i < y.i) := by
  unfold ltOf cmpIds cI
  refine decide_eq_decide.2 ?_
  split
  · simp; omega
  · split <;> simp <;> omega
theorem swoIds : Go.Sort.SWO (ltOf cmpIds) where
  irrefl x := by rw [ltIds]; simp
  trans x y z h1 h2 := by rw [ltIds] at *; simp at *; omega
  ntrans x y z h1 h2 := by rw [ltIds] at *; simp at *; omega
set_option maxHeartbeats 1000000 in
theorem byIdf_any (x y : Spc) (W : World) : Calls Tryz.prog 93 #[.agg #[.int .i64 x.i, .int .i64 x.o, .int .i64 x.r, .int .i64 x.a, .int .i64 x.b, .int .i64 x.h, .int .i64 x.m], .agg #[.int .i64 y.i, .int .i64 y.o, .int .i64 y.r, .int .i64 y.a, .int .i64 y.b, .int .i64 y.h, .int .i64 y.m]] W fun e w' => e = .returned (.int .i64 (cmpIds x y)) ∧ ∃ q os', w' = Go.Sort.grow (W.drewN q) os' := by
  obtain ⟨r, hr⟩ : ∃ r, cI x.i y.i = r := ⟨_, rfl⟩
  have HR := hide hr
  clear hr
  go_enter Tryz.func93, Tryz.ntmps93
  go_wp2_with fail
  refine (cmp_any _ _ _ r HR.out).mono ?_
  rintro e w1 ⟨rfl, rfl⟩
  go_wp2_with fail
  go_ret
  exact ⟨by rw [← HR.out]; rfl, 0, _, by rw [Go.Sort.alloc_eq_grow, Go.Sort.alloc_eq_grow, Go.Sort.grow_grow]; rfl⟩
theorem byIdf_enters : ∀ args w, (callFunc 93 args).run Tryz.prog w = .ok (.enter 93 args) w := enters_of Tryz.func93 (by kernel_rfl) rfl
theorem byIdf_lays (blk off size : Nat) (w : World) : CmpLays Tryz.prog 93 #[] encS 7 cmpIds blk off size w :=
  fun _ _ _ _ x y => byIdf_any x y _
theorem arr_at (d : Array Spc) {j : Nat} (hj : j < d.size) : d.toList[j]? = some d[j]! := by
  rw [getElem!_pos d j hj]
  simp [hj]
theorem flatK_at (d : Array Spc) {t : Nat} (ht : t < d.size * 7) : (flatS d.toList)[t]? = some ((encS d[t / 7]!)[t % 7]!) := by
  have h := flatS_get d.toList (t / 7) (t % 7) _ (arr_at d (show t / 7 < d.size by omega)) (by omega)
  rw [show t / 7 * 7 + t % 7 = t by omega] at h
  rw [h]
  have hl : t % 7 < (encS d[t / 7]!).length := by rw [encS_len]; omega
  rw [List.getElem?_eq_getElem hl, getElem!_pos (encS d[t / 7]!) (t % 7) hl]
theorem holds_own {w : World} {base g c : Nat} {d : Array Spc} (h : OwnS w base (.slice (some ⟨g, 0, none⟩) d.size c) d.toList) : HoldsK encS 7 w g 0 d := by
  intro j hj
  have hj2 : j < d.size * 7 := by simpa [flatK] using hj
  unfold OwnS at h
  rw [Array.length_toList] at h
  have h1 := World.ownsRow.cellAt h j hj2
  have h2 := World.ownsRow.frozenAt h j
  rw [get_flatK _ _ _ _ hj2, Nat.zero_add, h1, flatK_at d hj2]
  exact ⟨rfl, h2⟩
theorem grownBy_sortedK {w : World} {g n : Nat} {os : Array Obj} (d : Array Spc) : w.grownBy (sortWorldK encS 7 w g 0 n d os) (some g) := by
  refine ⟨rfl, rfl, rfl, by simp [sortWorldK, putRowK, Go.Sort.putRow, Go.Sort.mapBlock, Go.Sort.ahead, Go.Sort.grow], fun k hk hne => ?_⟩
  unfold sortWorldK
  rw [Go.Sort.heap_grow_old _ _ (by simpa [putRowK, Go.Sort.putRow, Go.Sort.mapBlock, Go.Sort.ahead] using hk)]
  have : g ≠ k := fun e => hne (by rw [e])
  simp [putRowK, Go.Sort.putRow, Go.Sort.mapBlock, Go.Sort.ahead, Array.getElem?_modify, this]
theorem sorted_block {w : World} {g n : Nat} {os : Array Obj} {cur : Array Value} {t : TypeId} (d : Array Spc) (h : w.heap[g]? = some (.cells cur t (0, 0))) : ∃ cur', (sortWorldK encS 7 w g 0 n d os).heap[g]? = some (.cells cur' t (0, 0)) ∧ cur'.size = cur.size := by
  unfold sortWorldK
  have hl : g < w.heap.size := (Array.getElem?_eq_some_iff.1 h).1
  rw [Go.Sort.heap_grow_old _ _ (by simpa [putRowK, Go.Sort.putRow, Go.Sort.mapBlock, Go.Sort.ahead] using hl)]
  simp only [putRowK, Go.Sort.putRow, Go.Sort.mapBlock, Go.Sort.ahead, Array.getElem?_modify, if_true, h, Option.map_some, Go.Sort.onCells]
  exact ⟨_, rfl, by simp [Go.Sort.putCells]⟩
theorem weak_of : ∀ {zs : List Spc}, (∀ (i j : Nat) (x y : Spc), i < j → zs[i]? = some x → zs[j]? = some y → x.i ≤ y.i) → Weak zs
  | [], _ => trivial
  | z :: zs, h => ⟨fun y hy => by
      obtain ⟨j, hj⟩ := List.getElem?_of_mem hy
      exact h 0 (j + 1) z y (by omega) rfl (by simpa using hj), weak_of fun i j x y hij hx hy => h (i + 1) (j + 1) x y (by omega) (by simpa using hx) (by simpa using hy)⟩
theorem sort_pos (g c : Nat) (ys : List Spc) (w : World) (base : Nat) (ho : OwnS w base (.slice (some ⟨g, 0, none⟩) ys.length c) ys) (hm : ys.length ≤ 1000) :
    Calls Tryz.prog 92 #[.slice (some ⟨g, 0, none⟩) ys.length c, .func (.func 93) #[] #[]] w fun e w' => e = .returned (.tuple #[]) ∧ ∃ zs, zs.Perm ys ∧ Weak zs ∧ OwnS w' base (.slice (some ⟨g, 0, none⟩) ys.length c) zs ∧ w.grownBy w' (some g) := by
  obtain ⟨d, rfl⟩ : ∃ d : Array Spc, d.toList = ys := ⟨ys.toArray, rfl⟩
  rw [Array.length_toList] at ho hm ⊢
  have hg : g < w.heap.size := (World.ownsRow.lt ho g rfl).2
  have hH := holds_own ho
  have hcon := AnyQ.slices_SortFunc Tryz.sortS 7 Tryz.isAgg23 Tryz.sizeOf23 encS (fun _ => rfl) encS_one cmpIds swoIds 93 #[] g 0 c d w byIdf_enters (byIdf_lays g 0 d.size w) hH hg (by omega)
  refine Calls.mono hcon ?_
  rintro e w' ⟨rfl, d', n, os, hp, hs, rfl⟩
  obtain ⟨p1, _, p3⟩ := hp
  have p4 : d'.toList.Perm d.toList := by
    have e1 : (d'.extract 0 d.size).toList = d'.toList := by rw [← p1]; simp
    have e2 : (d.extract 0 d.size).toList = d.toList := by simp
    rw [e1, e2] at p3
    exact p3
  have hH' := holdsK_sortWorldK_c encS 7 w g 0 d d' n os hH hg p1
  refine ⟨rfl, d'.toList, p4, weak_of ?_, ?_, grownBy_sortedK d'⟩
  · intro i j x y hij hx hy
    have hj : j < d'.size := by
      have := (List.getElem?_eq_some_iff.1 hy).1
      rwa [Array.length_toList] at this
    rw [arr_at d' hj] at hy
    rw [arr_at d' (by omega)] at hx
    injection hx with hx
    injection hy with hy
    have := hs i j (Nat.zero_le _) hij (by omega)
    rw [ltIds] at this
    have := of_decide_eq_false this
    rw [← hx, ← hy]
    omega
  · rcases ho.2 with ⟨e, _⟩ | ⟨g', c', cur, e, hb, hg', hnc, hcm, hcs, _⟩
    · cases e
    · injection e with e1 e2 e3
      injection e1 with e1
      injection e1 with e1
      subst e1; subst e3
      obtain ⟨cur', hcur, hsz⟩ := sorted_block (os := os) (n := n) d' hg'
      refine ⟨by rw [flatS_len], .inr ⟨g, c, cur', by rw [Array.length_toList, p1], hb, hcur, by rw [Array.length_toList, p1]; rw [Array.length_toList] at hnc; exact hnc, hcm, hsz.trans hcs, ?_⟩⟩
      apply List.ext_getElem?
      intro t
      rw [Array.length_toList, List.getElem?_take]
      by_cases ht : t < d'.size * 7
      · rw [if_pos ht, flatK_at d' ht]
        have h1 := (hH' t (by simpa [flatK] using ht)).1
        rw [get_flatK _ _ _ _ ht, Nat.zero_add, cell_of_row _ g t cur' _ (0, 0) hcur] at h1
        rw [Array.getElem?_toList, h1]
        rfl
      · rw [if_neg ht, List.getElem?_eq_none (by rw [flatS_len, Array.length_toList]; omega)]
set_option maxHeartbeats 1000000 in
theorem sort_zero (A : Option Addr) (c : Nat) (w : World) :
    Calls Tryz.prog 92 #[.slice A 0 c, .func (.func 93) #[] #[]] w fun e w' => e = .returned (.tuple #[]) ∧ w = w' := by
  have h0 : ∀ (W : World), Calls Tryz.prog 141 #[.slice A 0 c, .int .i64 0, .int .i64 0, .func (.func 93) #[] #[]] W fun e w' => e = .returned (.tuple #[]) ∧ W = w' := by
    intro W
    go_enter Tryz.func141, Tryz.ntmps141
    go_wp2_with fail
    refine wp_loop_rounds 1 ?_
    rw [rounds_succ]
    go_wp2_with fail
    go_end0
    exact ⟨rfl, rfl⟩
  have H0 := hide h0
  clear h0
  have h1 : ∀ (W : World) (l : Int), Calls Tryz.prog 121 #[.slice A 0 c, .int .i64 0, .int .i64 0, .int .i64 l, .func (.func 93) #[] #[]] W fun e w' => e = .returned (.tuple #[]) ∧ W = w' := by
    intro W l
    go_enter Tryz.func121, Tryz.ntmps121
    go_wp2_with fail
    refine wp_loop_rounds 1 ?_
    rw [rounds_succ]
    go_wp2_with fail
    refine (H0.out _).mono ?_
    rintro e w' ⟨rfl, rfl⟩
    go_wp2_with fail
    exact bodyPost_ret (v := .tuple #[]) (by simp [results, Tryz.results121, go_sem]) rfl ⟨rfl, rfl⟩
  have H1 := hide h1
  clear h1
  have h2 := Tryz.bits_Len 0 w (by omega) (by omega)
  have H2 := hide h2
  clear h2
  go_enter Tryz.func92, Tryz.ntmps92
  go_wp2_with fail
  refine H2.out.mono ?_
  rintro e w' ⟨rfl, rfl⟩
  go_wp2_with fail
  refine (H1.out _ _).mono ?_
  rintro e w' ⟨rfl, rfl⟩
  go_wp2_with fail
  go_end0
  exact ⟨rfl, rfl⟩
/-- a copy by Ids -/
def GivesB (n : Nat) (ys : List Spc) (w : World) (e : Ending) (w' : World) : Prop :=
  ∃ A d zs, e = .returned (.slice A n d) ∧ zs.Perm ys ∧ Weak zs ∧ SL w' A n zs ∧ (0 < n → ∃ g, A = some ⟨g, 0, none⟩ ∧ w.heap.size ≤ g ∧ OwnS w' w.heap.size (.slice (some ⟨g, 0, none⟩) n d) zs) ∧ Below w.heap.size w w'
set_option maxHeartbeats 1000000 in
theorem byId_any (A : Option Addr) (n c : Nat) (ys : List Spc) (w : World) (hr : SL w A n ys) (hm : n ≤ 1000) :
    Calls Tryz.prog 56 #[.slice A n c] w (GivesB n ys w) := by
  rcases Nat.eq_zero_or_pos n with h | h
  · subst h
    have hy := hr.zero_
    subst hy
    clear hr
    go_enter Tryz.func56, Tryz.ntmps56
    go_wp2_with fail
    refine (clone_zero A c _).mono ?_
    rintro e w1 ⟨X, d, rfl, hb⟩
    go_wp2_with fail
    refine (sort_zero X d _).mono ?_
    rintro e w2 ⟨rfl, rfl⟩
    go_wp2_with fail
    go_ret
    exact ⟨_, _, [], rfl, List.Perm.nil, trivial, SL.nil_ _ _, fun h => absurd h (by decide), hb⟩
  · have hl := hr.1
    have HR := hide hr
    clear hr
    go_enter Tryz.func56, Tryz.ntmps56
    go_wp2_with fail
    refine (clone_pos A n c ys _ HR.out h hm).mono ?_
    rintro e w1 ⟨g, d, rfl, hg, ho, hnd, hd, hb⟩
    subst hl
    go_wp2_with fail
    refine (sort_pos g d ys _ _ ho hm).mono ?_
    rintro e w2 ⟨rfl, zs, hp, hw, ho2, hgr⟩
    go_wp2_with fail
    go_ret
    refine ⟨_, _, zs, rfl, hp, hw, ?_, fun _ => ⟨g, rfl, hg, ?_⟩, below_only hb hgr hb.size hg⟩
    · exact OwnS.sl ho2
    · exact ho2
end Go.Proofs.YtaapcfflnklpjaaGreatDoor
