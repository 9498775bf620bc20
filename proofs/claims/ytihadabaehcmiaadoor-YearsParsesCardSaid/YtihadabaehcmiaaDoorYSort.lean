/- slices.Clone and slices.SortFunc at years. -/
import Derived.Test.YtihadabaehcmiaaDoorYList
namespace Go.Proofs.YtihadabaehcmiaaDoor
open Go Go.RowKit Go.Lib
open Go.Sort (HoldsK putRowK flatK get_flatK)

theorem infoY : (Tryd.prog.info? 23).map (fun i => (i.zero, i.size, i.bytes)) = some (some (.agg #[.int .i64 0, .int .i64 0]), 2, 16) := by kernel_rfl

/-- a slice of the call's own that holds the years ys -/
def OwnY (w : World) (base : Nat) (v : Value) (ys : List (Int × Int)) : Prop := w.ownsRow base 23 2 v ys.length (flatY ys)

theorem clone_any (A : Option Addr) (n c : Nat) (ys : List (Int × Int)) (w : World) (hr : YL w A n ys) (hn : 0 < n) (hm : n ≤ 1000) :
    Calls Tryd.prog 45 #[.slice A n c] w fun e w' => ∃ g d, e = .returned (.slice (some ⟨g, 0, none⟩) n d) ∧ w.heap.size ≤ g ∧ OwnY w' w.heap.size (.slice (some ⟨g, 0, none⟩) n d) ys ∧ n ≤ d ∧ d ≤ maxLen ∧ Below w.heap.size w w' := by
  obtain ⟨b, o, rfl, hl, hc⟩ := hr.2 hn
  obtain ⟨i0, hi, hz0, hz1, hz2⟩ := info_parts infoY
  have hcon := AnyE.slices_Clone Tryd.cloneY i0 _ 2 16 hi hz0 hz1 hz2 rfl (by decide) Tryd.sizeOf23 b o n c (flatY ys) w (by rw [flatY_len, hr.1]) (by unfold maxLen; omega) (by omega) hc (flatY_one ys)
  refine Calls.mono hcon ?_
  rintro e w' ⟨v', rfl, h1, h2, h3⟩
  rcases h1.2 with ⟨e, _⟩ | ⟨g, d, cur, e, hg, h4, hnd, hd, h5⟩
  · exact absurd e h2
  · subst e
    exact ⟨g, d, rfl, hg, by unfold OwnY; rw [hr.1]; exact h1, hnd, hd, h3⟩

/-- years whose beginning is in bounds: what the sort compares -/
def YB : Type := { p : Int × Int // -9999 ≤ p.1 ∧ p.1 ≤ 9999 }
instance : Inhabited YB := ⟨⟨(0, 0), by decide⟩⟩
def encB (x : YB) : List Value := encY x.1
def cmpB (x y : YB) : Int := x.1.1 - y.1.1
theorem ltB (x y : YB) : ltOf cmpB x y = decide (x.1.1 < y.1.1) := by
  unfold ltOf cmpB
  exact decide_eq_decide.2 (by omega)
theorem swoB : Go.Sort.SWO (ltOf cmpB) where
  irrefl x := by rw [ltB]; simp
  trans x y z h1 h2 := by rw [ltB] at *; simp at *; omega
  ntrans x y z h1 h2 := by rw [ltB] at *; simp at *; omega
set_option maxHeartbeats 1000000 in
theorem byFrom_any (a b c d : Int) (W : World) (h1 : -9999 ≤ a) (h2 : a ≤ 9999) (h3 : -9999 ≤ c) (h4 : c ≤ 9999) : Calls Tryd.prog 47 #[.agg #[.int .i64 a, .int .i64 b], .agg #[.int .i64 c, .int .i64 d]] W fun e w' => e = .returned (.int .i64 (a - c)) ∧ ∃ q os', w' = Go.Sort.grow (W.drewN q) os' := by
  go_enter Tryd.func47, Tryd.ntmps47
  go_wp2
  go_ret
  exact ⟨rfl, 0, _, by rw [Go.Sort.alloc_eq_grow, Go.Sort.alloc_eq_grow, Go.Sort.grow_grow]; rfl⟩
theorem byFrom_enters : ∀ args w, (callFunc 47 args).run Tryd.prog w = .ok (.enter 47 args) w := enters_of Tryd.func47 (by kernel_rfl) rfl
theorem byFrom_lays (blk off size : Nat) (w : World) : CmpLays Tryd.prog 47 #[] encB 2 cmpB blk off size w :=
  fun _ _ _ _ x y => byFrom_any _ _ _ _ _ x.2.1 x.2.2 y.2.1 y.2.2

def pairs (d : Array YB) : List (Int × Int) := d.toList.map (·.1)
theorem pairs_len (d : Array YB) : (pairs d).length = d.size := by simp [pairs]
theorem pairs_at (d : Array YB) {j : Nat} (hj : j < d.size) : (pairs d)[j]? = some d[j]!.1 := by
  rw [getElem!_pos d j hj]
  simp [pairs, hj]
theorem flatK_at (d : Array YB) {t : Nat} (ht : t < d.size * 2) : (flatY (pairs d))[t]? = some ((encB d[t / 2]!)[t % 2]!) := by
  have := flatY_at _ _ _ (pairs_at d (show t / 2 < d.size by omega))
  generalize d[t / 2]! = x at this ⊢
  rcases Nat.mod_two_eq_zero_or_one t with h | h
  · rw [h, show t = t / 2 * 2 from by omega, this.1]; rfl
  · rw [h, show t = t / 2 * 2 + 1 from by omega, this.2]; rfl
theorem holds_own {w : World} {base g c : Nat} {d : Array YB} (h : OwnY w base (.slice (some ⟨g, 0, none⟩) d.size c) (pairs d)) : HoldsK encB 2 w g 0 d := by
  intro j hj
  have hj2 : j < d.size * 2 := by simpa [flatK] using hj
  unfold OwnY at h
  rw [pairs_len] at h
  have h1 := h.cellAt j hj2
  have h2 := h.frozenAt j
  rw [get_flatK _ _ _ _ hj2, Nat.zero_add, h1, flatK_at d hj2]
  exact ⟨rfl, h2⟩
theorem grownBy_sortedK {w : World} {g n : Nat} {os : Array Obj} (d : Array YB) : w.grownBy (sortWorldK encB 2 w g 0 n d os) (some g) := by
  refine ⟨rfl, rfl, rfl, by simp [sortWorldK, putRowK, Go.Sort.putRow, Go.Sort.mapBlock, Go.Sort.ahead, Go.Sort.grow], fun k hk hne => ?_⟩
  unfold sortWorldK
  rw [Go.Sort.heap_grow_old _ _ (by simpa [putRowK, Go.Sort.putRow, Go.Sort.mapBlock, Go.Sort.ahead] using hk)]
  have : g ≠ k := fun e => hne (by rw [e])
  simp [putRowK, Go.Sort.putRow, Go.Sort.mapBlock, Go.Sort.ahead, Array.getElem?_modify, this]
theorem up_pairs : ∀ (ys : List (Int × Int)), (∀ y ∈ ys, -9999 ≤ y.1 ∧ y.1 ≤ 9999) → ∃ d : Array YB, pairs d = ys
  | [], _ => ⟨#[], rfl⟩
  | y :: ys, h => by
    obtain ⟨d, hd⟩ := up_pairs ys fun z hz => h z (by simp [hz])
    refine ⟨((⟨y, h y List.mem_cons_self⟩ : YB) :: d.toList).toArray, ?_⟩
    show y :: pairs d = y :: ys
    rw [hd]

/-- ascending by the first years -/
def Asc (zs : List (Int × Int)) : Prop := ∀ (i j : Nat) (x y : Int × Int), i < j → zs[i]? = some x → zs[j]? = some y → x.1 ≤ y.1

theorem sort_any (g c : Nat) (ys : List (Int × Int)) (w : World) (base : Nat) (ho : OwnY w base (.slice (some ⟨g, 0, none⟩) ys.length c) ys) (hy : ∀ y ∈ ys, -9999 ≤ y.1 ∧ y.1 ≤ 9999) (hm : ys.length ≤ 1000) :
    Calls Tryd.prog 46 #[.slice (some ⟨g, 0, none⟩) ys.length c, .func (.func 47) #[] #[]] w fun e w' => e = .returned (.tuple #[]) ∧ ∃ zs, zs.Perm ys ∧ Asc zs ∧ YL w' (some ⟨g, 0, none⟩) ys.length zs ∧ w.grownBy w' (some g) := by
  obtain ⟨d, rfl⟩ := up_pairs ys hy
  rw [pairs_len] at ho hm ⊢
  have hg : g < w.heap.size := (World.ownsRow.lt ho g rfl).2
  have hH := holds_own ho
  have hcon := AnyQ.slices_SortFunc Tryd.sortY 2 Tryd.isAgg23 Tryd.sizeOf23 encB (fun _ => rfl) (fun x v hv => by simp [encB, encY] at hv; rcases hv with rfl | rfl <;> rfl) cmpB swoB 47 #[] g 0 c d w byFrom_enters (byFrom_lays g 0 d.size w) hH hg (by omega)
  refine Calls.mono hcon ?_
  rintro e w' ⟨rfl, d', n, os, hp, hs, rfl⟩
  obtain ⟨p1, _, p3⟩ := hp
  have p4 : d'.toList.Perm d.toList := by
    have e1 : (d'.extract 0 d.size).toList = d'.toList := by rw [← p1]; simp
    have e2 : (d.extract 0 d.size).toList = d.toList := by simp
    rw [e1, e2] at p3
    exact p3
  have hH' := holdsK_sortWorldK_c encB 2 w g 0 d d' n os hH hg p1
  refine ⟨rfl, pairs d', p4.map _, ?_, ⟨by rw [pairs_len, p1], fun hn => ⟨g, 0, rfl, ?_, ?_⟩⟩, grownBy_sortedK d'⟩
  · intro i j x y hij hx hy
    have hj : j < d'.size := by
      have := (List.getElem?_eq_some_iff.1 hy).1
      rwa [pairs_len] at this
    rw [pairs_at d' hj] at hy
    rw [pairs_at d' (by omega)] at hx
    injection hx with hx
    injection hy with hy
    have := hs i j (Nat.zero_le _) hij (by omega)
    rw [ltB] at this
    have := of_decide_eq_false this
    rw [← hx, ← hy]
    omega
  · exact Nat.lt_of_lt_of_le hg (grownBy_sortedK d').size
  · intro j u hu
    have hj : j < d'.size * 2 := by
      have := (List.getElem?_eq_some_iff.1 hu).1
      rwa [flatY_len, pairs_len] at this
    rw [flatK_at d' hj] at hu
    injection hu with hu
    have := (hH'.cell (i := j / 2) (c := j % 2) (by omega) (by omega)).1
    rw [← hu, ← this]
    congr 2
    omega
end Go.Proofs.YtihadabaehcmiaaDoor
