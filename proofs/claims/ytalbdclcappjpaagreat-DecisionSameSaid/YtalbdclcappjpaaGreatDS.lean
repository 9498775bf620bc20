/- slices.SortFunc by marks. -/
import Derived.Test.YtalbdclcappjpaaGreatDG
import Derived.Test.YtalbdclcappjpaaGreatShelf9
import Derived.Test.YtalbdclcappjpaaGreatShelfA
import Derived.Deep.Onto
import Derived.Sort.OwnSortedInts
namespace Go.Proofs.YtalbdclcappjpaaGreat
open Go Go.RowKit Go.Lib
open Go.Sort (HoldsK putRowK flatK get_flatK)

theorem ltM_is (x y : Mk) : ltOf cmpM x y = decide (x.u < y.u ∨ (x.u = y.u ∧ x.n < y.n)) := by
  unfold ltOf  cmpM or2 cI
  refine decide_eq_decide.2 ?_
  skip
  constructor
  · split <;> split <;> (try split) <;> (try split) <;> omega
  · split <;> split <;> (try split) <;> (try split) <;> omega
theorem swoM : Go.Sort.SWO (ltOf cmpM) where
  irrefl x := by rw [ltM_is]; simp
  trans x y z h1 h2 := by rw [ltM_is] at *; simp at *; omega
  ntrans x y z h1 h2 := by rw [ltM_is] at *; simp at *; omega
theorem cmpfM_enters : ∀ args w, (callFunc 30 args).run Tryz.prog w = .ok (.enter 30 args) w := enters_of Tryz.func30 (by kernel_rfl) rfl
theorem cmpfM_lays (blk off size : Nat) (w : World) : CmpLays Tryz.prog 30 #[] eM.enc 2 cmpM blk off size w :=
  fun _ _ _ _ x y => cmpM_any x y _ _ rfl
theorem arr_atM (d : Array Mk) {j : Nat} (hj : j < d.size) : d.toList[j]? = some d[j]! := by
  rw [getElem!_pos d j hj]
  simp [hj]
theorem flatK_atM (d : Array Mk) {t : Nat} (ht : t < d.size * 2) : (flatE eM d.toList)[t]? = some ((eM.enc d[t / 2]!)[t % 2]!) := by
  have h := flatE_get (e := eM) d.toList (t / 2) (t % 2) _ (arr_atM d (show t / 2 < d.size by omega)) (show t % 2 < 2 by omega)
  rw [show t / 2 * eM.k + t % 2 = t by show t / 2 * 2 + t % 2 = t; omega] at h
  rw [h]
  have hl : t % 2 < (eM.enc d[t / 2]!).length := by rw [eM.len]; show t % 2 < 2; omega
  rw [List.getElem?_eq_getElem hl, getElem!_pos (eM.enc d[t / 2]!) (t % 2) hl]
theorem holds_ownM {w : World} {base g c : Nat} {d : Array Mk} (h : Ow eM w base (some ⟨g, 0, none⟩) d.size c d.toList) : HoldsK eM.enc 2 w g 0 d := by
  intro j hj
  have hj2 : j < d.size * 2 := by simpa [flatK] using hj
  have h1 := World.ownsRow.cellAt h j hj2
  have h2 := World.ownsRow.frozenAt h j
  rw [get_flatK _ _ _ _ hj2, Nat.zero_add, h1, flatK_atM d hj2]
  exact ⟨rfl, h2⟩
theorem grownBy_sortedKM {w : World} {g n : Nat} {os : Array Obj} (d : Array Mk) : w.grownBy (sortWorldK eM.enc 2 w g 0 n d os) (some g) := by
  refine ⟨rfl, rfl, rfl, by simp [sortWorldK, putRowK, Go.Sort.putRow, Go.Sort.mapBlock, Go.Sort.ahead, Go.Sort.grow], fun k hk hne => ?_⟩
  unfold sortWorldK
  rw [Go.Sort.heap_grow_old _ _ (by simpa [putRowK, Go.Sort.putRow, Go.Sort.mapBlock, Go.Sort.ahead] using hk)]
  have : g ≠ k := fun e => hne (by rw [e])
  simp [putRowK, Go.Sort.putRow, Go.Sort.mapBlock, Go.Sort.ahead, Array.getElem?_modify, this]
theorem sorted_blockM {w : World} {g n : Nat} {os : Array Obj} {cur : Array Value} {t : TypeId} (d : Array Mk) (h : w.heap[g]? = some (.cells cur t (0, 0))) : ∃ cur', (sortWorldK eM.enc 2 w g 0 n d os).heap[g]? = some (.cells cur' t (0, 0)) ∧ cur'.size = cur.size := by
  unfold sortWorldK
  have hl : g < w.heap.size := (Array.getElem?_eq_some_iff.1 h).1
  rw [Go.Sort.heap_grow_old _ _ (by simpa [putRowK, Go.Sort.putRow, Go.Sort.mapBlock, Go.Sort.ahead] using hl)]
  simp only [putRowK, Go.Sort.putRow, Go.Sort.mapBlock, Go.Sort.ahead, Array.getElem?_modify, if_true, h, Option.map_some, Go.Sort.onCells]
  exact ⟨_, rfl, by simp [Go.Sort.putCells]⟩
theorem weak_ofM {zs : List Mk} (h : ∀ (i j : Nat) (x y : Mk), i < j → zs[i]? = some x → zs[j]? = some y → ltOf cmpM y x = false) : zs.Pairwise fun x y => ltOf cmpM y x = false :=
  List.pairwise_iff_getElem.2 fun i j hi hj hij => h i j _ _ hij (List.getElem?_eq_getElem hi) (List.getElem?_eq_getElem hj)
theorem sortM_pos (B g c : Nat) (ys : List Mk) (w : World) (ho : Ow eM w B (some ⟨g, 0, none⟩) ys.length c ys) (hm : ys.length ≤ 2000) :
    Calls Tryz.prog 57 #[.slice (some ⟨g, 0, none⟩) ys.length c, .func (.func 30) #[] #[]] w fun e w' => e = .returned (.tuple #[]) ∧ ∃ zs, zs.Perm ys ∧ zs.Pairwise (fun x y => ltOf cmpM y x = false) ∧ Ow eM w' B (some ⟨g, 0, none⟩) ys.length c zs ∧ Turn (Is g) w w' := by
  obtain ⟨d, rfl⟩ : ∃ d : Array Mk, d.toList = ys := ⟨ys.toArray, rfl⟩
  rw [Array.length_toList] at ho hm ⊢
  have hg : g < w.heap.size := (World.ownsRow.lt ho g rfl).2
  have hH := holds_ownM ho
  have hcon := AnyQ.slices_SortFunc Tryz.sortM 2 Tryz.isAgg46 Tryz.sizeOf46 eM.enc (fun _ => rfl) eM.one cmpM swoM 30 #[] g 0 c d w cmpfM_enters (cmpfM_lays g 0 d.size w) hH hg (by omega)
  refine Calls.mono hcon ?_
  rintro e w' ⟨rfl, d', n, os, hp, hs, rfl⟩
  obtain ⟨p1, _, p3⟩ := hp
  have p4 : d'.toList.Perm d.toList := by
    have e1 : (d'.extract 0 d.size).toList = d'.toList := by rw [← p1]; simp
    have e2 : (d.extract 0 d.size).toList = d.toList := by simp
    rw [e1, e2] at p3
    exact p3
  have hH' := holdsK_sortWorldK_c eM.enc 2 w g 0 d d' n os hH hg p1
  refine ⟨rfl, d'.toList, p4, weak_ofM ?_, ?_, Turn.grown (grownBy_sortedKM d') fun k hk => by injection hk with hk; exact hk.symm⟩
  · intro i j x y hij hx hy
    have hj : j < d'.size := by
      have := (List.getElem?_eq_some_iff.1 hy).1
      rwa [Array.length_toList] at this
    rw [arr_atM d' hj] at hy
    rw [arr_atM d' (by omega)] at hx
    injection hx with hx
    injection hy with hy
    have := hs i j (Nat.zero_le _) hij (by omega)
    rw [← hx, ← hy]
    exact this
  · obtain ⟨cur, hB, hg', hnc, hcm, hcs, _⟩ := ho.parts
    obtain ⟨cur', hcur, hsz⟩ := sorted_blockM (os := os) (n := n) d' hg'
    refine Ow.made hB hcur hnc hcm (hsz.trans hcs) (by rw [Array.length_toList, p1]) ?_
    apply List.ext_getElem?
    intro t
    show (List.take (d.size * 2) cur'.toList)[t]? = _
    rw [List.getElem?_take, ← p1]
    by_cases ht : t < d'.size * 2
    · rw [if_pos ht, flatK_atM d' ht]
      have h1 := (hH' t (by simpa [flatK] using ht)).1
      rw [get_flatK _ _ _ _ ht, Nat.zero_add, cell_of_row _ g t cur' _ (0, 0) hcur] at h1
      rw [Array.getElem?_toList, h1]
      rfl
    · rw [if_neg ht, List.getElem?_eq_none (by rw [flatE_len, Array.length_toList]; show d'.size * 2 ≤ t; omega)]
set_option maxHeartbeats 1000000 in
theorem sortM_zero (A : Option Addr) (c : Nat) (w : World) :
    Calls Tryz.prog 57 #[.slice A 0 c, .func (.func 30) #[] #[]] w fun e w' => e = .returned (.tuple #[]) ∧ w = w' := by
  have h0 : ∀ (W : World), Calls Tryz.prog 93 #[.slice A 0 c, .int .i64 0, .int .i64 0, .func (.func 30) #[] #[]] W fun e w' => e = .returned (.tuple #[]) ∧ W = w' := by
    intro W
    go_enter Tryz.func93, Tryz.ntmps93
    go_wp2_with fail
    refine wp_loop_rounds 1 ?_
    rw [rounds_succ]
    go_wp2_with fail
    go_end0
    exact ⟨rfl, rfl⟩
  have H0 := hide h0
  clear h0
  have h1 : ∀ (W : World) (l : Int), Calls Tryz.prog 77 #[.slice A 0 c, .int .i64 0, .int .i64 0, .int .i64 l, .func (.func 30) #[] #[]] W fun e w' => e = .returned (.tuple #[]) ∧ W = w' := by
    intro W l
    go_enter Tryz.func77, Tryz.ntmps77
    go_wp2_with fail
    refine wp_loop_rounds 1 ?_
    rw [rounds_succ]
    go_wp2_with fail
    refine (H0.out _).mono ?_
    rintro e w' ⟨rfl, rfl⟩
    go_wp2_with fail
    exact bodyPost_ret (v := .tuple #[]) (by simp [results, Tryz.results77, go_sem]) rfl ⟨rfl, rfl⟩
  have H1 := hide h1
  clear h1
  have h2 := Tryz.bits_Len 0 w (by omega) (by omega)
  have H2 := hide h2
  clear h2
  go_enter Tryz.func57, Tryz.ntmps57
  go_wp2_with fail
  refine H2.out.mono ?_
  rintro e w' ⟨rfl, rfl⟩
  go_wp2_with fail
  refine (H1.out _ _).mono ?_
  rintro e w' ⟨rfl, rfl⟩
  go_wp2_with fail
  go_end0
  exact ⟨rfl, rfl⟩
theorem sortM_any (B n c : Nat) (A : Option Addr) (ys : List Mk) (w : World) (ho : Ow eM w B A n c ys) (hm : n ≤ 2000) :
    Calls Tryz.prog 57 #[.slice A n c, .func (.func 30) #[] #[]] w fun e w' => e = .returned (.tuple #[]) ∧ ∃ zs, zs.Perm ys ∧ zs.Pairwise (fun x y => ltOf cmpM y x = false) ∧ Ow eM w' B A n c zs ∧ Turn (Blk A) w w' := by
  have hl := ho.len
  rcases Nat.eq_zero_or_pos n with h | h
  · subst h
    refine (sortM_zero A c w).mono ?_
    rintro e w' ⟨rfl, rfl⟩
    obtain rfl : ys = [] := List.length_eq_zero_iff.1 hl
    exact ⟨rfl, [], List.Perm.nil, List.Pairwise.nil, ho, Turn.refl _ _⟩
  · obtain ⟨g, rfl, hg1, hg2⟩ := ho.pos h
    subst hl
    refine (sortM_pos B g c ys w ho hm).mono ?_
    rintro e w' ⟨rfl, zs, h1, h2, h3, h4⟩
    exact ⟨rfl, zs, h1, h2, h3, h4.mono fun k _ hk => by rw [show k = g from hk]; exact ⟨0, none, rfl⟩⟩

theorem ltD_is (x y : Dec) : ltOf cmpD x y = decide (x.u < y.u ∨ (x.u = y.u ∧ x.n < y.n)) := by
  unfold ltOf cmpD cmpM or2 cI
  refine decide_eq_decide.2 ?_
  show (if (if x.u < y.u then (-1 : Int) else if y.u < x.u then 1 else 0) = 0 then (if x.n < y.n then (-1 : Int) else if y.n < x.n then 1 else 0) else (if x.u < y.u then (-1 : Int) else if y.u < x.u then 1 else 0)) < 0 ↔ _
  constructor
  · split <;> split <;> (try split) <;> (try split) <;> omega
  · split <;> split <;> (try split) <;> (try split) <;> omega
theorem swoD : Go.Sort.SWO (ltOf cmpD) where
  irrefl x := by rw [ltD_is]; simp
  trans x y z h1 h2 := by rw [ltD_is] at *; simp at *; omega
  ntrans x y z h1 h2 := by rw [ltD_is] at *; simp at *; omega
theorem cmpfD_enters : ∀ args w, (callFunc 28 args).run Tryz.prog w = .ok (.enter 28 args) w := enters_of Tryz.func28 (by kernel_rfl) rfl
theorem cmpfD_lays (blk off size : Nat) (w : World) : CmpLays Tryz.prog 28 #[] eD.enc 5 cmpD blk off size w :=
  fun _ _ _ _ x y => cmpD_any x y _ _ rfl
theorem arr_atD (d : Array Dec) {j : Nat} (hj : j < d.size) : d.toList[j]? = some d[j]! := by
  rw [getElem!_pos d j hj]
  simp [hj]
theorem flatK_atD (d : Array Dec) {t : Nat} (ht : t < d.size * 5) : (flatE eD d.toList)[t]? = some ((eD.enc d[t / 5]!)[t % 5]!) := by
  have h := flatE_get (e := eD) d.toList (t / 5) (t % 5) _ (arr_atD d (show t / 5 < d.size by omega)) (show t % 5 < 5 by omega)
  rw [show t / 5 * eD.k + t % 5 = t by show t / 5 * 5 + t % 5 = t; omega] at h
  rw [h]
  have hl : t % 5 < (eD.enc d[t / 5]!).length := by rw [eD.len]; show t % 5 < 5; omega
  rw [List.getElem?_eq_getElem hl, getElem!_pos (eD.enc d[t / 5]!) (t % 5) hl]
theorem holds_ownD {w : World} {base g c : Nat} {d : Array Dec} (h : Ow eD w base (some ⟨g, 0, none⟩) d.size c d.toList) : HoldsK eD.enc 5 w g 0 d := by
  intro j hj
  have hj2 : j < d.size * 5 := by simpa [flatK] using hj
  have h1 := World.ownsRow.cellAt h j hj2
  have h2 := World.ownsRow.frozenAt h j
  rw [get_flatK _ _ _ _ hj2, Nat.zero_add, h1, flatK_atD d hj2]
  exact ⟨rfl, h2⟩
theorem grownBy_sortedKD {w : World} {g n : Nat} {os : Array Obj} (d : Array Dec) : w.grownBy (sortWorldK eD.enc 5 w g 0 n d os) (some g) := by
  refine ⟨rfl, rfl, rfl, by simp [sortWorldK, putRowK, Go.Sort.putRow, Go.Sort.mapBlock, Go.Sort.ahead, Go.Sort.grow], fun k hk hne => ?_⟩
  unfold sortWorldK
  rw [Go.Sort.heap_grow_old _ _ (by simpa [putRowK, Go.Sort.putRow, Go.Sort.mapBlock, Go.Sort.ahead] using hk)]
  have : g ≠ k := fun e => hne (by rw [e])
  simp [putRowK, Go.Sort.putRow, Go.Sort.mapBlock, Go.Sort.ahead, Array.getElem?_modify, this]
theorem sorted_blockD {w : World} {g n : Nat} {os : Array Obj} {cur : Array Value} {t : TypeId} (d : Array Dec) (h : w.heap[g]? = some (.cells cur t (0, 0))) : ∃ cur', (sortWorldK eD.enc 5 w g 0 n d os).heap[g]? = some (.cells cur' t (0, 0)) ∧ cur'.size = cur.size := by
  unfold sortWorldK
  have hl : g < w.heap.size := (Array.getElem?_eq_some_iff.1 h).1
  rw [Go.Sort.heap_grow_old _ _ (by simpa [putRowK, Go.Sort.putRow, Go.Sort.mapBlock, Go.Sort.ahead] using hl)]
  simp only [putRowK, Go.Sort.putRow, Go.Sort.mapBlock, Go.Sort.ahead, Array.getElem?_modify, if_true, h, Option.map_some, Go.Sort.onCells]
  exact ⟨_, rfl, by simp [Go.Sort.putCells]⟩
theorem weak_ofD {zs : List Dec} (h : ∀ (i j : Nat) (x y : Dec), i < j → zs[i]? = some x → zs[j]? = some y → ltOf cmpD y x = false) : zs.Pairwise fun x y => ltOf cmpD y x = false :=
  List.pairwise_iff_getElem.2 fun i j hi hj hij => h i j _ _ hij (List.getElem?_eq_getElem hi) (List.getElem?_eq_getElem hj)
theorem sortD_pos (B g c : Nat) (ys : List Dec) (w : World) (ho : Ow eD w B (some ⟨g, 0, none⟩) ys.length c ys) (hm : ys.length ≤ 2000) :
    Calls Tryz.prog 54 #[.slice (some ⟨g, 0, none⟩) ys.length c, .func (.func 28) #[] #[]] w fun e w' => e = .returned (.tuple #[]) ∧ ∃ zs, zs.Perm ys ∧ zs.Pairwise (fun x y => ltOf cmpD y x = false) ∧ Ow eD w' B (some ⟨g, 0, none⟩) ys.length c zs ∧ Turn (Is g) w w' := by
  obtain ⟨d, rfl⟩ : ∃ d : Array Dec, d.toList = ys := ⟨ys.toArray, rfl⟩
  rw [Array.length_toList] at ho hm ⊢
  have hg : g < w.heap.size := (World.ownsRow.lt ho g rfl).2
  have hH := holds_ownD ho
  have hcon := AnyQ.slices_SortFunc Tryz.sortD 5 Tryz.isAgg44 Tryz.sizeOf44 eD.enc (fun _ => rfl) eD.one cmpD swoD 28 #[] g 0 c d w cmpfD_enters (cmpfD_lays g 0 d.size w) hH hg (by omega)
  refine Calls.mono hcon ?_
  rintro e w' ⟨rfl, d', n, os, hp, hs, rfl⟩
  obtain ⟨p1, _, p3⟩ := hp
  have p4 : d'.toList.Perm d.toList := by
    have e1 : (d'.extract 0 d.size).toList = d'.toList := by rw [← p1]; simp
    have e2 : (d.extract 0 d.size).toList = d.toList := by simp
    rw [e1, e2] at p3
    exact p3
  have hH' := holdsK_sortWorldK_c eD.enc 5 w g 0 d d' n os hH hg p1
  refine ⟨rfl, d'.toList, p4, weak_ofD ?_, ?_, Turn.grown (grownBy_sortedKD d') fun k hk => by injection hk with hk; exact hk.symm⟩
  · intro i j x y hij hx hy
    have hj : j < d'.size := by
      have := (List.getElem?_eq_some_iff.1 hy).1
      rwa [Array.length_toList] at this
    rw [arr_atD d' hj] at hy
    rw [arr_atD d' (by omega)] at hx
    injection hx with hx
    injection hy with hy
    have := hs i j (Nat.zero_le _) hij (by omega)
    rw [← hx, ← hy]
    exact this
  · obtain ⟨cur, hB, hg', hnc, hcm, hcs, _⟩ := ho.parts
    obtain ⟨cur', hcur, hsz⟩ := sorted_blockD (os := os) (n := n) d' hg'
    refine Ow.made hB hcur hnc hcm (hsz.trans hcs) (by rw [Array.length_toList, p1]) ?_
    apply List.ext_getElem?
    intro t
    show (List.take (d.size * 5) cur'.toList)[t]? = _
    rw [List.getElem?_take, ← p1]
    by_cases ht : t < d'.size * 5
    · rw [if_pos ht, flatK_atD d' ht]
      have h1 := (hH' t (by simpa [flatK] using ht)).1
      rw [get_flatK _ _ _ _ ht, Nat.zero_add, cell_of_row _ g t cur' _ (0, 0) hcur] at h1
      rw [Array.getElem?_toList, h1]
      rfl
    · rw [if_neg ht, List.getElem?_eq_none (by rw [flatE_len, Array.length_toList]; show d'.size * 5 ≤ t; omega)]
set_option maxHeartbeats 1000000 in
theorem sortD_zero (A : Option Addr) (c : Nat) (w : World) :
    Calls Tryz.prog 54 #[.slice A 0 c, .func (.func 28) #[] #[]] w fun e w' => e = .returned (.tuple #[]) ∧ w = w' := by
  have h0 : ∀ (W : World), Calls Tryz.prog 83 #[.slice A 0 c, .int .i64 0, .int .i64 0, .func (.func 28) #[] #[]] W fun e w' => e = .returned (.tuple #[]) ∧ W = w' := by
    intro W
    go_enter Tryz.func83, Tryz.ntmps83
    go_wp2_with fail
    refine wp_loop_rounds 1 ?_
    rw [rounds_succ]
    go_wp2_with fail
    go_end0
    exact ⟨rfl, rfl⟩
  have H0 := hide h0
  clear h0
  have h1 : ∀ (W : World) (l : Int), Calls Tryz.prog 74 #[.slice A 0 c, .int .i64 0, .int .i64 0, .int .i64 l, .func (.func 28) #[] #[]] W fun e w' => e = .returned (.tuple #[]) ∧ W = w' := by
    intro W l
    go_enter Tryz.func74, Tryz.ntmps74
    go_wp2_with fail
    refine wp_loop_rounds 1 ?_
    rw [rounds_succ]
    go_wp2_with fail
    refine (H0.out _).mono ?_
    rintro e w' ⟨rfl, rfl⟩
    go_wp2_with fail
    exact bodyPost_ret (v := .tuple #[]) (by simp [results, Tryz.results74, go_sem]) rfl ⟨rfl, rfl⟩
  have H1 := hide h1
  clear h1
  have h2 := Tryz.bits_Len 0 w (by omega) (by omega)
  have H2 := hide h2
  clear h2
  go_enter Tryz.func54, Tryz.ntmps54
  go_wp2_with fail
  refine H2.out.mono ?_
  rintro e w' ⟨rfl, rfl⟩
  go_wp2_with fail
  refine (H1.out _ _).mono ?_
  rintro e w' ⟨rfl, rfl⟩
  go_wp2_with fail
  go_end0
  exact ⟨rfl, rfl⟩
theorem sortD_any (B n c : Nat) (A : Option Addr) (ys : List Dec) (w : World) (ho : Ow eD w B A n c ys) (hm : n ≤ 2000) :
    Calls Tryz.prog 54 #[.slice A n c, .func (.func 28) #[] #[]] w fun e w' => e = .returned (.tuple #[]) ∧ ∃ zs, zs.Perm ys ∧ zs.Pairwise (fun x y => ltOf cmpD y x = false) ∧ Ow eD w' B A n c zs ∧ Turn (Blk A) w w' := by
  have hl := ho.len
  rcases Nat.eq_zero_or_pos n with h | h
  · subst h
    refine (sortD_zero A c w).mono ?_
    rintro e w' ⟨rfl, rfl⟩
    obtain rfl : ys = [] := List.length_eq_zero_iff.1 hl
    exact ⟨rfl, [], List.Perm.nil, List.Pairwise.nil, ho, Turn.refl _ _⟩
  · obtain ⟨g, rfl, hg1, hg2⟩ := ho.pos h
    subst hl
    refine (sortD_pos B g c ys w ho hm).mono ?_
    rintro e w' ⟨rfl, zs, h1, h2, h3, h4⟩
    exact ⟨rfl, zs, h1, h2, h3, h4.mono fun k _ hk => by rw [show k = g from hk]; exact ⟨0, none, rfl⟩⟩
end Go.Proofs.YtalbdclcappjpaaGreat
