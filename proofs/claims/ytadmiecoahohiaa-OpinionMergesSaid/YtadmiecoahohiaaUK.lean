/- slices.SortFunc by keys. -/
import Derived.Test.YtadmiecoahohiaaUJ
import Derived.Test.YtadmiecoahohiaaShelf9
import Derived.Deep.Onto
import Derived.Sort.OwnSortedInts
namespace Go.Proofs.Ytadmiecoahohiaa
open Go Go.RowKit Go.Lib
open Go.Sort (HoldsK putRowK flatK get_flatK)

def ckE (x y : Ent) : Int := cI x.k y.k
theorem ltE_is (x y : Ent) : ltOf ckE x y = decide (x.k < y.k) := by
  unfold ltOf ckE cI
  refine decide_eq_decide.2 ?_
  constructor
  · split
    · exact fun _ => by assumption
    · split <;> omega
  · intro h
    rw [if_pos h]
    decide
theorem swoE : Go.Sort.SWO (ltOf ckE) where
  irrefl x := by rw [ltE_is]; simp
  trans x y z h1 h2 := by rw [ltE_is] at *; simp at *; omega
  ntrans x y z h1 h2 := by rw [ltE_is] at *; simp at *; omega
set_option maxHeartbeats 4000000 in
theorem scE_any (x y : Ent) (q : Nat) (t : TypeId) (w : World) (hb : Box w q #[.func (.func 39) #[] #[]] t) (r : Int) (hr : ckE x y = r) :
    Calls Try.prog 65 #[.agg #[.int .i64 x.k, .int .i64 x.v], .agg #[.int .i64 y.k, .int .i64 y.v], .pointer (some ⟨q, 0, none⟩)] w fun e w' => e = .returned (.int .i64 r) ∧ Gr w w' := by
  have HR := hide (show cI x.k y.k = r from hr)
  have HB := hide hb
  clear hr hb
  go_enter Try.func65, Try.ntmps65
  go_wp2_with fail
  generalize hW : (w.alloc _).alloc _ = W
  obtain ⟨B, bx, by'⟩ : Gr w W ∧ Box W w.heap.size #[.int .i64 x.k, .int .i64 x.v] 43 ∧ Box W (w.heap.size + 1) #[.int .i64 y.k, .int .i64 y.v] 43 := by
    subst hW
    exact ⟨(by ((repeat (first | (with_reducible assumption) | (with_reducible exact Gr.refl _) | (with_reducible refine Gr.drew ?_) | (with_reducible refine Gr.alloc ?_ _) | (with_reducible refine Gr.trans ?_ (by assumption)))); (first | done | fail))), (Box.new _ _ _).alloc _, newE _ _ _ (by simp)⟩
  clear hW
  have lx := bx.lt
  have ly := by'.lt
  have KS : Hid (∀ w', Gr W w' → w'.cell? ⟨q, 0, none⟩ = some (.func (.func 39) #[] #[]) ∧ (w'.cell? ⟨w.heap.size, 0, none⟩ = some (.int .i64 x.k) ∧ w'.cell? ⟨w.heap.size, 1, none⟩ = some (.int .i64 x.v)) ∧ w'.cell? ⟨w.heap.size + 1, 0, none⟩ = some (.int .i64 y.k) ∧ w'.cell? ⟨w.heap.size + 1, 1, none⟩ = some (.int .i64 y.v)) := fun w' h =>
    ⟨(HB.out.below (B.trans h).below HB.out.lt).at_ 0, ⟨(bx.below h.below lx).at_ 0, (bx.below h.below lx).at_ 1⟩, (by'.below h.below ly).at_ 0, (by'.below h.below ly).at_ 1⟩
  go_region_held3 (fun w' => w'.cell? ⟨q, 0, none⟩ = some (.func (.func 39) #[] #[]) ∧ (w'.cell? ⟨w.heap.size, 0, none⟩ = some (.int .i64 x.k) ∧ w'.cell? ⟨w.heap.size, 1, none⟩ = some (.int .i64 x.v)) ∧ w'.cell? ⟨w.heap.size + 1, 0, none⟩ = some (.int .i64 y.k) ∧ w'.cell? ⟨w.heap.size + 1, 1, none⟩ = some (.int .i64 y.v))
    (exact KS.out _ (by ((repeat (first | (with_reducible assumption) | (with_reducible exact Gr.refl _) | (with_reducible refine Gr.drew ?_) | (with_reducible refine Gr.alloc ?_ _) | (with_reducible refine Gr.trans ?_ (by assumption)))); (first | done | fail))))
    (first
      | (go_at_call_of 39 (Value.agg #[.int .i64 x.k, .int .i64 x.v]); (with_reducible refine (keyE_any x _).mono ?_); rintro e w1 ⟨rfl, hg⟩)
      | (go_at_call_of 39 (Value.agg #[.int .i64 y.k, .int .i64 y.v]); (with_reducible refine (keyE_any y _).mono ?_); rintro e w1 ⟨rfl, hg⟩)
      | (go_at_call 63; (with_reducible refine (cmp_any x.k y.k _ r HR.out).mono ?_); rintro e w1 ⟨rfl, rfl⟩))
  all_goals
    go_wp2_with fail
    go_ret
    exact ⟨rfl, B.trans (by ((repeat (first | (with_reducible assumption) | (with_reducible exact Gr.refl _) | (with_reducible refine Gr.drew ?_) | (with_reducible refine Gr.alloc ?_ _) | (with_reducible refine Gr.trans ?_ (by assumption)))); (first | done | fail)))⟩
theorem cmpfE_enters : ∀ args w, (callFunc 65 args).run Try.prog w = .ok (.enter 65 args) w := enters_of Try.func65 (by kernel_rfl) rfl
theorem boxKE {w : World} {g n q : Nat} {os : Array Obj} {vs : Array Value} {t : TypeId} (d : Array Ent) (h : Box w q vs t) (hq : q ≠ g) : Box (sortWorldK eE.enc 2 w g 0 n d os) q vs t := by
  have hk := h.lt
  unfold Box at h ⊢
  rw [← h]
  unfold sortWorldK
  rw [Go.Sort.heap_grow_old _ _ (by simpa [putRowK, Go.Sort.putRow, Go.Sort.mapBlock, Go.Sort.ahead] using hk)]
  have : g ≠ q := fun e => hq e.symm
  simp [putRowK, Go.Sort.putRow, Go.Sort.mapBlock, Go.Sort.ahead, Array.getElem?_modify, this]
theorem cmpfE_lays (blk size q : Nat) (t : TypeId) (w : World) (hb : Box w q #[.func (.func 39) #[] #[]] t) (hq : q ≠ blk) : CmpLays Try.prog 65 #[.pointer (some ⟨q, 0, none⟩)] eE.enc 2 ckE blk 0 size w :=
  fun _ _ dk _ x y => scE_any x y q t _ (boxKE dk hb hq) _ rfl
theorem arr_atE (d : Array Ent) {j : Nat} (hj : j < d.size) : d.toList[j]? = some d[j]! := by
  rw [getElem!_pos d j hj]
  simp [hj]
theorem flatK_atE (d : Array Ent) {t : Nat} (ht : t < d.size * 2) : (flatE eE d.toList)[t]? = some ((eE.enc d[t / 2]!)[t % 2]!) := by
  have h := flatE_get (e := eE) d.toList (t / 2) (t % 2) _ (arr_atE d (show t / 2 < d.size by omega)) (show t % 2 < 2 by omega)
  rw [show t / 2 * eE.k + t % 2 = t by show t / 2 * 2 + t % 2 = t; omega] at h
  rw [h]
  have hl : t % 2 < (eE.enc d[t / 2]!).length := by rw [eE.len]; show t % 2 < 2; omega
  rw [List.getElem?_eq_getElem hl, getElem!_pos (eE.enc d[t / 2]!) (t % 2) hl]
theorem holds_ownE {w : World} {base g c : Nat} {d : Array Ent} (h : Ow eE w base (some ⟨g, 0, none⟩) d.size c d.toList) : HoldsK eE.enc 2 w g 0 d := by
  intro j hj
  have hj2 : j < d.size * 2 := by simpa [flatK] using hj
  have h1 := World.ownsRow.cellAt h j hj2
  have h2 := World.ownsRow.frozenAt h j
  rw [get_flatK _ _ _ _ hj2, Nat.zero_add, h1, flatK_atE d hj2]
  exact ⟨rfl, h2⟩
theorem grownBy_sortedKE {w : World} {g n : Nat} {os : Array Obj} (d : Array Ent) : w.grownBy (sortWorldK eE.enc 2 w g 0 n d os) (some g) := by
  refine ⟨rfl, rfl, rfl, by simp [sortWorldK, putRowK, Go.Sort.putRow, Go.Sort.mapBlock, Go.Sort.ahead, Go.Sort.grow], fun k hk hne => ?_⟩
  unfold sortWorldK
  rw [Go.Sort.heap_grow_old _ _ (by simpa [putRowK, Go.Sort.putRow, Go.Sort.mapBlock, Go.Sort.ahead] using hk)]
  have : g ≠ k := fun e => hne (by rw [e])
  simp [putRowK, Go.Sort.putRow, Go.Sort.mapBlock, Go.Sort.ahead, Array.getElem?_modify, this]
theorem sorted_blockE {w : World} {g n : Nat} {os : Array Obj} {cur : Array Value} {t : TypeId} (d : Array Ent) (h : w.heap[g]? = some (.cells cur t (0, 0))) : ∃ cur', (sortWorldK eE.enc 2 w g 0 n d os).heap[g]? = some (.cells cur' t (0, 0)) ∧ cur'.size = cur.size := by
  unfold sortWorldK
  have hl : g < w.heap.size := (Array.getElem?_eq_some_iff.1 h).1
  rw [Go.Sort.heap_grow_old _ _ (by simpa [putRowK, Go.Sort.putRow, Go.Sort.mapBlock, Go.Sort.ahead] using hl)]
  simp only [putRowK, Go.Sort.putRow, Go.Sort.mapBlock, Go.Sort.ahead, Array.getElem?_modify, if_true, h, Option.map_some, Go.Sort.onCells]
  exact ⟨_, rfl, by simp [Go.Sort.putCells]⟩
theorem weak_ofE {zs : List Ent} (h : ∀ (i j : Nat) (x y : Ent), i < j → zs[i]? = some x → zs[j]? = some y → ltOf ckE y x = false) : zs.Pairwise fun x y => ltOf ckE y x = false :=
  List.pairwise_iff_getElem.2 fun i j hi hj hij => h i j _ _ hij (List.getElem?_eq_getElem hi) (List.getElem?_eq_getElem hj)
theorem sortE_pos (B g c q : Nat) (t : TypeId) (ys : List Ent) (w : World) (hb : Box w q #[.func (.func 39) #[] #[]] t) (hq : q ≠ g) (ho : Ow eE w B (some ⟨g, 0, none⟩) ys.length c ys) (hm : ys.length ≤ 2000) :
    Calls Try.prog 64 #[.slice (some ⟨g, 0, none⟩) ys.length c, .func (.func 65) #[] #[.pointer (some ⟨q, 0, none⟩)]] w fun e w' => e = .returned (.tuple #[]) ∧ ∃ zs, zs.Perm ys ∧ zs.Pairwise (fun x y => ltOf ckE y x = false) ∧ Ow eE w' B (some ⟨g, 0, none⟩) ys.length c zs ∧ Turn (Is g) w w' := by
  obtain ⟨d, rfl⟩ : ∃ d : Array Ent, d.toList = ys := ⟨ys.toArray, rfl⟩
  rw [Array.length_toList] at ho hm ⊢
  have hg : g < w.heap.size := (World.ownsRow.lt ho g rfl).2
  have hH := holds_ownE ho
  have hcon := AnyQ.slices_SortFunc Try.sortE 2 Try.isAgg43 Try.sizeOf43 eE.enc (fun _ => rfl) eE.one ckE swoE 65 #[.pointer (some ⟨q, 0, none⟩)] g 0 c d w cmpfE_enters (cmpfE_lays g d.size q t w hb hq) hH hg (by omega)
  refine Calls.mono hcon ?_
  rintro e w' ⟨rfl, d', n, os, hp, hs, rfl⟩
  obtain ⟨p1, _, p3⟩ := hp
  have p4 : d'.toList.Perm d.toList := by
    have e1 : (d'.extract 0 d.size).toList = d'.toList := by rw [← p1]; simp
    have e2 : (d.extract 0 d.size).toList = d.toList := by simp
    rw [e1, e2] at p3
    exact p3
  have hH' := holdsK_sortWorldK_c eE.enc 2 w g 0 d d' n os hH hg p1
  refine ⟨rfl, d'.toList, p4, weak_ofE ?_, ?_, Turn.grown (grownBy_sortedKE d') fun k hk => by injection hk with hk; exact hk.symm⟩
  · intro i j x y hij hx hy
    have hj : j < d'.size := by
      have := (List.getElem?_eq_some_iff.1 hy).1
      rwa [Array.length_toList] at this
    rw [arr_atE d' hj] at hy
    rw [arr_atE d' (by omega)] at hx
    injection hx with hx
    injection hy with hy
    have := hs i j (Nat.zero_le _) hij (by omega)
    rw [← hx, ← hy]
    exact this
  · obtain ⟨cur, hB, hg', hnc, hcm, hcs, _⟩ := ho.parts
    obtain ⟨cur', hcur, hsz⟩ := sorted_blockE (os := os) (n := n) d' hg'
    refine Ow.made hB hcur hnc hcm (hsz.trans hcs) (by rw [Array.length_toList, p1]) ?_
    apply List.ext_getElem?
    intro t
    show (List.take (d.size * 2) cur'.toList)[t]? = _
    rw [List.getElem?_take, ← p1]
    by_cases ht : t < d'.size * 2
    · rw [if_pos ht, flatK_atE d' ht]
      have h1 := (hH' t (by simpa [flatK] using ht)).1
      rw [get_flatK _ _ _ _ ht, Nat.zero_add, cell_of_row _ g t cur' _ (0, 0) hcur] at h1
      rw [Array.getElem?_toList, h1]
      rfl
    · rw [if_neg ht, List.getElem?_eq_none (by rw [flatE_len, Array.length_toList]; show d'.size * 2 ≤ t; omega)]
set_option maxHeartbeats 1000000 in
theorem sortE_zero (q : Nat) (A : Option Addr) (c : Nat) (w : World) :
    Calls Try.prog 64 #[.slice A 0 c, .func (.func 65) #[] #[.pointer (some ⟨q, 0, none⟩)]] w fun e w' => e = .returned (.tuple #[]) ∧ w = w' := by
  have h0 : ∀ (W : World), Calls Try.prog 86 #[.slice A 0 c, .int .i64 0, .int .i64 0, .func (.func 65) #[] #[.pointer (some ⟨q, 0, none⟩)]] W fun e w' => e = .returned (.tuple #[]) ∧ W = w' := by
    intro W
    go_enter Try.func86, Try.ntmps86
    go_wp2_with fail
    refine wp_loop_rounds 1 ?_
    rw [rounds_succ]
    go_wp2_with fail
    go_end0
    exact ⟨rfl, rfl⟩
  have H0 := hide h0
  clear h0
  have h1 : ∀ (W : World) (l : Int), Calls Try.prog 73 #[.slice A 0 c, .int .i64 0, .int .i64 0, .int .i64 l, .func (.func 65) #[] #[.pointer (some ⟨q, 0, none⟩)]] W fun e w' => e = .returned (.tuple #[]) ∧ W = w' := by
    intro W l
    go_enter Try.func73, Try.ntmps73
    go_wp2_with fail
    refine wp_loop_rounds 1 ?_
    rw [rounds_succ]
    go_wp2_with fail
    refine (H0.out _).mono ?_
    rintro e w' ⟨rfl, rfl⟩
    go_wp2_with fail
    exact bodyPost_ret (v := .tuple #[]) (by simp [results, Try.results73, go_sem]) rfl ⟨rfl, rfl⟩
  have H1 := hide h1
  clear h1
  have h2 := Try.bits_Len 0 w (by omega) (by omega)
  have H2 := hide h2
  clear h2
  go_enter Try.func64, Try.ntmps64
  go_wp2_with fail
  refine H2.out.mono ?_
  rintro e w' ⟨rfl, rfl⟩
  go_wp2_with fail
  refine (H1.out _ _).mono ?_
  rintro e w' ⟨rfl, rfl⟩
  go_wp2_with fail
  go_end0
  exact ⟨rfl, rfl⟩
theorem sortE_any (B n c q : Nat) (t : TypeId) (A : Option Addr) (ys : List Ent) (w : World) (hb : Box w q #[.func (.func 39) #[] #[]] t) (hq : ¬ Blk A q) (ho : Ow eE w B A n c ys) (hm : n ≤ 2000) :
    Calls Try.prog 64 #[.slice A n c, .func (.func 65) #[] #[.pointer (some ⟨q, 0, none⟩)]] w fun e w' => e = .returned (.tuple #[]) ∧ ∃ zs, zs.Perm ys ∧ zs.Pairwise (fun x y => ltOf ckE y x = false) ∧ Ow eE w' B A n c zs ∧ Turn (Blk A) w w' := by
  have hl := ho.len
  rcases Nat.eq_zero_or_pos n with h | h
  · subst h
    refine (sortE_zero q A c w).mono ?_
    rintro e w' ⟨rfl, rfl⟩
    obtain rfl : ys = [] := List.length_eq_zero_iff.1 hl
    exact ⟨rfl, [], List.Perm.nil, List.Pairwise.nil, ho, Turn.refl _ _⟩
  · obtain ⟨g, rfl, hg1, hg2⟩ := ho.pos h
    subst hl
    refine (sortE_pos B g c q t ys w hb (fun e => hq (by rw [e]; exact ⟨0, none, rfl⟩)) ho hm).mono ?_
    rintro e w' ⟨rfl, zs, h1, h2, h3, h4⟩
    exact ⟨rfl, zs, h1, h2, h3, h4.mono fun k _ hk => by rw [show k = g from hk]; exact ⟨0, none, rfl⟩⟩

set_option maxHeartbeats 2000000 in
theorem sortByE_any (B n c : Nat) (A : Option Addr) (ys : List Ent) (w : World) (ho : Ow eE w B A n c ys) (hB : B ≤ w.heap.size) (hm : n ≤ 2000) :
    Calls Try.prog 51 #[.slice A n c, .func (.func 39) #[] #[]] w fun e w' => e = .returned (.tuple #[]) ∧ ∃ zs, zs.Perm ys ∧ zs.Pairwise (fun x y => x.k ≤ y.k) ∧ Ow eE w' B A n c zs ∧ Below B w w' := by
  have H := hide (fun (t : TypeId) => sortE_any B n c w.heap.size t A ys (w.alloc (.cells #[.func (.func 39) #[] #[]] t)) (newE _ _ _ rfl) (fun h => Nat.lt_irrefl _ (ho.blk _ h).2) (ho.keep ((Below.refl _ _).alloc (Nat.le_refl _) _)) hm)
  have HB := hide hB
  have HO := hide ho
  clear ho
  go_enter Try.func51, Try.ntmps51
  go_wp2_with fail
  refine (H.out _).mono ?_
  rintro e w1 ⟨rfl, zs, p1, p2, o1, t1⟩
  have P1 := hide p1
  have P2 := hide (show zs.Pairwise (fun x y => x.k ≤ y.k) from p2.imp fun {x y} h => by rw [ltE_is] at h; have := of_decide_eq_false h; omega)
  have O1 := hide o1
  have B1 := hide (((Below.refl B w).alloc HB.out _).trans (t1.below (fun k hk => (HO.out.blk k hk).1) (Nat.le_trans HB.out (by simp))))
  clear p1 p2 o1 t1
  go_wp2_with fail
  go_end0
  exact ⟨rfl, zs, P1.out, P2.out, O1.out, B1.out⟩

def ckC (x y : Chg) : Int := cI x.k y.k
theorem ltC_is (x y : Chg) : ltOf ckC x y = decide (x.k < y.k) := by
  unfold ltOf ckC cI
  refine decide_eq_decide.2 ?_
  constructor
  · split
    · exact fun _ => by assumption
    · split <;> omega
  · intro h
    rw [if_pos h]
    decide
theorem swoC : Go.Sort.SWO (ltOf ckC) where
  irrefl x := by rw [ltC_is]; simp
  trans x y z h1 h2 := by rw [ltC_is] at *; simp at *; omega
  ntrans x y z h1 h2 := by rw [ltC_is] at *; simp at *; omega
set_option maxHeartbeats 4000000 in
theorem scC_any (x y : Chg) (q : Nat) (t : TypeId) (w : World) (hb : Box w q #[.func (.func 42) #[] #[]] t) (r : Int) (hr : ckC x y = r) :
    Calls Try.prog 67 #[.agg #[.int .i64 x.k, .int .i64 x.o, .int .i64 x.n, .bool x.h, .bool x.s], .agg #[.int .i64 y.k, .int .i64 y.o, .int .i64 y.n, .bool y.h, .bool y.s], .pointer (some ⟨q, 0, none⟩)] w fun e w' => e = .returned (.int .i64 r) ∧ Gr w w' := by
  have HR := hide (show cI x.k y.k = r from hr)
  have HB := hide hb
  clear hr hb
  go_enter Try.func67, Try.ntmps67
  go_wp2_with fail
  generalize hW : (w.alloc _).alloc _ = W
  obtain ⟨B, bx, by'⟩ : Gr w W ∧ Box W w.heap.size #[.int .i64 x.k, .int .i64 x.o, .int .i64 x.n, .bool x.h, .bool x.s] 46 ∧ Box W (w.heap.size + 1) #[.int .i64 y.k, .int .i64 y.o, .int .i64 y.n, .bool y.h, .bool y.s] 46 := by
    subst hW
    exact ⟨(by ((repeat (first | (with_reducible assumption) | (with_reducible exact Gr.refl _) | (with_reducible refine Gr.drew ?_) | (with_reducible refine Gr.alloc ?_ _) | (with_reducible refine Gr.trans ?_ (by assumption)))); (first | done | fail))), (Box.new _ _ _).alloc _, newE _ _ _ (by simp)⟩
  clear hW
  have lx := bx.lt
  have ly := by'.lt
  have KS : Hid (∀ w', Gr W w' → w'.cell? ⟨q, 0, none⟩ = some (.func (.func 42) #[] #[]) ∧ (w'.cell? ⟨w.heap.size, 0, none⟩ = some (.int .i64 x.k) ∧ w'.cell? ⟨w.heap.size, 1, none⟩ = some (.int .i64 x.o) ∧ w'.cell? ⟨w.heap.size, 2, none⟩ = some (.int .i64 x.n) ∧ w'.cell? ⟨w.heap.size, 3, none⟩ = some (.bool x.h) ∧ w'.cell? ⟨w.heap.size, 4, none⟩ = some (.bool x.s)) ∧ w'.cell? ⟨w.heap.size + 1, 0, none⟩ = some (.int .i64 y.k) ∧ w'.cell? ⟨w.heap.size + 1, 1, none⟩ = some (.int .i64 y.o) ∧ w'.cell? ⟨w.heap.size + 1, 2, none⟩ = some (.int .i64 y.n) ∧ w'.cell? ⟨w.heap.size + 1, 3, none⟩ = some (.bool y.h) ∧ w'.cell? ⟨w.heap.size + 1, 4, none⟩ = some (.bool y.s)) := fun w' h =>
    ⟨(HB.out.below (B.trans h).below HB.out.lt).at_ 0, ⟨(bx.below h.below lx).at_ 0, (bx.below h.below lx).at_ 1, (bx.below h.below lx).at_ 2, (bx.below h.below lx).at_ 3, (bx.below h.below lx).at_ 4⟩, (by'.below h.below ly).at_ 0, (by'.below h.below ly).at_ 1, (by'.below h.below ly).at_ 2, (by'.below h.below ly).at_ 3, (by'.below h.below ly).at_ 4⟩
  go_region_held3 (fun w' => w'.cell? ⟨q, 0, none⟩ = some (.func (.func 42) #[] #[]) ∧ (w'.cell? ⟨w.heap.size, 0, none⟩ = some (.int .i64 x.k) ∧ w'.cell? ⟨w.heap.size, 1, none⟩ = some (.int .i64 x.o) ∧ w'.cell? ⟨w.heap.size, 2, none⟩ = some (.int .i64 x.n) ∧ w'.cell? ⟨w.heap.size, 3, none⟩ = some (.bool x.h) ∧ w'.cell? ⟨w.heap.size, 4, none⟩ = some (.bool x.s)) ∧ w'.cell? ⟨w.heap.size + 1, 0, none⟩ = some (.int .i64 y.k) ∧ w'.cell? ⟨w.heap.size + 1, 1, none⟩ = some (.int .i64 y.o) ∧ w'.cell? ⟨w.heap.size + 1, 2, none⟩ = some (.int .i64 y.n) ∧ w'.cell? ⟨w.heap.size + 1, 3, none⟩ = some (.bool y.h) ∧ w'.cell? ⟨w.heap.size + 1, 4, none⟩ = some (.bool y.s))
    (exact KS.out _ (by ((repeat (first | (with_reducible assumption) | (with_reducible exact Gr.refl _) | (with_reducible refine Gr.drew ?_) | (with_reducible refine Gr.alloc ?_ _) | (with_reducible refine Gr.trans ?_ (by assumption)))); (first | done | fail))))
    (first
      | (go_at_call_of 42 (Value.agg #[.int .i64 x.k, .int .i64 x.o, .int .i64 x.n, .bool x.h, .bool x.s]); (with_reducible refine (keyC_any x _).mono ?_); rintro e w1 ⟨rfl, hg⟩)
      | (go_at_call_of 42 (Value.agg #[.int .i64 y.k, .int .i64 y.o, .int .i64 y.n, .bool y.h, .bool y.s]); (with_reducible refine (keyC_any y _).mono ?_); rintro e w1 ⟨rfl, hg⟩)
      | (go_at_call 63; (with_reducible refine (cmp_any x.k y.k _ r HR.out).mono ?_); rintro e w1 ⟨rfl, rfl⟩))
  all_goals
    go_wp2_with fail
    go_ret
    exact ⟨rfl, B.trans (by ((repeat (first | (with_reducible assumption) | (with_reducible exact Gr.refl _) | (with_reducible refine Gr.drew ?_) | (with_reducible refine Gr.alloc ?_ _) | (with_reducible refine Gr.trans ?_ (by assumption)))); (first | done | fail)))⟩
theorem cmpfC_enters : ∀ args w, (callFunc 67 args).run Try.prog w = .ok (.enter 67 args) w := enters_of Try.func67 (by kernel_rfl) rfl
theorem boxKC {w : World} {g n q : Nat} {os : Array Obj} {vs : Array Value} {t : TypeId} (d : Array Chg) (h : Box w q vs t) (hq : q ≠ g) : Box (sortWorldK eC.enc 5 w g 0 n d os) q vs t := by
  have hk := h.lt
  unfold Box at h ⊢
  rw [← h]
  unfold sortWorldK
  rw [Go.Sort.heap_grow_old _ _ (by simpa [putRowK, Go.Sort.putRow, Go.Sort.mapBlock, Go.Sort.ahead] using hk)]
  have : g ≠ q := fun e => hq e.symm
  simp [putRowK, Go.Sort.putRow, Go.Sort.mapBlock, Go.Sort.ahead, Array.getElem?_modify, this]
theorem cmpfC_lays (blk size q : Nat) (t : TypeId) (w : World) (hb : Box w q #[.func (.func 42) #[] #[]] t) (hq : q ≠ blk) : CmpLays Try.prog 67 #[.pointer (some ⟨q, 0, none⟩)] eC.enc 5 ckC blk 0 size w :=
  fun _ _ dk _ x y => scC_any x y q t _ (boxKC dk hb hq) _ rfl
theorem arr_atC (d : Array Chg) {j : Nat} (hj : j < d.size) : d.toList[j]? = some d[j]! := by
  rw [getElem!_pos d j hj]
  simp [hj]
theorem flatK_atC (d : Array Chg) {t : Nat} (ht : t < d.size * 5) : (flatE eC d.toList)[t]? = some ((eC.enc d[t / 5]!)[t % 5]!) := by
  have h := flatE_get (e := eC) d.toList (t / 5) (t % 5) _ (arr_atC d (show t / 5 < d.size by omega)) (show t % 5 < 5 by omega)
  rw [show t / 5 * eC.k + t % 5 = t by show t / 5 * 5 + t % 5 = t; omega] at h
  rw [h]
  have hl : t % 5 < (eC.enc d[t / 5]!).length := by rw [eC.len]; show t % 5 < 5; omega
  rw [List.getElem?_eq_getElem hl, getElem!_pos (eC.enc d[t / 5]!) (t % 5) hl]
theorem holds_ownC {w : World} {base g c : Nat} {d : Array Chg} (h : Ow eC w base (some ⟨g, 0, none⟩) d.size c d.toList) : HoldsK eC.enc 5 w g 0 d := by
  intro j hj
  have hj2 : j < d.size * 5 := by simpa [flatK] using hj
  have h1 := World.ownsRow.cellAt h j hj2
  have h2 := World.ownsRow.frozenAt h j
  rw [get_flatK _ _ _ _ hj2, Nat.zero_add, h1, flatK_atC d hj2]
  exact ⟨rfl, h2⟩
theorem grownBy_sortedKC {w : World} {g n : Nat} {os : Array Obj} (d : Array Chg) : w.grownBy (sortWorldK eC.enc 5 w g 0 n d os) (some g) := by
  refine ⟨rfl, rfl, rfl, by simp [sortWorldK, putRowK, Go.Sort.putRow, Go.Sort.mapBlock, Go.Sort.ahead, Go.Sort.grow], fun k hk hne => ?_⟩
  unfold sortWorldK
  rw [Go.Sort.heap_grow_old _ _ (by simpa [putRowK, Go.Sort.putRow, Go.Sort.mapBlock, Go.Sort.ahead] using hk)]
  have : g ≠ k := fun e => hne (by rw [e])
  simp [putRowK, Go.Sort.putRow, Go.Sort.mapBlock, Go.Sort.ahead, Array.getElem?_modify, this]
theorem sorted_blockC {w : World} {g n : Nat} {os : Array Obj} {cur : Array Value} {t : TypeId} (d : Array Chg) (h : w.heap[g]? = some (.cells cur t (0, 0))) : ∃ cur', (sortWorldK eC.enc 5 w g 0 n d os).heap[g]? = some (.cells cur' t (0, 0)) ∧ cur'.size = cur.size := by
  unfold sortWorldK
  have hl : g < w.heap.size := (Array.getElem?_eq_some_iff.1 h).1
  rw [Go.Sort.heap_grow_old _ _ (by simpa [putRowK, Go.Sort.putRow, Go.Sort.mapBlock, Go.Sort.ahead] using hl)]
  simp only [putRowK, Go.Sort.putRow, Go.Sort.mapBlock, Go.Sort.ahead, Array.getElem?_modify, if_true, h, Option.map_some, Go.Sort.onCells]
  exact ⟨_, rfl, by simp [Go.Sort.putCells]⟩
theorem weak_ofC {zs : List Chg} (h : ∀ (i j : Nat) (x y : Chg), i < j → zs[i]? = some x → zs[j]? = some y → ltOf ckC y x = false) : zs.Pairwise fun x y => ltOf ckC y x = false :=
  List.pairwise_iff_getElem.2 fun i j hi hj hij => h i j _ _ hij (List.getElem?_eq_getElem hi) (List.getElem?_eq_getElem hj)
theorem sortC_pos (B g c q : Nat) (t : TypeId) (ys : List Chg) (w : World) (hb : Box w q #[.func (.func 42) #[] #[]] t) (hq : q ≠ g) (ho : Ow eC w B (some ⟨g, 0, none⟩) ys.length c ys) (hm : ys.length ≤ 2000) :
    Calls Try.prog 66 #[.slice (some ⟨g, 0, none⟩) ys.length c, .func (.func 67) #[] #[.pointer (some ⟨q, 0, none⟩)]] w fun e w' => e = .returned (.tuple #[]) ∧ ∃ zs, zs.Perm ys ∧ zs.Pairwise (fun x y => ltOf ckC y x = false) ∧ Ow eC w' B (some ⟨g, 0, none⟩) ys.length c zs ∧ Turn (Is g) w w' := by
  obtain ⟨d, rfl⟩ : ∃ d : Array Chg, d.toList = ys := ⟨ys.toArray, rfl⟩
  rw [Array.length_toList] at ho hm ⊢
  have hg : g < w.heap.size := (World.ownsRow.lt ho g rfl).2
  have hH := holds_ownC ho
  have hcon := AnyQ.slices_SortFunc Try.sortC 5 Try.isAgg46 Try.sizeOf46 eC.enc (fun _ => rfl) eC.one ckC swoC 67 #[.pointer (some ⟨q, 0, none⟩)] g 0 c d w cmpfC_enters (cmpfC_lays g d.size q t w hb hq) hH hg (by omega)
  refine Calls.mono hcon ?_
  rintro e w' ⟨rfl, d', n, os, hp, hs, rfl⟩
  obtain ⟨p1, _, p3⟩ := hp
  have p4 : d'.toList.Perm d.toList := by
    have e1 : (d'.extract 0 d.size).toList = d'.toList := by rw [← p1]; simp
    have e2 : (d.extract 0 d.size).toList = d.toList := by simp
    rw [e1, e2] at p3
    exact p3
  have hH' := holdsK_sortWorldK_c eC.enc 5 w g 0 d d' n os hH hg p1
  refine ⟨rfl, d'.toList, p4, weak_ofC ?_, ?_, Turn.grown (grownBy_sortedKC d') fun k hk => by injection hk with hk; exact hk.symm⟩
  · intro i j x y hij hx hy
    have hj : j < d'.size := by
      have := (List.getElem?_eq_some_iff.1 hy).1
      rwa [Array.length_toList] at this
    rw [arr_atC d' hj] at hy
    rw [arr_atC d' (by omega)] at hx
    injection hx with hx
    injection hy with hy
    have := hs i j (Nat.zero_le _) hij (by omega)
    rw [← hx, ← hy]
    exact this
  · obtain ⟨cur, hB, hg', hnc, hcm, hcs, _⟩ := ho.parts
    obtain ⟨cur', hcur, hsz⟩ := sorted_blockC (os := os) (n := n) d' hg'
    refine Ow.made hB hcur hnc hcm (hsz.trans hcs) (by rw [Array.length_toList, p1]) ?_
    apply List.ext_getElem?
    intro t
    show (List.take (d.size * 5) cur'.toList)[t]? = _
    rw [List.getElem?_take, ← p1]
    by_cases ht : t < d'.size * 5
    · rw [if_pos ht, flatK_atC d' ht]
      have h1 := (hH' t (by simpa [flatK] using ht)).1
      rw [get_flatK _ _ _ _ ht, Nat.zero_add, cell_of_row _ g t cur' _ (0, 0) hcur] at h1
      rw [Array.getElem?_toList, h1]
      rfl
    · rw [if_neg ht, List.getElem?_eq_none (by rw [flatE_len, Array.length_toList]; show d'.size * 5 ≤ t; omega)]
set_option maxHeartbeats 1000000 in
theorem sortC_zero (q : Nat) (A : Option Addr) (c : Nat) (w : World) :
    Calls Try.prog 66 #[.slice A 0 c, .func (.func 67) #[] #[.pointer (some ⟨q, 0, none⟩)]] w fun e w' => e = .returned (.tuple #[]) ∧ w = w' := by
  have h0 : ∀ (W : World), Calls Try.prog 94 #[.slice A 0 c, .int .i64 0, .int .i64 0, .func (.func 67) #[] #[.pointer (some ⟨q, 0, none⟩)]] W fun e w' => e = .returned (.tuple #[]) ∧ W = w' := by
    intro W
    go_enter Try.func94, Try.ntmps94
    go_wp2_with fail
    refine wp_loop_rounds 1 ?_
    rw [rounds_succ]
    go_wp2_with fail
    go_end0
    exact ⟨rfl, rfl⟩
  have H0 := hide h0
  clear h0
  have h1 : ∀ (W : World) (l : Int), Calls Try.prog 74 #[.slice A 0 c, .int .i64 0, .int .i64 0, .int .i64 l, .func (.func 67) #[] #[.pointer (some ⟨q, 0, none⟩)]] W fun e w' => e = .returned (.tuple #[]) ∧ W = w' := by
    intro W l
    go_enter Try.func74, Try.ntmps74
    go_wp2_with fail
    refine wp_loop_rounds 1 ?_
    rw [rounds_succ]
    go_wp2_with fail
    refine (H0.out _).mono ?_
    rintro e w' ⟨rfl, rfl⟩
    go_wp2_with fail
    exact bodyPost_ret (v := .tuple #[]) (by simp [results, Try.results74, go_sem]) rfl ⟨rfl, rfl⟩
  have H1 := hide h1
  clear h1
  have h2 := Try.bits_Len 0 w (by omega) (by omega)
  have H2 := hide h2
  clear h2
  go_enter Try.func66, Try.ntmps66
  go_wp2_with fail
  refine H2.out.mono ?_
  rintro e w' ⟨rfl, rfl⟩
  go_wp2_with fail
  refine (H1.out _ _).mono ?_
  rintro e w' ⟨rfl, rfl⟩
  go_wp2_with fail
  go_end0
  exact ⟨rfl, rfl⟩
theorem sortC_any (B n c q : Nat) (t : TypeId) (A : Option Addr) (ys : List Chg) (w : World) (hb : Box w q #[.func (.func 42) #[] #[]] t) (hq : ¬ Blk A q) (ho : Ow eC w B A n c ys) (hm : n ≤ 2000) :
    Calls Try.prog 66 #[.slice A n c, .func (.func 67) #[] #[.pointer (some ⟨q, 0, none⟩)]] w fun e w' => e = .returned (.tuple #[]) ∧ ∃ zs, zs.Perm ys ∧ zs.Pairwise (fun x y => ltOf ckC y x = false) ∧ Ow eC w' B A n c zs ∧ Turn (Blk A) w w' := by
  have hl := ho.len
  rcases Nat.eq_zero_or_pos n with h | h
  · subst h
    refine (sortC_zero q A c w).mono ?_
    rintro e w' ⟨rfl, rfl⟩
    obtain rfl : ys = [] := List.length_eq_zero_iff.1 hl
    exact ⟨rfl, [], List.Perm.nil, List.Pairwise.nil, ho, Turn.refl _ _⟩
  · obtain ⟨g, rfl, hg1, hg2⟩ := ho.pos h
    subst hl
    refine (sortC_pos B g c q t ys w hb (fun e => hq (by rw [e]; exact ⟨0, none, rfl⟩)) ho hm).mono ?_
    rintro e w' ⟨rfl, zs, h1, h2, h3, h4⟩
    exact ⟨rfl, zs, h1, h2, h3, h4.mono fun k _ hk => by rw [show k = g from hk]; exact ⟨0, none, rfl⟩⟩

set_option maxHeartbeats 2000000 in
theorem sortByC_any (B n c : Nat) (A : Option Addr) (ys : List Chg) (w : World) (ho : Ow eC w B A n c ys) (hB : B ≤ w.heap.size) (hm : n ≤ 2000) :
    Calls Try.prog 55 #[.slice A n c, .func (.func 42) #[] #[]] w fun e w' => e = .returned (.tuple #[]) ∧ ∃ zs, zs.Perm ys ∧ zs.Pairwise (fun x y => x.k ≤ y.k) ∧ Ow eC w' B A n c zs ∧ Below B w w' := by
  have H := hide (fun (t : TypeId) => sortC_any B n c w.heap.size t A ys (w.alloc (.cells #[.func (.func 42) #[] #[]] t)) (newE _ _ _ rfl) (fun h => Nat.lt_irrefl _ (ho.blk _ h).2) (ho.keep ((Below.refl _ _).alloc (Nat.le_refl _) _)) hm)
  have HB := hide hB
  have HO := hide ho
  clear ho
  go_enter Try.func55, Try.ntmps55
  go_wp2_with fail
  refine (H.out _).mono ?_
  rintro e w1 ⟨rfl, zs, p1, p2, o1, t1⟩
  have P1 := hide p1
  have P2 := hide (show zs.Pairwise (fun x y => x.k ≤ y.k) from p2.imp fun {x y} h => by rw [ltC_is] at h; have := of_decide_eq_false h; omega)
  have O1 := hide o1
  have B1 := hide (((Below.refl B w).alloc HB.out _).trans (t1.below (fun k hk => (HO.out.blk k hk).1) (Nat.le_trans HB.out (by simp))))
  clear p1 p2 o1 t1
  go_wp2_with fail
  go_end0
  exact ⟨rfl, zs, P1.out, P2.out, O1.out, B1.out⟩
end Go.Proofs.Ytadmiecoahohiaa
