/- slices.Insert of one element. -/
import Derived.Test.YtalbdclcappjpaaGreatDR
import Derived.Lib.Overlaps
import Derived.Laws.Externs
import Derived.Lib.AppendZerosOnto
import Derived.Shelf.RegionOpenPlain
import Derived.WalkKit
namespace Go.Proofs.YtalbdclcappjpaaGreat
open Go Go.RowKit Go.Lib

theorem box_inM {w : World} {vb : Nat} {x : Mk} {te : TypeId} (hv : Box w vb #[.int .i64 x.u, .int .i64 x.n] te) : ∀ j u, (eM.enc x)[j]? = some u → w.cell? ((⟨vb, 0, none⟩ : Addr).add j) = some u := fun j u hj => by
  have ea : (⟨vb, 0, none⟩ : Addr).add j = ⟨vb, j, none⟩ := by unfold Addr.add; split <;> simp_all
  rw [ea, hv.at_]
  rw [← hj]; exact (List.getElem?_toArray (xs := eM.enc x) (i := j))
set_option maxHeartbeats 4000000 in
set_option maxRecDepth 100000 in
theorem insM_shift (B g n c i vb vc : Nat) (ys : List Mk) (x : Mk) (w : World) (te : TypeId) (h : Ow eM w B (some ⟨g, 0, none⟩) n c ys) (hv : Box w vb #[.int .i64 x.u, .int .i64 x.n] te) (hvg : vb ≠ g) (hi : i < n) (hroom : n + 1 ≤ c) :
    Calls Tryz.prog 46 #[.slice (some ⟨g, 0, none⟩) n c, .int .i64 i, .slice (some ⟨vb, 0, none⟩) 1 vc] w fun e w' => e = .returned (.slice (some ⟨g, 0, none⟩) (n + 1) c) ∧ Ow eM w' B (some ⟨g, 0, none⟩) (n + 1) c (insA ys i x) ∧ Turn (Is g) w w' := by
  obtain ⟨cur, hB, hg, hnc, hcm, hcs, hct⟩ := h.parts
  have hln := h.len
  have hsl := h.sl
  have hvh : w.heap[vb]? = _ := hv
  have hne : cur.size ≠ 0 := by rw [hcs]; show c * 2 ≠ 0; omega
  have hcs' : cur.size = c * 2 := hcs
  have hsz : (Tryz.prog.info? 46).map (·.size) = some 2 := by
    obtain ⟨i0, hi0, h0, h1, h2⟩ := info_parts infoM
    rw [hi0]; simp [h1]
  have hov : ∀ lb cb, (callFunc 68 #[.slice (some ⟨vb, 0, none⟩) 1 vc, .slice (some ⟨g, (i + 1) * 2, none⟩) lb cb]).run Tryz.prog w = .ok (.value (.bool false)) w := fun lb cb => by
    rw [run_callFunc_extern Tryz.func68 (by kernel_rfl) (by kernel_rfl) (by kernel_rfl) (e := Extern.SlicesOverlaps.overlaps #[40, 40] #[4]) (by kernel_rfl),
      Lib.run_overlaps_apart w 40 4 46 Tryz.underlying40 2 Tryz.sizeOf46 ⟨vb, 0, none⟩ ⟨g, (i + 1) * 2, none⟩ 1 vc lb cb hvg te 46 2 cur.size (by simp [World.shape?, hvh]) (by simp [World.shape?, hg, eM]) hne (by simp [World.frozen?, hvh]) (by simp [World.frozen?, hvh])]
    rfl
  have hdl : (flatE eM (ys.drop i)).length = (n - i) * 2 := by rw [flatE_len, List.length_drop, hln]; rfl
  have hcp1 : ∀ ty dc sc, (Builtin.copy_ #[40, 40] ty #[.slice (some ⟨g, (i + 1) * 2, none⟩) (n - i) dc, .slice (some ⟨g, i * 2, none⟩) (n + 1 - i) sc]).run Tryz.prog w.drew = .ok (goInt ((n - i : Nat) : Int)) (w.drew.setRow g (over cur.toList ((i + 1) * 2) (flatE eM (ys.drop i))).toArray) := fun ty dc sc =>
    run_copyK w.drew _ _ ty 46 g ((i + 1) * 2) (n - i) dc ⟨g, i * 2, none⟩ (n + 1 - i) sc cur _ _ 2 (n - i) Tryz.underlying40 hsz hg (by simp only [Nat.min_def]; split <;> omega) hdl
      (fun j v hj => by
        rw [Addr.add_lit]
        rw [flatE_drop, List.getElem?_drop] at hj
        obtain ⟨b, o, e, _, hc⟩ := hsl.2 (by omega)
        injection e with e
        injection e with e1 e2
        subst e1; subst e2
        have := hc _ v hj
        rw [Nat.zero_add] at this
        exact this)
      (by rw [hdl, hcs']; omega) (fun v hv => flatE_one _ v hv)
  obtain ⟨W1, hW1⟩ : ∃ W1, W1 = w.drew.setRow g (over cur.toList ((i + 1) * 2) (flatE eM (ys.drop i))).toArray := ⟨_, rfl⟩
  rw [← hW1] at hcp1
  have hg1 : W1.heap[g]? = some (.cells (over cur.toList ((i + 1) * 2) (flatE eM (ys.drop i))).toArray 46 (0, 0)) := by rw [hW1]; exact setRow_heap _ _ _ _ _ _ hg
  have hv1 : Box W1 vb #[.int .i64 x.u, .int .i64 x.n] te := by
    have : W1.heap[vb]? = w.heap[vb]? := by rw [hW1, setRow_other _ _ _ _ hvg]; rfl
    exact this.trans hv
  have hol : (over cur.toList ((i + 1) * 2) (flatE eM (ys.drop i))).length = c * 2 := by rw [over_len (by rw [hdl, Array.length_toList, hcs']; omega), Array.length_toList, hcs']
  have hcp2 : ∀ (W : World), W.heap = W1.heap → ∀ ty dc, (Builtin.copy_ #[40, 40] ty #[.slice (some ⟨g, i * 2, none⟩) (n + 1 - i) dc, .slice (some ⟨vb, 0, none⟩) 1 vc]).run Tryz.prog W = .ok (goInt ((1 : Nat) : Int)) (W.setRow g (over (over cur.toList ((i + 1) * 2) (flatE eM (ys.drop i))) (i * 2) (eM.enc x)).toArray) := fun W hW ty dc =>
    run_copyK W _ _ ty 46 g (i * 2) (n + 1 - i) dc ⟨vb, 0, none⟩ 1 vc _ _ (eM.enc x) 2 1 Tryz.underlying40 hsz (by rw [hW]; exact hg1) (by simp only [Nat.min_def]; split <;> omega) rfl
      (box_inM (show W.heap[vb]? = _ from by rw [hW]; exact hv1))
      (by rw [List.size_toArray]; exact (show i * 2 + 2 ≤ (over cur.toList ((i + 1) * 2) (flatE eM (ys.drop i))).length from by rw [hol]; omega)) (fun v hv => eM.one x v hv)
  have fin : ∀ (W : World), W.heap = W1.heap → Turn (Is g) w W → Ow eM (W.setRow g (over (over cur.toList ((i + 1) * 2) (flatE eM (ys.drop i))) (i * 2) (eM.enc x)).toArray) B (some ⟨g, 0, none⟩) (n + 1) c (insA ys i x) ∧ Turn (Is g) w (W.setRow g (over (over cur.toList ((i + 1) * 2) (flatE eM (ys.drop i))) (i * 2) (eM.enc x)).toArray) := fun W hW ht =>
    ⟨ow_shift (W := W) x hln hB hroom hcm hcs hct (by omega) (by rw [hW]; exact hg1) rfl, turn_row ht (.inr rfl) _⟩
  have ht1 : Turn (Is g) w W1 := by rw [hW1]; exact turn_row (F := Is g) (Turn.of (Below.refl _ _).drew) (.inr rfl) _
  have FIN := hide fin
  have HT1 := hide ht1
  have mixed : Tryz.prog.follows Departure.mixedOrders = true := by kernel_rfl
  have hz2 : ¬ ((i : Int) = (n : Int)) := by omega
  have hw1 : IntKind.i64.wrap ((i : Int) + 1) = (i : Int) + 1 := by rw [IntKind.wrap_i64]; unfold maxLen at hcm; omega
  have hb1 : (0 : Int) ≤ (i : Int) + 1 := by omega
  have hin : i ≤ n := by omega
  have htn : ((i : Int) + 1).toNat = i + 1 := by omega
  have hb2 : ¬ (c = i + 1) := by omega
  have hb3 : (i : Int) ≤ (n : Int) + 1 := by omega
  have hb4 : ¬ (c = i) := by omega
  unfold maxLen at hcm
  clear h hsl hcs hct hg1 hv1 hol hcs' hsz hdl hln fin ht1 hW1 hg hv hvh
  go_enter Tryz.func46, Tryz.ntmps46
  go_wp2_with (simp only [hov])
  go_region_law_o (refine step_copyR rfl _ _ 40 40 rfl _ _ (by simp [Act.eval, Act.put]) (by simp [Act.eval, Act.put]) (hcp1 _ _ _) ?_)
  go_wp2_with (at_builtin; refine wpList_copyR _ rfl _ _ 40 40 rfl _ _ rfl rfl (hcp2 _ rfl _ _) ?_)
  go_ret
  first | exact ⟨rfl, FIN.out _ rfl HT1.out⟩ | exact ⟨rfl, FIN.out _ rfl (HT1.out.next (Below.refl _ _).drew)⟩
set_option maxHeartbeats 4000000 in
set_option maxRecDepth 100000 in
theorem insM_end (B n c vb vc : Nat) (A : Option Addr) (ys : List Mk) (x : Mk) (w : World) (te : TypeId) (h : Ow eM w B A n c ys) (hv : Box w vb #[.int .i64 x.u, .int .i64 x.n] te) (hB : B ≤ w.heap.size) (hn : n ≤ 1000) :
    Calls Tryz.prog 46 #[.slice A n c, .int .i64 n, .slice (some ⟨vb, 0, none⟩) 1 vc] w fun e w' => ∃ A' c', e = .returned (.slice A' (n + 1) c') ∧ Ow eM w' B A' (n + 1) c' (insA ys n x) ∧ Turn (Blk A) w w' ∧ (∀ g, Blk A' g → Blk A g ∨ (w.heap.size ≤ g ∧ g < w'.heap.size)) := by
  have hln := h.len
  have HI := hide (show flatE eM ys ++ eM.enc x = flatE eM (insA ys n x) by
    rw [insA_flat, List.take_of_length_le (by omega), List.drop_of_length_le (by omega)]
    exact (List.append_nil _).symm)
  have HO := hide h
  have HV := hide (box_inM hv)
  have hnc := h.le
  have hp := hide h.pos
  unfold maxLen at hnc
  clear h hln
  go_enter Tryz.func46, Tryz.ntmps46
  cases A with
  | none =>
    obtain rfl : n = 0 := by
      rcases Nat.eq_zero_or_pos n with h | h
      · exact h
      · obtain ⟨g, e, _⟩ := hp.out h; cases e
    go_wp2_with (at_builtin; refine wpList_app_ow _ rfl _ _ 40 rfl B 46 _ 2 16 Tryz.underlying40 infoM rfl (by decide) _ _ _ _ rfl HO.out _ _ _ (eM.enc x) rfl rfl (fun _ => ⟨_, rfl, HV.out⟩) (fun v hv => eM.one x v hv) (by decide) (by omega) hB ?_; intro A' c' w' r1 r2 r3)
    all_goals
      go_ret
      exact ⟨A', c', rfl, by unfold Ow; rw [← HI.out]; exact r1, r2, r3⟩
  | some a =>
    obtain ⟨ab, ao, asp⟩ := a
    go_wp2_with (at_builtin; refine wpList_app_ow _ rfl _ _ 40 rfl B 46 _ 2 16 Tryz.underlying40 infoM rfl (by decide) _ _ _ _ rfl HO.out _ _ _ (eM.enc x) rfl rfl (fun _ => ⟨_, rfl, HV.out⟩) (fun v hv => eM.one x v hv) (by decide) (by omega) hB ?_; intro A' c' w' r1 r2 r3)
    all_goals
      go_ret
      exact ⟨A', c', rfl, by unfold Ow; rw [← HI.out]; exact r1, r2, r3⟩
set_option maxHeartbeats 8000000 in
set_option maxRecDepth 100000 in
theorem insM_grow (B g n i vb vc : Nat) (ys : List Mk) (x : Mk) (w : World) (te : TypeId) (h : Ow eM w B (some ⟨g, 0, none⟩) n n ys) (hv : Box w vb #[.int .i64 x.u, .int .i64 x.n] te) (hi : i < n) (hn : n ≤ 1000) :
    Calls Tryz.prog 46 #[.slice (some ⟨g, 0, none⟩) n n, .int .i64 i, .slice (some ⟨vb, 0, none⟩) 1 vc] w fun e w' => ∃ G, e = .returned (.slice (some ⟨w.heap.size, 0, none⟩) (n + 1) G) ∧ Ow eM w' w.heap.size (some ⟨w.heap.size, 0, none⟩) (n + 1) G (insA ys i x) ∧ Turn Non w w' ∧ w.heap.size < w'.heap.size := by
  obtain ⟨cur, hB, hg, hnc, hcm, hcs, hct⟩ := h.parts
  have hln := h.len
  have hsl := h.sl
  obtain ⟨i0, hi0, hz0, hzs, hzb⟩ := info_parts infoM
  have hsz : (Tryz.prog.info? 46).map (·.size) = some 2 := by rw [hi0]; simp [hzs]
  have hgl := (h.blk g ⟨0, none, rfl⟩).2
  have hvl : vb < w.heap.size := hv.lt
  have hgN : g ≠ w.heap.size := by omega
  have hvN : vb ≠ w.heap.size := by omega
  have hkk : (n : Int) + 1 - (i : Int) = ((n + 1 - i : Nat) : Int) := by omega
  have hik : i + (n + 1 - i) = n + 1 := by omega
  have hcel : ∀ j v, (flatE eM ys)[j]? = some v → w.cell? ⟨g, j, none⟩ = some v := fun j v hj => by
    obtain ⟨b, o, e, _, hc⟩ := hsl.2 (by omega)
    injection e with e
    injection e with e1 e2
    subst e1; subst e2
    have := hc _ v hj
    rwa [Nat.zero_add] at this
  have htl : (flatE eM (ys.take i)).length = i * 2 := by rw [flatE_len, List.length_take, hln, Nat.min_eq_left (by omega)]; rfl
  have hold : (Builtin.firstCells i0.size i (.slice (some ⟨g, 0, none⟩) i n)).run Tryz.prog w.drew = .ok (flatE eM (ys.take i)).toArray w.drew := by
    rw [hzs]
    exact run_firstCells_some w.drew 2 i ⟨g, 0, none⟩ i n (flatE eM (ys.take i)) htl (fun j v hj => by
      rw [Addr.add_lit, Nat.zero_add]
      refine hcel j v ?_
      rw [flatE_take] at hj
      rw [List.getElem?_take] at hj
      split at hj
      · exact hj
      · cases hj)
  have hrz : ∀ ty, (Builtin.append_ #[40, 3] ty #[.slice (some ⟨g, 0, none⟩) i n, .int .i64 ((n : Int) + 1 - (i : Int))]).run Tryz.prog w =
      .ok (.slice (some ⟨w.heap.size, 0, none⟩) (n + 1) (grownCap w (n + 1) n 46)) (w.drew.alloc (.cells ((flatE eM (ys.take i)).toArray ++ Builtin.zeroCells (Value.agg #[.int .i64 0, .int .i64 0]).cells (n + 1 - i) ++ Builtin.zeroCells (Value.agg #[.int .i64 0, .int .i64 0]).cells (grownCap w (n + 1) n 46 - (n + 1))) 46)) := fun ty => by
    have h := Lib.run_append_grow_zeros (P := Tryz.prog) w 40 3 ty 46 i0 _ .i64 .i64 Tryz.underlying40 Tryz.underlying3 hi0 hz0 (some ⟨g, 0, none⟩) i n (flatE eM (ys.take i)) hold (n + 1 - i) (by omega) (by omega) (by omega) (by omega) (by rw [hzb]; omega) (by rw [hzb, hik]; exact growslice_fits (by omega) (by omega))
    rw [hik] at h
    rw [hkk]
    exact h
  obtain ⟨G, hG⟩ : ∃ G, G = grownCap w (n + 1) n 46 := ⟨_, rfl⟩
  obtain ⟨ROW, hROW⟩ : ∃ ROW : Array Value, ROW = (flatE eM (ys.take i)).toArray ++ Builtin.zeroCells (Value.agg #[.int .i64 0, .int .i64 0]).cells (n + 1 - i) ++ Builtin.zeroCells (Value.agg #[.int .i64 0, .int .i64 0]).cells (G - (n + 1)) := ⟨_, rfl⟩
  rw [← hG] at hrz
  rw [← hROW] at hrz
  have hGn : n + 1 ≤ G := by rw [hG]; exact grownCap_ge w _ _ _
  have hG63 : G ≤ maxLen := by rw [hG]; exact grownCap_le_maxLen w (n + 1) n 46 (by unfold maxLen; omega)
  have hRs : ROW.size = G * 2 := by
    rw [hROW]
    simp only [Array.size_append, List.size_toArray, htl, size_zeroCells, Value.cells]
    simp
    omega
  have hRt : ROW.toList.take (i * eM.k) = flatE eM (ys.take i) := by
    rw [hROW, Array.toList_append, Array.toList_append, List.append_assoc, List.take_append_of_le_length (by show i * 2 ≤ _; rw [List.toList_toArray, htl]; exact Nat.le_refl _), List.toList_toArray]
    exact List.take_of_length_le (by rw [htl]; exact Nat.le_refl _)
  obtain ⟨W1, hW1⟩ : ∃ W1, W1 = w.drew.alloc (.cells ROW 46) := ⟨_, rfl⟩
  rw [← hW1] at hrz
  have hN1 : W1.heap[w.heap.size]? = some (.cells ROW 46 (0, 0)) := by rw [hW1]; exact heap_alloc_new w.drew _
  have hO1 : ∀ k, k < w.heap.size → W1.heap[k]? = w.heap[k]? := fun k hk => by rw [hW1]; exact (((Below.refl w.heap.size w).drew).alloc (Nat.le_refl _) _).block k hk
  have hv1 : Box W1 vb #[.int .i64 x.u, .int .i64 x.n] te := (hO1 vb hvl).trans hv
  have hcp1 : ∀ (W : World), W.heap = W1.heap → ∀ ty dc, (Builtin.copy_ #[40, 40] ty #[.slice (some ⟨w.heap.size, i * 2, none⟩) (n + 1 - i) dc, .slice (some ⟨vb, 0, none⟩) 1 vc]).run Tryz.prog W = .ok (goInt ((1 : Nat) : Int)) (W.setRow w.heap.size (over ROW.toList (i * 2) (eM.enc x)).toArray) := fun W hW ty dc =>
    run_copyK W _ _ ty 46 w.heap.size (i * 2) (n + 1 - i) dc ⟨vb, 0, none⟩ 1 vc _ _ (eM.enc x) 2 1 Tryz.underlying40 hsz (by rw [hW]; exact hN1) (by simp only [Nat.min_def]; split <;> omega) rfl
      (box_inM (show W.heap[vb]? = _ from by rw [hW]; exact hv1))
      (by rw [hRs]; show i * 2 + 2 ≤ G * 2; omega) (fun v hv => eM.one x v hv)
  have hRl : ROW.toList.length = G * 2 := by rw [Array.length_toList]; exact hRs
  have hol : (over ROW.toList (i * 2) (eM.enc x)).length = G * 2 := by rw [over_len (show i * 2 + 2 ≤ ROW.toList.length from by rw [hRl]; omega), hRl]
  have hdl : (flatE eM (ys.drop i)).length = (n - i) * 2 := by rw [flatE_len, List.length_drop, hln]; rfl
  obtain ⟨H2, hH2⟩ : ∃ H2, H2 = (W1.setRow w.heap.size (over ROW.toList (i * 2) (eM.enc x)).toArray).heap := ⟨_, rfl⟩
  have hN2 : H2[w.heap.size]? = some (.cells (over ROW.toList (i * 2) (eM.enc x)).toArray 46 (0, 0)) := by rw [hH2]; exact setRow_heap _ _ _ _ _ _ hN1
  have hO2 : H2[g]? = w.heap[g]? := by rw [hH2]; exact (setRow_other _ _ _ _ hgN).trans (hO1 g hgl)
  have hcp2 : ∀ (W : World), W.heap = H2 → ∀ ty dc sc, (Builtin.copy_ #[40, 40] ty #[.slice (some ⟨w.heap.size, (i + 1) * 2, none⟩) (n - i) dc, .slice (some ⟨g, i * 2, none⟩) (n - i) sc]).run Tryz.prog W = .ok (goInt ((n - i : Nat) : Int)) (W.setRow w.heap.size (over (over ROW.toList (i * 2) (eM.enc x)) ((i + 1) * 2) (flatE eM (ys.drop i))).toArray) := fun W hW ty dc sc =>
    run_copyK W _ _ ty 46 w.heap.size ((i + 1) * 2) (n - i) dc ⟨g, i * 2, none⟩ (n - i) sc _ _ (flatE eM (ys.drop i)) 2 (n - i) Tryz.underlying40 hsz (by rw [hW]; exact hN2) (by simp only [Nat.min_def]; split <;> omega) hdl
      (fun j v hj => by
        rw [Addr.add_lit]
        rw [flatE_drop, List.getElem?_drop] at hj
        rw [← hcel _ v hj]
        exact World.cell?_of_block (a := ⟨g, i * 2 + j, none⟩) (by show W.heap[g]? = _; rw [hW]; exact hO2))
      (by rw [List.size_toArray]; exact (show (i + 1) * 2 + (flatE eM (ys.drop i)).length ≤ (over ROW.toList (i * 2) (eM.enc x)).length from by rw [hol, hdl]; omega)) (fun v hv => flatE_one _ v hv)
  have FIN := hide (show ∀ (W : World), W.heap = H2 → Turn Non w W → Ow eM (W.setRow w.heap.size (over (over ROW.toList (i * 2) (eM.enc x)) ((i + 1) * 2) (flatE eM (ys.drop i))).toArray) w.heap.size (some ⟨w.heap.size, 0, none⟩) (n + 1) G (insA ys i x) ∧ Turn Non w (W.setRow w.heap.size (over (over ROW.toList (i * 2) (eM.enc x)) ((i + 1) * 2) (flatE eM (ys.drop i))).toArray) ∧ w.heap.size < (W.setRow w.heap.size (over (over ROW.toList (i * 2) (eM.enc x)) ((i + 1) * 2) (flatE eM (ys.drop i))).toArray).heap.size from fun W hW ht =>
    ⟨ow_fill (W := W) x hln (Nat.le_refl _) hGn hG63 (by rw [Array.length_toList, hRs]; rfl) hRt (by omega) (by rw [hW]; exact hN2) rfl, turn_row ht (.inl (Nat.le_refl _)) _, by
      rw [setRow_size, hW]
      rcases Nat.lt_or_ge w.heap.size H2.size with h1 | h1
      · exact h1
      · rw [Array.getElem?_eq_none h1] at hN2; cases hN2⟩)
  have HT1 := hide (show Turn Non w W1 by rw [hW1]; exact ((Turn.refl Non w).drew_).alloc_ _)
  have HT2 := hide (fun (W : World) (cs : Array Value) (h : Turn Non w W) => turn_row (g := w.heap.size) h (.inl (Nat.le_refl _)) cs)
  have hz2 : ¬ ((i : Int) = (n : Int)) := by omega
  have hz3 : (n : Int) < (n : Int) + 1 := by omega
  have hw1 : IntKind.i64.wrap ((i : Int) + 1) = (i : Int) + 1 := by rw [IntKind.wrap_i64]; omega
  have hb1 : (0 : Int) ≤ (i : Int) + 1 := by omega
  have hin : i ≤ n := by omega
  have htn : ((i : Int) + 1).toNat = i + 1 := by omega
  have hb3 : (i : Int) ≤ (n : Int) := by omega
  have hGi : ¬ (G = i) := by omega
  have hGim : ¬ (G = i + 1) := by omega
  have hci : ¬ (n = i) := by omega
  have mixed : Tryz.prog.follows Departure.mixedOrders = true := by kernel_rfl
  unfold maxLen at hG63
  have HH := hide hH2
  have hE1 : ∀ (W : World), W.heap = H2 → W.drew.heap = H2 := fun _ h => h
  clear h hg hct hcs hcm hsl hi0 hz0 hzs hzb hsz hcel htl hold hG hROW hRs hRt hW1 hN1 hO1 hv1 hol hdl hN2 hO2 hv hH2 hkk hik
  have HC2 := fun ty dc sc => hcp2 ((W1.setRow w.heap.size (over ROW.toList (i * 2) (eM.enc x)).toArray).drew) HH.out.symm ty dc sc
  clear hcp2
  go_enter Tryz.func46, Tryz.ntmps46
  go_wp2_with (first
    | (at_builtin; refine Lib.wpList_append_run _ rfl _ _ _ _ rfl _ _ rfl rfl _ _ (hrz _) ?_)
    | (at_builtin; refine wpList_copyR _ rfl _ _ 40 40 rfl _ _ rfl rfl (hcp1 _ rfl _ _) ?_))
  go_region_law_o (refine step_copyR rfl _ _ 40 40 rfl _ _ (by simp [Act.eval, Act.put]) (by simp [Act.eval, Act.put]) (HC2 _ _ _) ?_)
  go_wp2_with fail
  go_ret
  first | exact ⟨G, rfl, FIN.out _ HH.out.symm (HT2.out _ _ HT1.out).drew_⟩ | exact ⟨G, rfl, FIN.out _ HH.out.symm (HT2.out _ _ HT1.out)⟩
theorem insM_any (B n c i vb vc : Nat) (A : Option Addr) (ys : List Mk) (x : Mk) (w : World) (te : TypeId) (h : Ow eM w B A n c ys) (hv : Box w vb #[.int .i64 x.u, .int .i64 x.n] te) (hvg : ¬ Blk A vb) (hB : B ≤ w.heap.size) (hi : i ≤ n) (hn : n ≤ 1000) :
    Calls Tryz.prog 46 #[.slice A n c, .int .i64 i, .slice (some ⟨vb, 0, none⟩) 1 vc] w fun e w' => ∃ A' c', e = .returned (.slice A' (n + 1) c') ∧ Ow eM w' B A' (n + 1) c' (insA ys i x) ∧ Turn (Blk A) w w' ∧ (∀ g, Blk A' g → Blk A g ∨ (w.heap.size ≤ g ∧ g < w'.heap.size)) := by
  rcases Nat.lt_or_eq_of_le hi with hlt | rfl
  · obtain ⟨g, rfl, hg1, hg2⟩ := h.pos (by omega)
    have hgv : vb ≠ g := fun e => hvg (by rw [e]; exact ⟨0, none, rfl⟩)
    have hle := h.le
    by_cases hroom : n + 1 ≤ c
    · refine (insM_shift B g n c i vb vc ys x w te h hv hgv hlt hroom).mono ?_
      rintro e w' ⟨rfl, h1, h2⟩
      refine ⟨_, _, rfl, h1, h2.mono fun k _ hk => by rw [show k = g from hk]; exact ⟨0, none, rfl⟩, fun k hk => .inl hk⟩
    · obtain rfl : c = n := by omega
      refine (insM_grow B g c i vb vc ys x w te h hv hlt hn).mono ?_
      rintro e w' ⟨G, rfl, h1, h2, h3⟩
      refine ⟨_, _, rfl, h1.low hB, h2.mono fun k _ hk => hk.elim, fun k hk => .inr ?_⟩
      rw [blk_some] at hk
      omega
  · exact insM_end B i c vb vc A ys x w te h hv hB hn

theorem box_inD {w : World} {vb : Nat} {x : Dec} {te : TypeId} (hv : Box w vb #[.int .i64 x.u, .int .i64 x.n, .int .i64 x.k, .int .i64 x.a, .int .i64 x.b] te) : ∀ j u, (eD.enc x)[j]? = some u → w.cell? ((⟨vb, 0, none⟩ : Addr).add j) = some u := fun j u hj => by
  have ea : (⟨vb, 0, none⟩ : Addr).add j = ⟨vb, j, none⟩ := by unfold Addr.add; split <;> simp_all
  rw [ea, hv.at_]
  rw [← hj]; exact (List.getElem?_toArray (xs := eD.enc x) (i := j))
set_option maxHeartbeats 4000000 in
set_option maxRecDepth 100000 in
theorem insD_shift (B g n c i vb vc : Nat) (ys : List Dec) (x : Dec) (w : World) (te : TypeId) (h : Ow eD w B (some ⟨g, 0, none⟩) n c ys) (hv : Box w vb #[.int .i64 x.u, .int .i64 x.n, .int .i64 x.k, .int .i64 x.a, .int .i64 x.b] te) (hvg : vb ≠ g) (hi : i < n) (hroom : n + 1 ≤ c) :
    Calls Tryz.prog 43 #[.slice (some ⟨g, 0, none⟩) n c, .int .i64 i, .slice (some ⟨vb, 0, none⟩) 1 vc] w fun e w' => e = .returned (.slice (some ⟨g, 0, none⟩) (n + 1) c) ∧ Ow eD w' B (some ⟨g, 0, none⟩) (n + 1) c (insA ys i x) ∧ Turn (Is g) w w' := by
  obtain ⟨cur, hB, hg, hnc, hcm, hcs, hct⟩ := h.parts
  have hln := h.len
  have hsl := h.sl
  have hvh : w.heap[vb]? = _ := hv
  have hne : cur.size ≠ 0 := by rw [hcs]; show c * 5 ≠ 0; omega
  have hcs' : cur.size = c * 5 := hcs
  have hsz : (Tryz.prog.info? 44).map (·.size) = some 5 := by
    obtain ⟨i0, hi0, h0, h1, h2⟩ := info_parts infoD
    rw [hi0]; simp [h1]
  have hov : ∀ lb cb, (callFunc 65 #[.slice (some ⟨vb, 0, none⟩) 1 vc, .slice (some ⟨g, (i + 1) * 5, none⟩) lb cb]).run Tryz.prog w = .ok (.value (.bool false)) w := fun lb cb => by
    rw [run_callFunc_extern Tryz.func65 (by kernel_rfl) (by kernel_rfl) (by kernel_rfl) (e := Extern.SlicesOverlaps.overlaps #[38, 38] #[4]) (by kernel_rfl),
      Lib.run_overlaps_apart w 38 4 44 Tryz.underlying38 5 Tryz.sizeOf44 ⟨vb, 0, none⟩ ⟨g, (i + 1) * 5, none⟩ 1 vc lb cb hvg te 44 5 cur.size (by simp [World.shape?, hvh]) (by simp [World.shape?, hg, eD]) hne (by simp [World.frozen?, hvh]) (by simp [World.frozen?, hvh])]
    rfl
  have hdl : (flatE eD (ys.drop i)).length = (n - i) * 5 := by rw [flatE_len, List.length_drop, hln]; rfl
  have hcp1 : ∀ ty dc sc, (Builtin.copy_ #[38, 38] ty #[.slice (some ⟨g, (i + 1) * 5, none⟩) (n - i) dc, .slice (some ⟨g, i * 5, none⟩) (n + 1 - i) sc]).run Tryz.prog w.drew = .ok (goInt ((n - i : Nat) : Int)) (w.drew.setRow g (over cur.toList ((i + 1) * 5) (flatE eD (ys.drop i))).toArray) := fun ty dc sc =>
    run_copyK w.drew _ _ ty 44 g ((i + 1) * 5) (n - i) dc ⟨g, i * 5, none⟩ (n + 1 - i) sc cur _ _ 5 (n - i) Tryz.underlying38 hsz hg (by simp only [Nat.min_def]; split <;> omega) hdl
      (fun j v hj => by
        rw [Addr.add_lit]
        rw [flatE_drop, List.getElem?_drop] at hj
        obtain ⟨b, o, e, _, hc⟩ := hsl.2 (by omega)
        injection e with e
        injection e with e1 e2
        subst e1; subst e2
        have := hc _ v hj
        rw [Nat.zero_add] at this
        exact this)
      (by rw [hdl, hcs']; omega) (fun v hv => flatE_one _ v hv)
  obtain ⟨W1, hW1⟩ : ∃ W1, W1 = w.drew.setRow g (over cur.toList ((i + 1) * 5) (flatE eD (ys.drop i))).toArray := ⟨_, rfl⟩
  rw [← hW1] at hcp1
  have hg1 : W1.heap[g]? = some (.cells (over cur.toList ((i + 1) * 5) (flatE eD (ys.drop i))).toArray 44 (0, 0)) := by rw [hW1]; exact setRow_heap _ _ _ _ _ _ hg
  have hv1 : Box W1 vb #[.int .i64 x.u, .int .i64 x.n, .int .i64 x.k, .int .i64 x.a, .int .i64 x.b] te := by
    have : W1.heap[vb]? = w.heap[vb]? := by rw [hW1, setRow_other _ _ _ _ hvg]; rfl
    exact this.trans hv
  have hol : (over cur.toList ((i + 1) * 5) (flatE eD (ys.drop i))).length = c * 5 := by rw [over_len (by rw [hdl, Array.length_toList, hcs']; omega), Array.length_toList, hcs']
  have hcp2 : ∀ (W : World), W.heap = W1.heap → ∀ ty dc, (Builtin.copy_ #[38, 38] ty #[.slice (some ⟨g, i * 5, none⟩) (n + 1 - i) dc, .slice (some ⟨vb, 0, none⟩) 1 vc]).run Tryz.prog W = .ok (goInt ((1 : Nat) : Int)) (W.setRow g (over (over cur.toList ((i + 1) * 5) (flatE eD (ys.drop i))) (i * 5) (eD.enc x)).toArray) := fun W hW ty dc =>
    run_copyK W _ _ ty 44 g (i * 5) (n + 1 - i) dc ⟨vb, 0, none⟩ 1 vc _ _ (eD.enc x) 5 1 Tryz.underlying38 hsz (by rw [hW]; exact hg1) (by simp only [Nat.min_def]; split <;> omega) rfl
      (box_inD (show W.heap[vb]? = _ from by rw [hW]; exact hv1))
      (by rw [List.size_toArray]; exact (show i * 5 + 5 ≤ (over cur.toList ((i + 1) * 5) (flatE eD (ys.drop i))).length from by rw [hol]; omega)) (fun v hv => eD.one x v hv)
  have fin : ∀ (W : World), W.heap = W1.heap → Turn (Is g) w W → Ow eD (W.setRow g (over (over cur.toList ((i + 1) * 5) (flatE eD (ys.drop i))) (i * 5) (eD.enc x)).toArray) B (some ⟨g, 0, none⟩) (n + 1) c (insA ys i x) ∧ Turn (Is g) w (W.setRow g (over (over cur.toList ((i + 1) * 5) (flatE eD (ys.drop i))) (i * 5) (eD.enc x)).toArray) := fun W hW ht =>
    ⟨ow_shift (W := W) x hln hB hroom hcm hcs hct (by omega) (by rw [hW]; exact hg1) rfl, turn_row ht (.inr rfl) _⟩
  have ht1 : Turn (Is g) w W1 := by rw [hW1]; exact turn_row (F := Is g) (Turn.of (Below.refl _ _).drew) (.inr rfl) _
  have FIN := hide fin
  have HT1 := hide ht1
  have mixed : Tryz.prog.follows Departure.mixedOrders = true := by kernel_rfl
  have hz2 : ¬ ((i : Int) = (n : Int)) := by omega
  have hw1 : IntKind.i64.wrap ((i : Int) + 1) = (i : Int) + 1 := by rw [IntKind.wrap_i64]; unfold maxLen at hcm; omega
  have hb1 : (0 : Int) ≤ (i : Int) + 1 := by omega
  have hin : i ≤ n := by omega
  have htn : ((i : Int) + 1).toNat = i + 1 := by omega
  have hb2 : ¬ (c = i + 1) := by omega
  have hb3 : (i : Int) ≤ (n : Int) + 1 := by omega
  have hb4 : ¬ (c = i) := by omega
  unfold maxLen at hcm
  clear h hsl hcs hct hg1 hv1 hol hcs' hsz hdl hln fin ht1 hW1 hg hv hvh
  go_enter Tryz.func43, Tryz.ntmps43
  go_wp2_with (simp only [hov])
  go_region_law_o (refine step_copyR rfl _ _ 38 38 rfl _ _ (by simp [Act.eval, Act.put]) (by simp [Act.eval, Act.put]) (hcp1 _ _ _) ?_)
  go_wp2_with (at_builtin; refine wpList_copyR _ rfl _ _ 38 38 rfl _ _ rfl rfl (hcp2 _ rfl _ _) ?_)
  go_ret
  first | exact ⟨rfl, FIN.out _ rfl HT1.out⟩ | exact ⟨rfl, FIN.out _ rfl (HT1.out.next (Below.refl _ _).drew)⟩
set_option maxHeartbeats 4000000 in
set_option maxRecDepth 100000 in
theorem insD_end (B n c vb vc : Nat) (A : Option Addr) (ys : List Dec) (x : Dec) (w : World) (te : TypeId) (h : Ow eD w B A n c ys) (hv : Box w vb #[.int .i64 x.u, .int .i64 x.n, .int .i64 x.k, .int .i64 x.a, .int .i64 x.b] te) (hB : B ≤ w.heap.size) (hn : n ≤ 1000) :
    Calls Tryz.prog 43 #[.slice A n c, .int .i64 n, .slice (some ⟨vb, 0, none⟩) 1 vc] w fun e w' => ∃ A' c', e = .returned (.slice A' (n + 1) c') ∧ Ow eD w' B A' (n + 1) c' (insA ys n x) ∧ Turn (Blk A) w w' ∧ (∀ g, Blk A' g → Blk A g ∨ (w.heap.size ≤ g ∧ g < w'.heap.size)) := by
  have hln := h.len
  have HI := hide (show flatE eD ys ++ eD.enc x = flatE eD (insA ys n x) by
    rw [insA_flat, List.take_of_length_le (by omega), List.drop_of_length_le (by omega)]
    exact (List.append_nil _).symm)
  have HO := hide h
  have HV := hide (box_inD hv)
  have hnc := h.le
  have hp := hide h.pos
  unfold maxLen at hnc
  clear h hln
  go_enter Tryz.func43, Tryz.ntmps43
  cases A with
  | none =>
    obtain rfl : n = 0 := by
      rcases Nat.eq_zero_or_pos n with h | h
      · exact h
      · obtain ⟨g, e, _⟩ := hp.out h; cases e
    go_wp2_with (at_builtin; refine wpList_app_ow _ rfl _ _ 38 rfl B 44 _ 5 40 Tryz.underlying38 infoD rfl (by decide) _ _ _ _ rfl HO.out _ _ _ (eD.enc x) rfl rfl (fun _ => ⟨_, rfl, HV.out⟩) (fun v hv => eD.one x v hv) (by decide) (by omega) hB ?_; intro A' c' w' r1 r2 r3)
    all_goals
      go_ret
      exact ⟨A', c', rfl, by unfold Ow; rw [← HI.out]; exact r1, r2, r3⟩
  | some a =>
    obtain ⟨ab, ao, asp⟩ := a
    go_wp2_with (at_builtin; refine wpList_app_ow _ rfl _ _ 38 rfl B 44 _ 5 40 Tryz.underlying38 infoD rfl (by decide) _ _ _ _ rfl HO.out _ _ _ (eD.enc x) rfl rfl (fun _ => ⟨_, rfl, HV.out⟩) (fun v hv => eD.one x v hv) (by decide) (by omega) hB ?_; intro A' c' w' r1 r2 r3)
    all_goals
      go_ret
      exact ⟨A', c', rfl, by unfold Ow; rw [← HI.out]; exact r1, r2, r3⟩
set_option maxHeartbeats 8000000 in
set_option maxRecDepth 100000 in
theorem insD_grow (B g n i vb vc : Nat) (ys : List Dec) (x : Dec) (w : World) (te : TypeId) (h : Ow eD w B (some ⟨g, 0, none⟩) n n ys) (hv : Box w vb #[.int .i64 x.u, .int .i64 x.n, .int .i64 x.k, .int .i64 x.a, .int .i64 x.b] te) (hi : i < n) (hn : n ≤ 1000) :
    Calls Tryz.prog 43 #[.slice (some ⟨g, 0, none⟩) n n, .int .i64 i, .slice (some ⟨vb, 0, none⟩) 1 vc] w fun e w' => ∃ G, e = .returned (.slice (some ⟨w.heap.size, 0, none⟩) (n + 1) G) ∧ Ow eD w' w.heap.size (some ⟨w.heap.size, 0, none⟩) (n + 1) G (insA ys i x) ∧ Turn Non w w' ∧ w.heap.size < w'.heap.size := by
  obtain ⟨cur, hB, hg, hnc, hcm, hcs, hct⟩ := h.parts
  have hln := h.len
  have hsl := h.sl
  obtain ⟨i0, hi0, hz0, hzs, hzb⟩ := info_parts infoD
  have hsz : (Tryz.prog.info? 44).map (·.size) = some 5 := by rw [hi0]; simp [hzs]
  have hgl := (h.blk g ⟨0, none, rfl⟩).2
  have hvl : vb < w.heap.size := hv.lt
  have hgN : g ≠ w.heap.size := by omega
  have hvN : vb ≠ w.heap.size := by omega
  have hkk : (n : Int) + 1 - (i : Int) = ((n + 1 - i : Nat) : Int) := by omega
  have hik : i + (n + 1 - i) = n + 1 := by omega
  have hcel : ∀ j v, (flatE eD ys)[j]? = some v → w.cell? ⟨g, j, none⟩ = some v := fun j v hj => by
    obtain ⟨b, o, e, _, hc⟩ := hsl.2 (by omega)
    injection e with e
    injection e with e1 e2
    subst e1; subst e2
    have := hc _ v hj
    rwa [Nat.zero_add] at this
  have htl : (flatE eD (ys.take i)).length = i * 5 := by rw [flatE_len, List.length_take, hln, Nat.min_eq_left (by omega)]; rfl
  have hold : (Builtin.firstCells i0.size i (.slice (some ⟨g, 0, none⟩) i n)).run Tryz.prog w.drew = .ok (flatE eD (ys.take i)).toArray w.drew := by
    rw [hzs]
    exact run_firstCells_some w.drew 5 i ⟨g, 0, none⟩ i n (flatE eD (ys.take i)) htl (fun j v hj => by
      rw [Addr.add_lit, Nat.zero_add]
      refine hcel j v ?_
      rw [flatE_take] at hj
      rw [List.getElem?_take] at hj
      split at hj
      · exact hj
      · cases hj)
  have hrz : ∀ ty, (Builtin.append_ #[38, 3] ty #[.slice (some ⟨g, 0, none⟩) i n, .int .i64 ((n : Int) + 1 - (i : Int))]).run Tryz.prog w =
      .ok (.slice (some ⟨w.heap.size, 0, none⟩) (n + 1) (grownCap w (n + 1) n 44)) (w.drew.alloc (.cells ((flatE eD (ys.take i)).toArray ++ Builtin.zeroCells (Value.agg #[.int .i64 0, .int .i64 0, .int .i64 0, .int .i64 0, .int .i64 0]).cells (n + 1 - i) ++ Builtin.zeroCells (Value.agg #[.int .i64 0, .int .i64 0, .int .i64 0, .int .i64 0, .int .i64 0]).cells (grownCap w (n + 1) n 44 - (n + 1))) 44)) := fun ty => by
    have h := Lib.run_append_grow_zeros (P := Tryz.prog) w 38 3 ty 44 i0 _ .i64 .i64 Tryz.underlying38 Tryz.underlying3 hi0 hz0 (some ⟨g, 0, none⟩) i n (flatE eD (ys.take i)) hold (n + 1 - i) (by omega) (by omega) (by omega) (by omega) (by rw [hzb]; omega) (by rw [hzb, hik]; exact growslice_fits (by omega) (by omega))
    rw [hik] at h
    rw [hkk]
    exact h
  obtain ⟨G, hG⟩ : ∃ G, G = grownCap w (n + 1) n 44 := ⟨_, rfl⟩
  obtain ⟨ROW, hROW⟩ : ∃ ROW : Array Value, ROW = (flatE eD (ys.take i)).toArray ++ Builtin.zeroCells (Value.agg #[.int .i64 0, .int .i64 0, .int .i64 0, .int .i64 0, .int .i64 0]).cells (n + 1 - i) ++ Builtin.zeroCells (Value.agg #[.int .i64 0, .int .i64 0, .int .i64 0, .int .i64 0, .int .i64 0]).cells (G - (n + 1)) := ⟨_, rfl⟩
  rw [← hG] at hrz
  rw [← hROW] at hrz
  have hGn : n + 1 ≤ G := by rw [hG]; exact grownCap_ge w _ _ _
  have hG63 : G ≤ maxLen := by rw [hG]; exact grownCap_le_maxLen w (n + 1) n 44 (by unfold maxLen; omega)
  have hRs : ROW.size = G * 5 := by
    rw [hROW]
    simp only [Array.size_append, List.size_toArray, htl, size_zeroCells, Value.cells]
    simp
    omega
  have hRt : ROW.toList.take (i * eD.k) = flatE eD (ys.take i) := by
    rw [hROW, Array.toList_append, Array.toList_append, List.append_assoc, List.take_append_of_le_length (by show i * 5 ≤ _; rw [List.toList_toArray, htl]; exact Nat.le_refl _), List.toList_toArray]
    exact List.take_of_length_le (by rw [htl]; exact Nat.le_refl _)
  obtain ⟨W1, hW1⟩ : ∃ W1, W1 = w.drew.alloc (.cells ROW 44) := ⟨_, rfl⟩
  rw [← hW1] at hrz
  have hN1 : W1.heap[w.heap.size]? = some (.cells ROW 44 (0, 0)) := by rw [hW1]; exact heap_alloc_new w.drew _
  have hO1 : ∀ k, k < w.heap.size → W1.heap[k]? = w.heap[k]? := fun k hk => by rw [hW1]; exact (((Below.refl w.heap.size w).drew).alloc (Nat.le_refl _) _).block k hk
  have hv1 : Box W1 vb #[.int .i64 x.u, .int .i64 x.n, .int .i64 x.k, .int .i64 x.a, .int .i64 x.b] te := (hO1 vb hvl).trans hv
  have hcp1 : ∀ (W : World), W.heap = W1.heap → ∀ ty dc, (Builtin.copy_ #[38, 38] ty #[.slice (some ⟨w.heap.size, i * 5, none⟩) (n + 1 - i) dc, .slice (some ⟨vb, 0, none⟩) 1 vc]).run Tryz.prog W = .ok (goInt ((1 : Nat) : Int)) (W.setRow w.heap.size (over ROW.toList (i * 5) (eD.enc x)).toArray) := fun W hW ty dc =>
    run_copyK W _ _ ty 44 w.heap.size (i * 5) (n + 1 - i) dc ⟨vb, 0, none⟩ 1 vc _ _ (eD.enc x) 5 1 Tryz.underlying38 hsz (by rw [hW]; exact hN1) (by simp only [Nat.min_def]; split <;> omega) rfl
      (box_inD (show W.heap[vb]? = _ from by rw [hW]; exact hv1))
      (by rw [hRs]; show i * 5 + 5 ≤ G * 5; omega) (fun v hv => eD.one x v hv)
  have hRl : ROW.toList.length = G * 5 := by rw [Array.length_toList]; exact hRs
  have hol : (over ROW.toList (i * 5) (eD.enc x)).length = G * 5 := by rw [over_len (show i * 5 + 5 ≤ ROW.toList.length from by rw [hRl]; omega), hRl]
  have hdl : (flatE eD (ys.drop i)).length = (n - i) * 5 := by rw [flatE_len, List.length_drop, hln]; rfl
  obtain ⟨H2, hH2⟩ : ∃ H2, H2 = (W1.setRow w.heap.size (over ROW.toList (i * 5) (eD.enc x)).toArray).heap := ⟨_, rfl⟩
  have hN2 : H2[w.heap.size]? = some (.cells (over ROW.toList (i * 5) (eD.enc x)).toArray 44 (0, 0)) := by rw [hH2]; exact setRow_heap _ _ _ _ _ _ hN1
  have hO2 : H2[g]? = w.heap[g]? := by rw [hH2]; exact (setRow_other _ _ _ _ hgN).trans (hO1 g hgl)
  have hcp2 : ∀ (W : World), W.heap = H2 → ∀ ty dc sc, (Builtin.copy_ #[38, 38] ty #[.slice (some ⟨w.heap.size, (i + 1) * 5, none⟩) (n - i) dc, .slice (some ⟨g, i * 5, none⟩) (n - i) sc]).run Tryz.prog W = .ok (goInt ((n - i : Nat) : Int)) (W.setRow w.heap.size (over (over ROW.toList (i * 5) (eD.enc x)) ((i + 1) * 5) (flatE eD (ys.drop i))).toArray) := fun W hW ty dc sc =>
    run_copyK W _ _ ty 44 w.heap.size ((i + 1) * 5) (n - i) dc ⟨g, i * 5, none⟩ (n - i) sc _ _ (flatE eD (ys.drop i)) 5 (n - i) Tryz.underlying38 hsz (by rw [hW]; exact hN2) (by simp only [Nat.min_def]; split <;> omega) hdl
      (fun j v hj => by
        rw [Addr.add_lit]
        rw [flatE_drop, List.getElem?_drop] at hj
        rw [← hcel _ v hj]
        exact World.cell?_of_block (a := ⟨g, i * 5 + j, none⟩) (by show W.heap[g]? = _; rw [hW]; exact hO2))
      (by rw [List.size_toArray]; exact (show (i + 1) * 5 + (flatE eD (ys.drop i)).length ≤ (over ROW.toList (i * 5) (eD.enc x)).length from by rw [hol, hdl]; omega)) (fun v hv => flatE_one _ v hv)
  have FIN := hide (show ∀ (W : World), W.heap = H2 → Turn Non w W → Ow eD (W.setRow w.heap.size (over (over ROW.toList (i * 5) (eD.enc x)) ((i + 1) * 5) (flatE eD (ys.drop i))).toArray) w.heap.size (some ⟨w.heap.size, 0, none⟩) (n + 1) G (insA ys i x) ∧ Turn Non w (W.setRow w.heap.size (over (over ROW.toList (i * 5) (eD.enc x)) ((i + 1) * 5) (flatE eD (ys.drop i))).toArray) ∧ w.heap.size < (W.setRow w.heap.size (over (over ROW.toList (i * 5) (eD.enc x)) ((i + 1) * 5) (flatE eD (ys.drop i))).toArray).heap.size from fun W hW ht =>
    ⟨ow_fill (W := W) x hln (Nat.le_refl _) hGn hG63 (by rw [Array.length_toList, hRs]; rfl) hRt (by omega) (by rw [hW]; exact hN2) rfl, turn_row ht (.inl (Nat.le_refl _)) _, by
      rw [setRow_size, hW]
      rcases Nat.lt_or_ge w.heap.size H2.size with h1 | h1
      · exact h1
      · rw [Array.getElem?_eq_none h1] at hN2; cases hN2⟩)
  have HT1 := hide (show Turn Non w W1 by rw [hW1]; exact ((Turn.refl Non w).drew_).alloc_ _)
  have HT2 := hide (fun (W : World) (cs : Array Value) (h : Turn Non w W) => turn_row (g := w.heap.size) h (.inl (Nat.le_refl _)) cs)
  have hz2 : ¬ ((i : Int) = (n : Int)) := by omega
  have hz3 : (n : Int) < (n : Int) + 1 := by omega
  have hw1 : IntKind.i64.wrap ((i : Int) + 1) = (i : Int) + 1 := by rw [IntKind.wrap_i64]; omega
  have hb1 : (0 : Int) ≤ (i : Int) + 1 := by omega
  have hin : i ≤ n := by omega
  have htn : ((i : Int) + 1).toNat = i + 1 := by omega
  have hb3 : (i : Int) ≤ (n : Int) := by omega
  have hGi : ¬ (G = i) := by omega
  have hGim : ¬ (G = i + 1) := by omega
  have hci : ¬ (n = i) := by omega
  have mixed : Tryz.prog.follows Departure.mixedOrders = true := by kernel_rfl
  unfold maxLen at hG63
  have HH := hide hH2
  have hE1 : ∀ (W : World), W.heap = H2 → W.drew.heap = H2 := fun _ h => h
  clear h hg hct hcs hcm hsl hi0 hz0 hzs hzb hsz hcel htl hold hG hROW hRs hRt hW1 hN1 hO1 hv1 hol hdl hN2 hO2 hv hH2 hkk hik
  have HC2 := fun ty dc sc => hcp2 ((W1.setRow w.heap.size (over ROW.toList (i * 5) (eD.enc x)).toArray).drew) HH.out.symm ty dc sc
  clear hcp2
  go_enter Tryz.func43, Tryz.ntmps43
  go_wp2_with (first
    | (at_builtin; refine Lib.wpList_append_run _ rfl _ _ _ _ rfl _ _ rfl rfl _ _ (hrz _) ?_)
    | (at_builtin; refine wpList_copyR _ rfl _ _ 38 38 rfl _ _ rfl rfl (hcp1 _ rfl _ _) ?_))
  go_region_law_o (refine step_copyR rfl _ _ 38 38 rfl _ _ (by simp [Act.eval, Act.put]) (by simp [Act.eval, Act.put]) (HC2 _ _ _) ?_)
  go_wp2_with fail
  go_ret
  first | exact ⟨G, rfl, FIN.out _ HH.out.symm (HT2.out _ _ HT1.out).drew_⟩ | exact ⟨G, rfl, FIN.out _ HH.out.symm (HT2.out _ _ HT1.out)⟩
theorem insD_any (B n c i vb vc : Nat) (A : Option Addr) (ys : List Dec) (x : Dec) (w : World) (te : TypeId) (h : Ow eD w B A n c ys) (hv : Box w vb #[.int .i64 x.u, .int .i64 x.n, .int .i64 x.k, .int .i64 x.a, .int .i64 x.b] te) (hvg : ¬ Blk A vb) (hB : B ≤ w.heap.size) (hi : i ≤ n) (hn : n ≤ 1000) :
    Calls Tryz.prog 43 #[.slice A n c, .int .i64 i, .slice (some ⟨vb, 0, none⟩) 1 vc] w fun e w' => ∃ A' c', e = .returned (.slice A' (n + 1) c') ∧ Ow eD w' B A' (n + 1) c' (insA ys i x) ∧ Turn (Blk A) w w' ∧ (∀ g, Blk A' g → Blk A g ∨ (w.heap.size ≤ g ∧ g < w'.heap.size)) := by
  rcases Nat.lt_or_eq_of_le hi with hlt | rfl
  · obtain ⟨g, rfl, hg1, hg2⟩ := h.pos (by omega)
    have hgv : vb ≠ g := fun e => hvg (by rw [e]; exact ⟨0, none, rfl⟩)
    have hle := h.le
    by_cases hroom : n + 1 ≤ c
    · refine (insD_shift B g n c i vb vc ys x w te h hv hgv hlt hroom).mono ?_
      rintro e w' ⟨rfl, h1, h2⟩
      refine ⟨_, _, rfl, h1, h2.mono fun k _ hk => by rw [show k = g from hk]; exact ⟨0, none, rfl⟩, fun k hk => .inl hk⟩
    · obtain rfl : c = n := by omega
      refine (insD_grow B g c i vb vc ys x w te h hv hlt hn).mono ?_
      rintro e w' ⟨G, rfl, h1, h2, h3⟩
      refine ⟨_, _, rfl, h1.low hB, h2.mono fun k _ hk => hk.elim, fun k hk => .inr ?_⟩
      rw [blk_some] at hk
      omega
  · exact insD_end B i c vb vc A ys x w te h hv hB hn
end Go.Proofs.YtalbdclcappjpaaGreat
