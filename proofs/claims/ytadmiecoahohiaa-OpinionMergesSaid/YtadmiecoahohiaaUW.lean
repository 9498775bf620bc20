/- Merge, of the reference. -/
import Derived.Test.YtadmiecoahohiaaZA
import Derived.Test.YtadmiecoahohiaaHand
import Derived.Deep.DeepCutAuto
import Derived.Deep.CutRange
namespace Go.Proofs.Ytadmiecoahohiaa
open Go Go.RowKit Go.Lib
theorem sd_cells {W : World} {g : Nat} {t : TypeId} {f : Sd} (h : Box W g #[.int .i64 f.v, .bool f.i] t) : W.cell? ⟨g, 0, none⟩ = some (.int .i64 f.v) ∧ W.cell? ⟨g, 1, none⟩ = some (.bool f.i) := ⟨h.at_ 0, h.at_ 1⟩
def MM (f0 f1 f2 : Sd) (wr : World) (p q r : Value) (W : World) : Prop := ∃ g0 g1 g2, p = .pointer (some ⟨g0, 0, none⟩) ∧ q = .pointer (some ⟨g1, 0, none⟩) ∧ r = .pointer (some ⟨g2, 0, none⟩) ∧ Box W g0 #[.int .i64 f0.v, .bool f0.i] 53 ∧ Box W g1 #[.int .i64 f1.v, .bool f1.i] 53 ∧ Box W g2 #[.int .i64 f2.v, .bool f2.i] 53 ∧ Below wr.heap.size wr W ∧ wr.heap.size ≤ g0 ∧ wr.heap.size ≤ g1 ∧ wr.heap.size ≤ g2
def PX (wr W : World) (p : Value) : Prop := ∃ g, p = .pointer (some ⟨g, 0, none⟩) ∧ Box W g #[.int .i64 0, .bool false] 53 ∧ wr.heap.size ≤ g
theorem PX.al {wr W : World} {p : Value} (h : PX wr W p) (o : Obj) : PX wr (W.alloc o) p := by
  obtain ⟨g, e, hb, hg⟩ := h
  exact ⟨g, e, hb.alloc o, hg⟩
theorem PX.ne {wr W : World} {p : Value} (h : PX wr W p) : p ≠ .pointer (some ⟨W.heap.size, 0, none⟩) := by
  obtain ⟨g, rfl, hb, hg⟩ := h
  intro e
  injection e with e
  injection e with e
  injection e with e
  have := hb.lt
  omega
theorem PX.new {wr W : World} (h : Gr wr W) : PX wr (W.alloc (.cells #[.int .i64 0, .bool false] 53)) (.pointer (some ⟨W.heap.size, 0, none⟩)) := ⟨_, rfl, Box.new _ _ _, h.below.size⟩
structure LS (f0 f1 f2 : Sd) (wr : World) (c : Nat) (b0 b1 b2 : Bool) (p0 p1 p2 v0 v1 v2 : Value) (W : World) : Prop where
  gr : Gr wr W
  c0 : 1 ≤ c → v0 = .agg #[.int .i64 f0.v, .bool f0.i]
  c1 : 2 ≤ c → v1 = .agg #[.int .i64 f1.v, .bool f1.i]
  c2 : 3 ≤ c → v2 = .agg #[.int .i64 f2.v, .bool f2.i]
  q0 : b0 = true → PX wr W p0
  q1 : b1 = true → PX wr W p1
  q2 : b2 = true → PX wr W p2
  n01 : b0 = true → b1 = true → p0 ≠ p1
  n02 : b0 = true → b2 = true → p0 ≠ p2
  n12 : b1 = true → b2 = true → p1 ≠ p2
section
variable {f0 f1 f2 : Sd} {wr W : World} {c : Nat} {b0 b1 b2 : Bool} {p0 p1 p2 v0 v1 v2 : Value}
theorem LS.call0 (h : LS f0 f1 f2 wr 0 b0 b1 b2 p0 p1 p2 v0 v1 v2 W) (o : Obj) : LS f0 f1 f2 wr 1 b0 b1 b2 p0 p1 p2 (.agg #[.int .i64 f0.v, .bool f0.i]) v1 v2 (W.alloc o) :=
  ⟨h.gr.alloc o, fun _ => rfl, fun h => absurd h (by decide), fun h => absurd h (by decide), fun e => (h.q0 e).al o, fun e => (h.q1 e).al o, fun e => (h.q2 e).al o, h.n01, h.n02, h.n12⟩
theorem LS.call1 (h : LS f0 f1 f2 wr 1 b0 b1 b2 p0 p1 p2 v0 v1 v2 W) (o : Obj) : LS f0 f1 f2 wr 2 b0 b1 b2 p0 p1 p2 v0 (.agg #[.int .i64 f1.v, .bool f1.i]) v2 (W.alloc o) :=
  ⟨h.gr.alloc o, fun _ => h.c0 (by decide), fun _ => rfl, fun h => absurd h (by decide), fun e => (h.q0 e).al o, fun e => (h.q1 e).al o, fun e => (h.q2 e).al o, h.n01, h.n02, h.n12⟩
theorem LS.call2 (h : LS f0 f1 f2 wr 2 b0 b1 b2 p0 p1 p2 v0 v1 v2 W) (o : Obj) : LS f0 f1 f2 wr 3 b0 b1 b2 p0 p1 p2 v0 v1 (.agg #[.int .i64 f2.v, .bool f2.i]) (W.alloc o) :=
  ⟨h.gr.alloc o, fun _ => h.c0 (by decide), fun _ => h.c1 (by decide), fun _ => rfl, fun e => (h.q0 e).al o, fun e => (h.q1 e).al o, fun e => (h.q2 e).al o, h.n01, h.n02, h.n12⟩
theorem LS.al0 (h : LS f0 f1 f2 wr c false b1 b2 p0 p1 p2 v0 v1 v2 W) : LS f0 f1 f2 wr c true b1 b2 (.pointer (some ⟨W.heap.size, 0, none⟩)) p1 p2 v0 v1 v2 (W.alloc (.cells #[.int .i64 0, .bool false] 53)) :=
  ⟨h.gr.alloc _, h.c0, h.c1, h.c2, fun _ => PX.new h.gr, fun e => (h.q1 e).al _, fun e => (h.q2 e).al _, fun _ e => (h.q1 e).ne.symm, fun _ e => (h.q2 e).ne.symm, h.n12⟩
theorem LS.al1 (h : LS f0 f1 f2 wr c b0 false b2 p0 p1 p2 v0 v1 v2 W) : LS f0 f1 f2 wr c b0 true b2 p0 (.pointer (some ⟨W.heap.size, 0, none⟩)) p2 v0 v1 v2 (W.alloc (.cells #[.int .i64 0, .bool false] 53)) :=
  ⟨h.gr.alloc _, h.c0, h.c1, h.c2, fun e => (h.q0 e).al _, fun _ => PX.new h.gr, fun e => (h.q2 e).al _, fun e _ => (h.q0 e).ne, h.n02, fun _ e => (h.q2 e).ne.symm⟩
theorem LS.al2 (h : LS f0 f1 f2 wr c b0 b1 false p0 p1 p2 v0 v1 v2 W) : LS f0 f1 f2 wr c b0 b1 true p0 p1 (.pointer (some ⟨W.heap.size, 0, none⟩)) v0 v1 v2 (W.alloc (.cells #[.int .i64 0, .bool false] 53)) :=
  ⟨h.gr.alloc _, h.c0, h.c1, h.c2, fun e => (h.q0 e).al _, fun e => (h.q1 e).al _, fun _ => PX.new h.gr, h.n01, fun e _ => (h.q0 e).ne, fun e _ => (h.q1 e).ne⟩
end
section
variable {P : Program} {ops : Array Oper} {Q : Exit → Act → World → Prop} {md : Region.Mode} {S : World → Prop}
theorem lat2 (Φ : Nat → Array Bool → Act → World → Prop)
    (step : ∀ f l a w, Φ f l a w → wpAnyH P md ops Q S f l a w ∨ ∃ f' rs, f = f' + 1 ∧ Region.ready md ops l = rs ∧ rs ≠ [] ∧ ∀ i ∈ rs, wpOp P ops Q i (fun a' w' => S w' ∧ Φ f' (l.setIfInBounds i true) a' w') a w) : ∀ f l a w, Φ f l a w → wpAnyH P md ops Q S f l a w :=
  lat Φ fun f l a w h => by
    rcases step f l a w h with h | ⟨f', rs, e, hr, hne, hs⟩
    · exact .inl h
    · exact .inr ⟨f', e, by rw [hr]; exact hne, by rw [hr]; exact hs⟩
theorem lat_cons {T : Nat → Act → World → Prop} {a : Act} {w : World} {i : Nat} {o : Oper} {rs : List Nat} (ho : ops[i]? = some o)
    (h : ∀ K' : Act → World → Prop, Shut (∀ a w, T i a w → K' a w) → if Region.wanted o (yielded ops a.tmps) = true then Oper.wp P o a w K' Q else K' (a.put o.dst undef) w)
    (hs : ∀ j ∈ rs, wpOp P ops Q j (T j) a w) : ∀ j ∈ i :: rs, wpOp P ops Q j (T j) a w := fun j hj => by
  rcases List.mem_cons.1 hj with rfl | hj
  · exact wpOp_step ho h
  · exact hs j hj
theorem lat_nil {T : Nat → Act → World → Prop} {a : Act} {w : World} : ∀ j ∈ ([] : List Nat), wpOp P ops Q j (T j) a w := fun j hj => by cases hj
end

set_option maxHeartbeats 32000000 in
set_option maxRecDepth 100000 in
theorem rmerge_any (A0 : Option Addr) (n0 c0 : Nat) (o : List Ent) (A1 : Option Addr) (n1 c1 : Nat) (a : List Ent) (A2 : Option Addr) (n2 c2 : Nat) (b : List Ent) (w : World) (ho : SL eE w A0 n0 o) (ha : SL eE w A1 n1 a) (hb : SL eE w A2 n2 b) (h0 : n0 ≤ 200) (h1 : n1 ≤ 200) (h2 : n2 ≤ 200) :
    Calls Try.prog 29 #[.slice A0 n0 c0, .slice A1 n1 c1, .slice A2 n2 c2] w (GivM w (merR o a b)) := by
  have HX0 := hide ho
  have HX1 := hide ha
  have HX2 := hide hb
  clear ho ha hb
  cases hv0 : vE o with
  | false =>
    have HR := hide (merR_no (a := a) (b := b) (.inl hv0))
    have HV0 := hide hv0
    clear hv0
    go_enter Try.func29, Try.ntmps29
    go_wp2_with fail
    refine (rvalid_any A0 n0 c0 o w HX0.out (by omega) false HV0.out).mono ?_
    rintro e w1 ⟨rfl, g1⟩
    have G1 := hide (g1)
    clear g1
    go_wp2_with fail
    go_ret3
    exact GivM.none 1 HR.out rfl G1.out.below
  | true =>
    cases hv1 : vE a with
    | false =>
      have HR := hide (merR_no (o := o) (b := b) (.inr (.inl hv1)))
      have HV0 := hide hv0
      have HV1 := hide hv1
      clear hv0 hv1
      go_enter Try.func29, Try.ntmps29
      go_wp2_with fail
      refine (rvalid_any A0 n0 c0 o w HX0.out (by omega) true HV0.out).mono ?_
      rintro e w1 ⟨rfl, g1⟩
      have G1 := hide (g1)
      clear g1
      go_wp2_with fail
      refine (rvalid_any A1 n1 c1 a w1 (HX1.out.keep G1.out.below) (by omega) false HV1.out).mono ?_
      rintro e w2 ⟨rfl, g2⟩
      have G2 := hide ((G1.out.trans g2))
      clear g2
      go_wp2_with fail
      go_ret3
      exact GivM.none 1 HR.out rfl G2.out.below
    | true =>
      cases hv2 : vE b with
      | false =>
        have HR := hide (merR_no (o := o) (a := a) (.inr (.inr hv2)))
        have HV0 := hide hv0
        have HV1 := hide hv1
        have HV2 := hide hv2
        clear hv0 hv1 hv2
        go_enter Try.func29, Try.ntmps29
        go_wp2_with fail
        refine (rvalid_any A0 n0 c0 o w HX0.out (by omega) true HV0.out).mono ?_
        rintro e w1 ⟨rfl, g1⟩
        have G1 := hide (g1)
        clear g1
        go_wp2_with fail
        refine (rvalid_any A1 n1 c1 a w1 (HX1.out.keep G1.out.below) (by omega) true HV1.out).mono ?_
        rintro e w2 ⟨rfl, g2⟩
        have G2 := hide ((G1.out.trans g2))
        clear g2
        go_wp2_with fail
        refine (rvalid_any A2 n2 c2 b w2 (HX2.out.keep G2.out.below) (by omega) false HV2.out).mono ?_
        rintro e w3 ⟨rfl, g3⟩
        have G3 := hide ((G2.out.trans g3))
        clear g3
        go_wp2_with fail
        go_ret3
        exact GivM.none 1 HR.out rfl G3.out.below
      | true =>
        have HR := hide (merR_ok hv0 hv1 hv2)
        have HV0 := hide hv0
        have HV1 := hide hv1
        have HV2 := hide hv2
        clear hv0 hv1 hv2
        go_enter Try.func29, Try.ntmps29
        go_wp2_with fail
        refine (rvalid_any A0 n0 c0 o w HX0.out (by omega) true HV0.out).mono ?_
        rintro e w1 ⟨rfl, g1⟩
        have G1 := hide (g1)
        clear g1
        go_wp2_with fail
        refine (rvalid_any A1 n1 c1 a w1 (HX1.out.keep G1.out.below) (by omega) true HV1.out).mono ?_
        rintro e w2 ⟨rfl, g2⟩
        have G2 := hide ((G1.out.trans g2))
        clear g2
        go_wp2_with fail
        refine (rvalid_any A2 n2 c2 b w2 (HX2.out.keep G2.out.below) (by omega) true HV2.out).mono ?_
        rintro e w3 ⟨rfl, g3⟩
        have G3 := hide ((G2.out.trans g3))
        clear g3
        go_wp2_with fail
        have hK : kset (fl [⟨A0, n0, c0, o⟩, ⟨A1, n1, c1, a⟩, ⟨A2, n2, c2, b⟩]) = meK o a b := by rw [fl_three]; rfl
        have hfl : (fl [⟨A0, n0, c0, o⟩, ⟨A1, n1, c1, a⟩, ⟨A2, n2, c2, b⟩]).length ≤ 900 := by rw [fl_three, List.length_append, List.length_append, List.length_map, List.length_map, List.length_map, HX0.out.1, HX1.out.1, HX2.out.1]; omega
        have hNK : (meK o a b).length ≤ 600 := by
          refine Nat.le_trans (len_kset _) ?_
          rw [List.length_append, List.length_append, List.length_map, List.length_map, List.length_map, HX0.out.1, HX1.out.1, HX2.out.1]
          omega
        have HCK := hide (keys_any w3.heap.size 3 3 [⟨A0, n0, c0, o⟩, ⟨A1, n1, c1, a⟩, ⟨A2, n2, c2, b⟩] (w3.alloc (.cells #[.slice A0 n0 c0, .slice A1 n1 c1, .slice A2 n2 c2] 22)) (ll_three (newE w3 _ _ rfl) ((HX0.out.keep G3.out.below).keep ((Below.refl _ _).alloc (Nat.le_refl _) _)) ((HX1.out.keep G3.out.below).keep ((Below.refl _ _).alloc (Nat.le_refl _) _)) ((HX2.out.keep G3.out.below).keep ((Below.refl _ _).alloc (Nat.le_refl _) _))) rfl (by decide) hfl)
        rw [hK] at HCK
        have HKD := hide (show meL o a b = mkE' (meK o a b) (meF o a b) from rfl)
        have HKB := hide (show meB o a b = (meK o a b).filter (meG o a b) from rfl)
        generalize meK o a b = K at *
        clear hK hfl
        refine HCK.out.mono ?_
        rintro e w4 ⟨AK, cK, rfl, ok, bk⟩
        have HKS := hide ok.1
        have B4 := hide (show Below w.heap.size w w4 from Below.next (Below.allocS G3.out.below _) bk)
        have HLK := hide (rfl : K.length = K.length)
        generalize hnk : K.length = NK at *
        clear ok bk HCK HLK
        have HNK := hide hnk
        clear hnk
        have HX0 := hide (HX0.out.keep B4.out)
        have HX1 := hide (HX1.out.keep B4.out)
        have HX2 := hide (HX2.out.keep B4.out)
        have HV0 := hide (vE_iff.1 HV0.out).2
        have HV1 := hide (vE_iff.1 HV1.out).2
        have HV2 := hide (vE_iff.1 HV2.out).2
        have mixed : Try.prog.follows Departure.mixedOrders = true := by kernel_rfl
        go_wp2_with fail
        go_loopw [9, 10, 12] (fun s s' i wr => ∃ (j m q : Nat) (A A' : Option Addr) (cc cc' : Nat) (zs : List Ent) (bs : List Int), i = .int .i64 (j : Int) ∧ j ≤ NK ∧ s = .slice A m cc ∧ s' = .slice A' q cc' ∧ m ≤ j ∧ q ≤ j ∧ Hid (mkE' (K.take j) (meF o a b) = zs ∧ zs.length = m) ∧ Hid ((K.take j).filter (meG o a b) = bs ∧ bs.length = q) ∧ Hid (Ow eE wr w4.heap.size A m cc zs) ∧ Hid (Ow eI wr w4.heap.size A' q cc' bs) ∧ Hid (Sep (Blk A) (Blk A')) ∧ Hid (Below w4.heap.size w4 wr)) (fun _ _ i _ => NK - (RowKit.intOf i).toNat)
        case atStart => exact ⟨0, 0, 0, none, none, 0, 0, [], [], rfl, Nat.zero_le _, rfl, rfl, Nat.le_refl _, Nat.le_refl _, hide ⟨rfl, rfl⟩, hide ⟨rfl, rfl⟩, hide (Ow.nil_ _ _), hide (Ow.nil_ _ _), hide (fun k hk _ => blk_none hk), hide (Below.refl _ _)⟩
        case round =>
          obtain ⟨j, m, q, A, A', cc, cc', zs, bs, rfl, hj, rfl, rfl, hmj, hqj, HZ, HQ, HO, HI, HS, HB⟩ := hrel
        
          by_cases hlt : j < NK
          · obtain ⟨bk, ok, k, rfl, hl, hk, ck0⟩ := HKS.out.atI hlt
            have HKC := hide (fun (W : World) (h : Below w4.heap.size w4 W) => show W.cell? ⟨bk, ok + j, none⟩ = some (.int .i64 k) by rw [h.cell (p := ⟨bk, ok + j, none⟩) hl, show ok + j = ok + j * 1 by omega]; exact ck0)
            have d0 : decide ((j : Int) < (NK : Int)) = true := decide_eq_true (by omega)
            have a1 : (0 : Int) ≤ (j : Int) := by omega
            have a2 : (j : Int) < (NK : Int) := by omega
            obtain ⟨f0, hf0⟩ : ∃ f, at' o k = f := ⟨_, rfl⟩
            obtain ⟨f1, hf1⟩ : ∃ f, at' a k = f := ⟨_, rfl⟩
            obtain ⟨f2, hf2⟩ : ∃ f, at' b k = f := ⟨_, rfl⟩
            have HF0 := hide hf0
            have HF1 := hide hf1
            have HF2 := hide hf2
            have HFK := hide (show meF o a b k = me1 f0 f1 f2 by unfold meF; rw [hf0, hf1, hf2])
            have HGK := hide (show meG o a b k = bad1 f0 f1 f2 by unfold meG; rw [hf0, hf1, hf2])
            have HZN0 := hide (mkE_next hk (meF o a b))
            have HQN0 := hide (filterB_next (G := meG o a b) hk)
            have bb0 := HB.out
            have hl9 := hl
            clear ck0 hk hf0 hf1 hf2
            go_wp2_with fail
            have HO9 := HO
            go_cut [13, 14, 15] from 40 to 58 (fun p q r wx => MM f0 f1 f2 wr p q r wx)
            case first =>
              clear HZN0 HQN0 HFK HGK HZ HQ HO HI HS HO9 HKD HKB HNK HR
              refine wp_region_held_drew (S := fun w' => w'.cell? ⟨bk, ok + j, none⟩ = some (.int .i64 k)) (by kernel_rfl) (HKC.out _ (Below.next HB.out ((Gr.refl wr).drew).below)) (fun hHeld => ?_)
              refine take_at 0 40 (v := ?v0) rfl rfl (by kernel_rfl) (by kernel_rfl) (by kernel_rfl) (fun _ _ _ h => h) (by rfl) ?y0 (by assumption) ?r0
              case y0 => (intro w hSw; (try dsimp only at hSw); (first | (go_simp; done) | (go_simp; with_reducible rfl)))
              try simp only [Act.put, List.setIfInBounds_toArray, List.set_cons_zero, List.set_cons_succ]
              refine take_at 1 41 (v := ?v1) rfl rfl (by kernel_rfl) (by kernel_rfl) (by kernel_rfl) (fun _ _ _ h => h) (by rfl) ?y1 (by assumption) ?r1
              case y1 => (intro w hSw; (try dsimp only at hSw); (first | (go_simp; done) | (go_simp; with_reducible rfl)))
              try simp only [Act.put, List.setIfInBounds_toArray, List.set_cons_zero, List.set_cons_succ]
              refine take_at 2 42 (v := ?v2) rfl rfl (by kernel_rfl) (by kernel_rfl) (by kernel_rfl) (fun _ _ _ h => h) (by rfl) ?y2 (by assumption) ?r2
              case y2 => (intro w hSw; (try dsimp only at hSw); (first | (go_simp; done) | (go_simp; with_reducible rfl)))
              try simp only [Act.put, List.setIfInBounds_toArray, List.set_cons_zero, List.set_cons_succ]
              refine take_at 3 43 (v := ?v3) rfl rfl (by kernel_rfl) (by kernel_rfl) (by kernel_rfl) (fun _ _ _ h => h) (by rfl) ?y3 (by assumption) ?r3
              case y3 => (intro w hSw; (try dsimp only at hSw); (first | (go_simp; done) | (go_simp; with_reducible rfl)))
              try simp only [Act.put, List.setIfInBounds_toArray, List.set_cons_zero, List.set_cons_succ]
              refine take_at 4 44 (v := ?v4) rfl rfl (by kernel_rfl) (by kernel_rfl) (by kernel_rfl) (fun _ _ _ h => h) (by rfl) ?y4 (by assumption) ?r4
              case y4 => (intro w hSw; (try dsimp only at hSw); (first | (go_simp; done) | (go_simp; with_reducible rfl)))
              try simp only [Act.put, List.setIfInBounds_toArray, List.set_cons_zero, List.set_cons_succ]
              refine take_at 6 46 (v := ?v6) rfl rfl (by kernel_rfl) (by kernel_rfl) (by kernel_rfl) (fun _ _ _ h => h) (by rfl) ?y6 (by assumption) ?r6
              case y6 => (intro w hSw; (try dsimp only at hSw); (first | (go_simp; done) | (go_simp; with_reducible rfl)))
              try simp only [Act.put, List.setIfInBounds_toArray, List.set_cons_zero, List.set_cons_succ]
              refine take_at 7 47 (v := ?v7) rfl rfl (by kernel_rfl) (by kernel_rfl) (by kernel_rfl) (fun _ _ _ h => h) (by rfl) ?y7 (by assumption) ?r7
              case y7 => (intro w hSw; (try dsimp only at hSw); (first | (go_simp; done) | (go_simp; with_reducible rfl)))
              try simp only [Act.put, List.setIfInBounds_toArray, List.set_cons_zero, List.set_cons_succ]
              refine take_at 8 48 (v := ?v8) rfl rfl (by kernel_rfl) (by kernel_rfl) (by kernel_rfl) (fun _ _ _ h => h) (by rfl) ?y8 (by assumption) ?r8
              case y8 => (intro w hSw; (try dsimp only at hSw); (first | (go_simp; done) | (go_simp; with_reducible rfl)))
              try simp only [Act.put, List.setIfInBounds_toArray, List.set_cons_zero, List.set_cons_succ]
              refine take_at 9 49 (v := ?v9) rfl rfl (by kernel_rfl) (by kernel_rfl) (by kernel_rfl) (fun _ _ _ h => h) (by rfl) ?y9 (by assumption) ?r9
              case y9 => (intro w hSw; (try dsimp only at hSw); (first | (go_simp; done) | (go_simp; with_reducible rfl)))
              try simp only [Act.put, List.setIfInBounds_toArray, List.set_cons_zero, List.set_cons_succ]
              refine take_at 10 50 (v := ?v10) rfl rfl (by kernel_rfl) (by kernel_rfl) (by kernel_rfl) (fun _ _ _ h => h) (by rfl) ?y10 (by assumption) ?r10
              case y10 => (intro w hSw; (try dsimp only at hSw); (first | (go_simp; done) | (go_simp; with_reducible rfl)))
              try simp only [Act.put, List.setIfInBounds_toArray, List.set_cons_zero, List.set_cons_succ]
              refine take_at 12 52 (v := ?v12) rfl rfl (by kernel_rfl) (by kernel_rfl) (by kernel_rfl) (fun _ _ _ h => h) (by rfl) ?y12 (by assumption) ?r12
              case y12 => (intro w hSw; (try dsimp only at hSw); (first | (go_simp; done) | (go_simp; with_reducible rfl)))
              try simp only [Act.put, List.setIfInBounds_toArray, List.set_cons_zero, List.set_cons_succ]
              refine take_at 13 53 (v := ?v13) rfl rfl (by kernel_rfl) (by kernel_rfl) (by kernel_rfl) (fun _ _ _ h => h) (by rfl) ?y13 (by assumption) ?r13
              case y13 => (intro w hSw; (try dsimp only at hSw); (first | (go_simp; done) | (go_simp; with_reducible rfl)))
              try simp only [Act.put, List.setIfInBounds_toArray, List.set_cons_zero, List.set_cons_succ]
              refine take_at 14 54 (v := ?v14) rfl rfl (by kernel_rfl) (by kernel_rfl) (by kernel_rfl) (fun _ _ _ h => h) (by rfl) ?y14 (by assumption) ?r14
              case y14 => (intro w hSw; (try dsimp only at hSw); (first | (go_simp; done) | (go_simp; with_reducible rfl)))
              try simp only [Act.put, List.setIfInBounds_toArray, List.set_cons_zero, List.set_cons_succ]
              refine take_at 15 55 (v := ?v15) rfl rfl (by kernel_rfl) (by kernel_rfl) (by kernel_rfl) (fun _ _ _ h => h) (by rfl) ?y15 (by assumption) ?r15
              case y15 => (intro w hSw; (try dsimp only at hSw); (first | (go_simp; done) | (go_simp; with_reducible rfl)))
              try simp only [Act.put, List.setIfInBounds_toArray, List.set_cons_zero, List.set_cons_succ]
              refine take_at 16 56 (v := ?v16) rfl rfl (by kernel_rfl) (by kernel_rfl) (by kernel_rfl) (fun _ _ _ h => h) (by rfl) ?y16 (by assumption) ?r16
              case y16 => (intro w hSw; (try dsimp only at hSw); (first | (go_simp; done) | (go_simp; with_reducible rfl)))
              try simp only [Act.put, List.setIfInBounds_toArray, List.set_cons_zero, List.set_cons_succ]
              clear hHeld
              have HKW := hide (fun (W : World) (h : Below wr.heap.size wr W) => HKC.out W (Below.next HB.out h))
              refine lat2 (fun f l x W => ∃ (c : Nat) (b0 b1 b2 : Bool) (p0 p1 p2 v0 v1 v2 : Value), c ≤ 3 ∧ f + (c + b0.toNat + b1.toNat + b2.toNat) = 9 ∧ l = #[true, true, true, true, true, decide (1 ≤ c), true, true, true, true, true, decide (2 ≤ c), true, true, true, true, true, decide (3 ≤ c), b0, b1, b2, false, false, false] ∧ x = { tmps := #[Value.slice A0 n0 c0, Value.slice A1 n1 c1, Value.slice A2 n2 c2, undef, undef, undef, Value.slice none 0 0, Value.slice none 0 0, Value.int IntKind.i64 0, Value.slice A m cc, Value.slice A' q cc', Value.slice (some { block := bk, off := ok }) NK cK, Value.int IntKind.i64 ↑j, p0, p1, p2, Value.slice A0 n0 c0, Value.bool true, Value.bool false, Value.bool false, Value.slice A1 n1 c1, Value.bool true, Value.bool false, Value.bool false, Value.bool false, Value.slice A2 n2 c2, Value.bool true, Value.bool false, Value.bool false, Value.slice A0 n0 c0, Value.slice A1 n1 c1, Value.slice A2 n2 c2, Value.slice (some { block := w3.heap.size, off := 0 }) 3 3, Value.slice (some { block := bk, off := ok }) NK cK, Value.int IntKind.i64 ↑j, Value.slice (some { block := bk, off := ok }) NK cK, Value.int IntKind.i64 ↑NK, Value.bool true, u38, u39, Value.slice A0 n0 c0, Value.slice (some { block := bk, off := ok }) NK cK, Value.int IntKind.i64 ↑j, Value.pointer (some { block := bk, off := ok + j }), Value.int IntKind.i64 k, v0, Value.slice A1 n1 c1, Value.slice (some { block := bk, off := ok }) NK cK, Value.int IntKind.i64 ↑j, Value.pointer (some { block := bk, off := ok + j }), Value.int IntKind.i64 k, v1, Value.slice A2 n2 c2, Value.slice (some { block := bk, off := ok }) NK cK, Value.int IntKind.i64 ↑j, Value.pointer (some { block := bk, off := ok + j }), Value.int IntKind.i64 k, v2, u58, u59, u60, u61, u62, u63, u64, u65, u66, u67, u68, u69, u70, u71, u72, u73, u74, u75, u76, u77, u78, u79, u80, u81, u82, u83, u84, u85, u86, u87, u88, u89, u90, u91, u92, u93, u94, u95, u96, u97, u98, undef, undef, undef, undef, undef, undef, undef, undef, undef, undef], defers := [] } ∧ LS f0 f1 f2 wr c b0 b1 b2 p0 p1 p2 v0 v1 v2 W) ?step _ _ _ _ ?init
              case init => exact ⟨0, false, false, false, u13, u14, u15, u45, u51, u57, by decide, rfl, by kernel_rfl, rfl, ⟨(Gr.refl wr).drew, fun h => absurd h (by decide), fun h => absurd h (by decide), fun h => absurd h (by decide), fun h => Bool.noConfusion h, fun h => Bool.noConfusion h, fun h => Bool.noConfusion h, fun h => Bool.noConfusion h, fun h => Bool.noConfusion h, fun h => Bool.noConfusion h⟩⟩
              case step =>
              rintro f l x W ⟨c, b0, b1, b2, p0, p1, p2, v0, v1, v2, hc, hf, rfl, rfl, h⟩
              have XA0 := hide (HX0.out.keep (Below.next HB.out h.gr.below))
              have XA1 := hide (HX1.out.keep (Below.next HB.out h.gr.below))
              have XA2 := hide (HX2.out.keep (Below.next HB.out h.gr.below))
              have H := hide h
              have HF := hide hf
              clear h hf
              rcases (show c = 0 ∨ c = 1 ∨ c = 2 ∨ c = 3 by omega) with rfl | rfl | rfl | rfl
              · cases b0 <;> cases b1 <;> cases b2
                · refine .inr ⟨f - 1, [5, 18, 19, 20], by have h9 : f + 0 = 9 := HF.out; omega, by kernel_rfl, by simp, ?_⟩
                  refine lat_cons (i := 5) rfl (fun K hK => ?_) ?_
                  · go_simp
                    go_at_call_of 49 (Value.slice A0 n0 c0)
                    with_reducible refine (rat_ex A0 n0 c0 o k _ XA0.out (by omega) f0 HF0.out).mono ?_
                    rintro e u1 ⟨rfl, rfl⟩
                    (try go_wp2_with fail)
                    refine hK.out _ _ ⟨HKW.out _ (H.out.gr.alloc _).below, 1, false, false, false, p0, p1, p2, _, v1, v2, by decide, (by have h9 : f + 0 = 9 := HF.out; show (f - 1) + 1 = 9; omega), by kernel_rfl, ?_, H.out.call0 _⟩
                    rfl
                  refine lat_cons (i := 18) rfl (fun K hK => ?_) ?_
                  · go_simp
                    refine hK.out _ _ ⟨HKW.out _ (H.out.gr.alloc _).below, 0, true, false, false, _, p1, p2, v0, v1, v2, by decide, (by have h9 : f + 0 = 9 := HF.out; show (f - 1) + 1 = 9; omega), by kernel_rfl, ?_, H.out.al0⟩
                    rfl
                  refine lat_cons (i := 19) rfl (fun K hK => ?_) ?_
                  · go_simp
                    refine hK.out _ _ ⟨HKW.out _ (H.out.gr.alloc _).below, 0, false, true, false, p0, _, p2, v0, v1, v2, by decide, (by have h9 : f + 0 = 9 := HF.out; show (f - 1) + 1 = 9; omega), by kernel_rfl, ?_, H.out.al1⟩
                    rfl
                  refine lat_cons (i := 20) rfl (fun K hK => ?_) ?_
                  · go_simp
                    refine hK.out _ _ ⟨HKW.out _ (H.out.gr.alloc _).below, 0, false, false, true, p0, p1, _, v0, v1, v2, by decide, (by have h9 : f + 0 = 9 := HF.out; show (f - 1) + 1 = 9; omega), by kernel_rfl, ?_, H.out.al2⟩
                    rfl
                  exact lat_nil
                · refine .inr ⟨f - 1, [5, 18, 19], by have h9 : f + 1 = 9 := HF.out; omega, by kernel_rfl, by simp, ?_⟩
                  refine lat_cons (i := 5) rfl (fun K hK => ?_) ?_
                  · go_simp
                    go_at_call_of 49 (Value.slice A0 n0 c0)
                    with_reducible refine (rat_ex A0 n0 c0 o k _ XA0.out (by omega) f0 HF0.out).mono ?_
                    rintro e u1 ⟨rfl, rfl⟩
                    (try go_wp2_with fail)
                    refine hK.out _ _ ⟨HKW.out _ (H.out.gr.alloc _).below, 1, false, false, true, p0, p1, p2, _, v1, v2, by decide, (by have h9 : f + 1 = 9 := HF.out; show (f - 1) + 2 = 9; omega), by kernel_rfl, ?_, H.out.call0 _⟩
                    rfl
                  refine lat_cons (i := 18) rfl (fun K hK => ?_) ?_
                  · go_simp
                    refine hK.out _ _ ⟨HKW.out _ (H.out.gr.alloc _).below, 0, true, false, true, _, p1, p2, v0, v1, v2, by decide, (by have h9 : f + 1 = 9 := HF.out; show (f - 1) + 2 = 9; omega), by kernel_rfl, ?_, H.out.al0⟩
                    rfl
                  refine lat_cons (i := 19) rfl (fun K hK => ?_) ?_
                  · go_simp
                    refine hK.out _ _ ⟨HKW.out _ (H.out.gr.alloc _).below, 0, false, true, true, p0, _, p2, v0, v1, v2, by decide, (by have h9 : f + 1 = 9 := HF.out; show (f - 1) + 2 = 9; omega), by kernel_rfl, ?_, H.out.al1⟩
                    rfl
                  exact lat_nil
                · refine .inr ⟨f - 1, [5, 18, 20], by have h9 : f + 1 = 9 := HF.out; omega, by kernel_rfl, by simp, ?_⟩
                  refine lat_cons (i := 5) rfl (fun K hK => ?_) ?_
                  · go_simp
                    go_at_call_of 49 (Value.slice A0 n0 c0)
                    with_reducible refine (rat_ex A0 n0 c0 o k _ XA0.out (by omega) f0 HF0.out).mono ?_
                    rintro e u1 ⟨rfl, rfl⟩
                    (try go_wp2_with fail)
                    refine hK.out _ _ ⟨HKW.out _ (H.out.gr.alloc _).below, 1, false, true, false, p0, p1, p2, _, v1, v2, by decide, (by have h9 : f + 1 = 9 := HF.out; show (f - 1) + 2 = 9; omega), by kernel_rfl, ?_, H.out.call0 _⟩
                    rfl
                  refine lat_cons (i := 18) rfl (fun K hK => ?_) ?_
                  · go_simp
                    refine hK.out _ _ ⟨HKW.out _ (H.out.gr.alloc _).below, 0, true, true, false, _, p1, p2, v0, v1, v2, by decide, (by have h9 : f + 1 = 9 := HF.out; show (f - 1) + 2 = 9; omega), by kernel_rfl, ?_, H.out.al0⟩
                    rfl
                  refine lat_cons (i := 20) rfl (fun K hK => ?_) ?_
                  · go_simp
                    refine hK.out _ _ ⟨HKW.out _ (H.out.gr.alloc _).below, 0, false, true, true, p0, p1, _, v0, v1, v2, by decide, (by have h9 : f + 1 = 9 := HF.out; show (f - 1) + 2 = 9; omega), by kernel_rfl, ?_, H.out.al2⟩
                    rfl
                  exact lat_nil
                · refine .inr ⟨f - 1, [5, 18], by have h9 : f + 2 = 9 := HF.out; omega, by kernel_rfl, by simp, ?_⟩
                  refine lat_cons (i := 5) rfl (fun K hK => ?_) ?_
                  · go_simp
                    go_at_call_of 49 (Value.slice A0 n0 c0)
                    with_reducible refine (rat_ex A0 n0 c0 o k _ XA0.out (by omega) f0 HF0.out).mono ?_
                    rintro e u1 ⟨rfl, rfl⟩
                    (try go_wp2_with fail)
                    refine hK.out _ _ ⟨HKW.out _ (H.out.gr.alloc _).below, 1, false, true, true, p0, p1, p2, _, v1, v2, by decide, (by have h9 : f + 2 = 9 := HF.out; show (f - 1) + 3 = 9; omega), by kernel_rfl, ?_, H.out.call0 _⟩
                    rfl
                  refine lat_cons (i := 18) rfl (fun K hK => ?_) ?_
                  · go_simp
                    refine hK.out _ _ ⟨HKW.out _ (H.out.gr.alloc _).below, 0, true, true, true, _, p1, p2, v0, v1, v2, by decide, (by have h9 : f + 2 = 9 := HF.out; show (f - 1) + 3 = 9; omega), by kernel_rfl, ?_, H.out.al0⟩
                    rfl
                  exact lat_nil
                · refine .inr ⟨f - 1, [5, 19, 20], by have h9 : f + 1 = 9 := HF.out; omega, by kernel_rfl, by simp, ?_⟩
                  refine lat_cons (i := 5) rfl (fun K hK => ?_) ?_
                  · go_simp
                    go_at_call_of 49 (Value.slice A0 n0 c0)
                    with_reducible refine (rat_ex A0 n0 c0 o k _ XA0.out (by omega) f0 HF0.out).mono ?_
                    rintro e u1 ⟨rfl, rfl⟩
                    (try go_wp2_with fail)
                    refine hK.out _ _ ⟨HKW.out _ (H.out.gr.alloc _).below, 1, true, false, false, p0, p1, p2, _, v1, v2, by decide, (by have h9 : f + 1 = 9 := HF.out; show (f - 1) + 2 = 9; omega), by kernel_rfl, ?_, H.out.call0 _⟩
                    rfl
                  refine lat_cons (i := 19) rfl (fun K hK => ?_) ?_
                  · go_simp
                    refine hK.out _ _ ⟨HKW.out _ (H.out.gr.alloc _).below, 0, true, true, false, p0, _, p2, v0, v1, v2, by decide, (by have h9 : f + 1 = 9 := HF.out; show (f - 1) + 2 = 9; omega), by kernel_rfl, ?_, H.out.al1⟩
                    rfl
                  refine lat_cons (i := 20) rfl (fun K hK => ?_) ?_
                  · go_simp
                    refine hK.out _ _ ⟨HKW.out _ (H.out.gr.alloc _).below, 0, true, false, true, p0, p1, _, v0, v1, v2, by decide, (by have h9 : f + 1 = 9 := HF.out; show (f - 1) + 2 = 9; omega), by kernel_rfl, ?_, H.out.al2⟩
                    rfl
                  exact lat_nil
                · refine .inr ⟨f - 1, [5, 19], by have h9 : f + 2 = 9 := HF.out; omega, by kernel_rfl, by simp, ?_⟩
                  refine lat_cons (i := 5) rfl (fun K hK => ?_) ?_
                  · go_simp
                    go_at_call_of 49 (Value.slice A0 n0 c0)
                    with_reducible refine (rat_ex A0 n0 c0 o k _ XA0.out (by omega) f0 HF0.out).mono ?_
                    rintro e u1 ⟨rfl, rfl⟩
                    (try go_wp2_with fail)
                    refine hK.out _ _ ⟨HKW.out _ (H.out.gr.alloc _).below, 1, true, false, true, p0, p1, p2, _, v1, v2, by decide, (by have h9 : f + 2 = 9 := HF.out; show (f - 1) + 3 = 9; omega), by kernel_rfl, ?_, H.out.call0 _⟩
                    rfl
                  refine lat_cons (i := 19) rfl (fun K hK => ?_) ?_
                  · go_simp
                    refine hK.out _ _ ⟨HKW.out _ (H.out.gr.alloc _).below, 0, true, true, true, p0, _, p2, v0, v1, v2, by decide, (by have h9 : f + 2 = 9 := HF.out; show (f - 1) + 3 = 9; omega), by kernel_rfl, ?_, H.out.al1⟩
                    rfl
                  exact lat_nil
                · refine .inr ⟨f - 1, [5, 20], by have h9 : f + 2 = 9 := HF.out; omega, by kernel_rfl, by simp, ?_⟩
                  refine lat_cons (i := 5) rfl (fun K hK => ?_) ?_
                  · go_simp
                    go_at_call_of 49 (Value.slice A0 n0 c0)
                    with_reducible refine (rat_ex A0 n0 c0 o k _ XA0.out (by omega) f0 HF0.out).mono ?_
                    rintro e u1 ⟨rfl, rfl⟩
                    (try go_wp2_with fail)
                    refine hK.out _ _ ⟨HKW.out _ (H.out.gr.alloc _).below, 1, true, true, false, p0, p1, p2, _, v1, v2, by decide, (by have h9 : f + 2 = 9 := HF.out; show (f - 1) + 3 = 9; omega), by kernel_rfl, ?_, H.out.call0 _⟩
                    rfl
                  refine lat_cons (i := 20) rfl (fun K hK => ?_) ?_
                  · go_simp
                    refine hK.out _ _ ⟨HKW.out _ (H.out.gr.alloc _).below, 0, true, true, true, p0, p1, _, v0, v1, v2, by decide, (by have h9 : f + 2 = 9 := HF.out; show (f - 1) + 3 = 9; omega), by kernel_rfl, ?_, H.out.al2⟩
                    rfl
                  exact lat_nil
                · refine .inr ⟨f - 1, [5], by have h9 : f + 3 = 9 := HF.out; omega, by kernel_rfl, by simp, ?_⟩
                  refine lat_cons (i := 5) rfl (fun K hK => ?_) ?_
                  · go_simp
                    go_at_call_of 49 (Value.slice A0 n0 c0)
                    with_reducible refine (rat_ex A0 n0 c0 o k _ XA0.out (by omega) f0 HF0.out).mono ?_
                    rintro e u1 ⟨rfl, rfl⟩
                    (try go_wp2_with fail)
                    refine hK.out _ _ ⟨HKW.out _ (H.out.gr.alloc _).below, 1, true, true, true, p0, p1, p2, _, v1, v2, by decide, (by have h9 : f + 3 = 9 := HF.out; show (f - 1) + 4 = 9; omega), by kernel_rfl, ?_, H.out.call0 _⟩
                    rfl
                  exact lat_nil
              · cases b0 <;> cases b1 <;> cases b2
                · refine .inr ⟨f - 1, [11, 18, 19, 20], by have h9 : f + 1 = 9 := HF.out; omega, by kernel_rfl, by simp, ?_⟩
                  refine lat_cons (i := 11) rfl (fun K hK => ?_) ?_
                  · go_simp
                    go_at_call_of 49 (Value.slice A1 n1 c1)
                    with_reducible refine (rat_ex A1 n1 c1 a k _ XA1.out (by omega) f1 HF1.out).mono ?_
                    rintro e u1 ⟨rfl, rfl⟩
                    (try go_wp2_with fail)
                    refine hK.out _ _ ⟨HKW.out _ (H.out.gr.alloc _).below, 2, false, false, false, p0, p1, p2, v0, _, v2, by decide, (by have h9 : f + 1 = 9 := HF.out; show (f - 1) + 2 = 9; omega), by kernel_rfl, ?_, H.out.call1 _⟩
                    rfl
                  refine lat_cons (i := 18) rfl (fun K hK => ?_) ?_
                  · go_simp
                    refine hK.out _ _ ⟨HKW.out _ (H.out.gr.alloc _).below, 1, true, false, false, _, p1, p2, v0, v1, v2, by decide, (by have h9 : f + 1 = 9 := HF.out; show (f - 1) + 2 = 9; omega), by kernel_rfl, ?_, H.out.al0⟩
                    rfl
                  refine lat_cons (i := 19) rfl (fun K hK => ?_) ?_
                  · go_simp
                    refine hK.out _ _ ⟨HKW.out _ (H.out.gr.alloc _).below, 1, false, true, false, p0, _, p2, v0, v1, v2, by decide, (by have h9 : f + 1 = 9 := HF.out; show (f - 1) + 2 = 9; omega), by kernel_rfl, ?_, H.out.al1⟩
                    rfl
                  refine lat_cons (i := 20) rfl (fun K hK => ?_) ?_
                  · go_simp
                    refine hK.out _ _ ⟨HKW.out _ (H.out.gr.alloc _).below, 1, false, false, true, p0, p1, _, v0, v1, v2, by decide, (by have h9 : f + 1 = 9 := HF.out; show (f - 1) + 2 = 9; omega), by kernel_rfl, ?_, H.out.al2⟩
                    rfl
                  exact lat_nil
                · refine .inr ⟨f - 1, [11, 18, 19], by have h9 : f + 2 = 9 := HF.out; omega, by kernel_rfl, by simp, ?_⟩
                  refine lat_cons (i := 11) rfl (fun K hK => ?_) ?_
                  · go_simp
                    go_at_call_of 49 (Value.slice A1 n1 c1)
                    with_reducible refine (rat_ex A1 n1 c1 a k _ XA1.out (by omega) f1 HF1.out).mono ?_
                    rintro e u1 ⟨rfl, rfl⟩
                    (try go_wp2_with fail)
                    refine hK.out _ _ ⟨HKW.out _ (H.out.gr.alloc _).below, 2, false, false, true, p0, p1, p2, v0, _, v2, by decide, (by have h9 : f + 2 = 9 := HF.out; show (f - 1) + 3 = 9; omega), by kernel_rfl, ?_, H.out.call1 _⟩
                    rfl
                  refine lat_cons (i := 18) rfl (fun K hK => ?_) ?_
                  · go_simp
                    refine hK.out _ _ ⟨HKW.out _ (H.out.gr.alloc _).below, 1, true, false, true, _, p1, p2, v0, v1, v2, by decide, (by have h9 : f + 2 = 9 := HF.out; show (f - 1) + 3 = 9; omega), by kernel_rfl, ?_, H.out.al0⟩
                    rfl
                  refine lat_cons (i := 19) rfl (fun K hK => ?_) ?_
                  · go_simp
                    refine hK.out _ _ ⟨HKW.out _ (H.out.gr.alloc _).below, 1, false, true, true, p0, _, p2, v0, v1, v2, by decide, (by have h9 : f + 2 = 9 := HF.out; show (f - 1) + 3 = 9; omega), by kernel_rfl, ?_, H.out.al1⟩
                    rfl
                  exact lat_nil
                · refine .inr ⟨f - 1, [11, 18, 20], by have h9 : f + 2 = 9 := HF.out; omega, by kernel_rfl, by simp, ?_⟩
                  refine lat_cons (i := 11) rfl (fun K hK => ?_) ?_
                  · go_simp
                    go_at_call_of 49 (Value.slice A1 n1 c1)
                    with_reducible refine (rat_ex A1 n1 c1 a k _ XA1.out (by omega) f1 HF1.out).mono ?_
                    rintro e u1 ⟨rfl, rfl⟩
                    (try go_wp2_with fail)
                    refine hK.out _ _ ⟨HKW.out _ (H.out.gr.alloc _).below, 2, false, true, false, p0, p1, p2, v0, _, v2, by decide, (by have h9 : f + 2 = 9 := HF.out; show (f - 1) + 3 = 9; omega), by kernel_rfl, ?_, H.out.call1 _⟩
                    rfl
                  refine lat_cons (i := 18) rfl (fun K hK => ?_) ?_
                  · go_simp
                    refine hK.out _ _ ⟨HKW.out _ (H.out.gr.alloc _).below, 1, true, true, false, _, p1, p2, v0, v1, v2, by decide, (by have h9 : f + 2 = 9 := HF.out; show (f - 1) + 3 = 9; omega), by kernel_rfl, ?_, H.out.al0⟩
                    rfl
                  refine lat_cons (i := 20) rfl (fun K hK => ?_) ?_
                  · go_simp
                    refine hK.out _ _ ⟨HKW.out _ (H.out.gr.alloc _).below, 1, false, true, true, p0, p1, _, v0, v1, v2, by decide, (by have h9 : f + 2 = 9 := HF.out; show (f - 1) + 3 = 9; omega), by kernel_rfl, ?_, H.out.al2⟩
                    rfl
                  exact lat_nil
                · refine .inr ⟨f - 1, [11, 18], by have h9 : f + 3 = 9 := HF.out; omega, by kernel_rfl, by simp, ?_⟩
                  refine lat_cons (i := 11) rfl (fun K hK => ?_) ?_
                  · go_simp
                    go_at_call_of 49 (Value.slice A1 n1 c1)
                    with_reducible refine (rat_ex A1 n1 c1 a k _ XA1.out (by omega) f1 HF1.out).mono ?_
                    rintro e u1 ⟨rfl, rfl⟩
                    (try go_wp2_with fail)
                    refine hK.out _ _ ⟨HKW.out _ (H.out.gr.alloc _).below, 2, false, true, true, p0, p1, p2, v0, _, v2, by decide, (by have h9 : f + 3 = 9 := HF.out; show (f - 1) + 4 = 9; omega), by kernel_rfl, ?_, H.out.call1 _⟩
                    rfl
                  refine lat_cons (i := 18) rfl (fun K hK => ?_) ?_
                  · go_simp
                    refine hK.out _ _ ⟨HKW.out _ (H.out.gr.alloc _).below, 1, true, true, true, _, p1, p2, v0, v1, v2, by decide, (by have h9 : f + 3 = 9 := HF.out; show (f - 1) + 4 = 9; omega), by kernel_rfl, ?_, H.out.al0⟩
                    rfl
                  exact lat_nil
                · refine .inr ⟨f - 1, [11, 19, 20], by have h9 : f + 2 = 9 := HF.out; omega, by kernel_rfl, by simp, ?_⟩
                  refine lat_cons (i := 11) rfl (fun K hK => ?_) ?_
                  · go_simp
                    go_at_call_of 49 (Value.slice A1 n1 c1)
                    with_reducible refine (rat_ex A1 n1 c1 a k _ XA1.out (by omega) f1 HF1.out).mono ?_
                    rintro e u1 ⟨rfl, rfl⟩
                    (try go_wp2_with fail)
                    refine hK.out _ _ ⟨HKW.out _ (H.out.gr.alloc _).below, 2, true, false, false, p0, p1, p2, v0, _, v2, by decide, (by have h9 : f + 2 = 9 := HF.out; show (f - 1) + 3 = 9; omega), by kernel_rfl, ?_, H.out.call1 _⟩
                    rfl
                  refine lat_cons (i := 19) rfl (fun K hK => ?_) ?_
                  · go_simp
                    refine hK.out _ _ ⟨HKW.out _ (H.out.gr.alloc _).below, 1, true, true, false, p0, _, p2, v0, v1, v2, by decide, (by have h9 : f + 2 = 9 := HF.out; show (f - 1) + 3 = 9; omega), by kernel_rfl, ?_, H.out.al1⟩
                    rfl
                  refine lat_cons (i := 20) rfl (fun K hK => ?_) ?_
                  · go_simp
                    refine hK.out _ _ ⟨HKW.out _ (H.out.gr.alloc _).below, 1, true, false, true, p0, p1, _, v0, v1, v2, by decide, (by have h9 : f + 2 = 9 := HF.out; show (f - 1) + 3 = 9; omega), by kernel_rfl, ?_, H.out.al2⟩
                    rfl
                  exact lat_nil
                · refine .inr ⟨f - 1, [11, 19], by have h9 : f + 3 = 9 := HF.out; omega, by kernel_rfl, by simp, ?_⟩
                  refine lat_cons (i := 11) rfl (fun K hK => ?_) ?_
                  · go_simp
                    go_at_call_of 49 (Value.slice A1 n1 c1)
                    with_reducible refine (rat_ex A1 n1 c1 a k _ XA1.out (by omega) f1 HF1.out).mono ?_
                    rintro e u1 ⟨rfl, rfl⟩
                    (try go_wp2_with fail)
                    refine hK.out _ _ ⟨HKW.out _ (H.out.gr.alloc _).below, 2, true, false, true, p0, p1, p2, v0, _, v2, by decide, (by have h9 : f + 3 = 9 := HF.out; show (f - 1) + 4 = 9; omega), by kernel_rfl, ?_, H.out.call1 _⟩
                    rfl
                  refine lat_cons (i := 19) rfl (fun K hK => ?_) ?_
                  · go_simp
                    refine hK.out _ _ ⟨HKW.out _ (H.out.gr.alloc _).below, 1, true, true, true, p0, _, p2, v0, v1, v2, by decide, (by have h9 : f + 3 = 9 := HF.out; show (f - 1) + 4 = 9; omega), by kernel_rfl, ?_, H.out.al1⟩
                    rfl
                  exact lat_nil
                · refine .inr ⟨f - 1, [11, 20], by have h9 : f + 3 = 9 := HF.out; omega, by kernel_rfl, by simp, ?_⟩
                  refine lat_cons (i := 11) rfl (fun K hK => ?_) ?_
                  · go_simp
                    go_at_call_of 49 (Value.slice A1 n1 c1)
                    with_reducible refine (rat_ex A1 n1 c1 a k _ XA1.out (by omega) f1 HF1.out).mono ?_
                    rintro e u1 ⟨rfl, rfl⟩
                    (try go_wp2_with fail)
                    refine hK.out _ _ ⟨HKW.out _ (H.out.gr.alloc _).below, 2, true, true, false, p0, p1, p2, v0, _, v2, by decide, (by have h9 : f + 3 = 9 := HF.out; show (f - 1) + 4 = 9; omega), by kernel_rfl, ?_, H.out.call1 _⟩
                    rfl
                  refine lat_cons (i := 20) rfl (fun K hK => ?_) ?_
                  · go_simp
                    refine hK.out _ _ ⟨HKW.out _ (H.out.gr.alloc _).below, 1, true, true, true, p0, p1, _, v0, v1, v2, by decide, (by have h9 : f + 3 = 9 := HF.out; show (f - 1) + 4 = 9; omega), by kernel_rfl, ?_, H.out.al2⟩
                    rfl
                  exact lat_nil
                · refine .inr ⟨f - 1, [11], by have h9 : f + 4 = 9 := HF.out; omega, by kernel_rfl, by simp, ?_⟩
                  refine lat_cons (i := 11) rfl (fun K hK => ?_) ?_
                  · go_simp
                    go_at_call_of 49 (Value.slice A1 n1 c1)
                    with_reducible refine (rat_ex A1 n1 c1 a k _ XA1.out (by omega) f1 HF1.out).mono ?_
                    rintro e u1 ⟨rfl, rfl⟩
                    (try go_wp2_with fail)
                    refine hK.out _ _ ⟨HKW.out _ (H.out.gr.alloc _).below, 2, true, true, true, p0, p1, p2, v0, _, v2, by decide, (by have h9 : f + 4 = 9 := HF.out; show (f - 1) + 5 = 9; omega), by kernel_rfl, ?_, H.out.call1 _⟩
                    rfl
                  exact lat_nil
              · cases b0 <;> cases b1 <;> cases b2
                · refine .inr ⟨f - 1, [17, 18, 19, 20], by have h9 : f + 2 = 9 := HF.out; omega, by kernel_rfl, by simp, ?_⟩
                  refine lat_cons (i := 17) rfl (fun K hK => ?_) ?_
                  · go_simp
                    go_at_call_of 49 (Value.slice A2 n2 c2)
                    with_reducible refine (rat_ex A2 n2 c2 b k _ XA2.out (by omega) f2 HF2.out).mono ?_
                    rintro e u1 ⟨rfl, rfl⟩
                    (try go_wp2_with fail)
                    refine hK.out _ _ ⟨HKW.out _ (H.out.gr.alloc _).below, 3, false, false, false, p0, p1, p2, v0, v1, _, by decide, (by have h9 : f + 2 = 9 := HF.out; show (f - 1) + 3 = 9; omega), by kernel_rfl, ?_, H.out.call2 _⟩
                    rfl
                  refine lat_cons (i := 18) rfl (fun K hK => ?_) ?_
                  · go_simp
                    refine hK.out _ _ ⟨HKW.out _ (H.out.gr.alloc _).below, 2, true, false, false, _, p1, p2, v0, v1, v2, by decide, (by have h9 : f + 2 = 9 := HF.out; show (f - 1) + 3 = 9; omega), by kernel_rfl, ?_, H.out.al0⟩
                    rfl
                  refine lat_cons (i := 19) rfl (fun K hK => ?_) ?_
                  · go_simp
                    refine hK.out _ _ ⟨HKW.out _ (H.out.gr.alloc _).below, 2, false, true, false, p0, _, p2, v0, v1, v2, by decide, (by have h9 : f + 2 = 9 := HF.out; show (f - 1) + 3 = 9; omega), by kernel_rfl, ?_, H.out.al1⟩
                    rfl
                  refine lat_cons (i := 20) rfl (fun K hK => ?_) ?_
                  · go_simp
                    refine hK.out _ _ ⟨HKW.out _ (H.out.gr.alloc _).below, 2, false, false, true, p0, p1, _, v0, v1, v2, by decide, (by have h9 : f + 2 = 9 := HF.out; show (f - 1) + 3 = 9; omega), by kernel_rfl, ?_, H.out.al2⟩
                    rfl
                  exact lat_nil
                · refine .inr ⟨f - 1, [17, 18, 19], by have h9 : f + 3 = 9 := HF.out; omega, by kernel_rfl, by simp, ?_⟩
                  refine lat_cons (i := 17) rfl (fun K hK => ?_) ?_
                  · go_simp
                    go_at_call_of 49 (Value.slice A2 n2 c2)
                    with_reducible refine (rat_ex A2 n2 c2 b k _ XA2.out (by omega) f2 HF2.out).mono ?_
                    rintro e u1 ⟨rfl, rfl⟩
                    (try go_wp2_with fail)
                    refine hK.out _ _ ⟨HKW.out _ (H.out.gr.alloc _).below, 3, false, false, true, p0, p1, p2, v0, v1, _, by decide, (by have h9 : f + 3 = 9 := HF.out; show (f - 1) + 4 = 9; omega), by kernel_rfl, ?_, H.out.call2 _⟩
                    rfl
                  refine lat_cons (i := 18) rfl (fun K hK => ?_) ?_
                  · go_simp
                    refine hK.out _ _ ⟨HKW.out _ (H.out.gr.alloc _).below, 2, true, false, true, _, p1, p2, v0, v1, v2, by decide, (by have h9 : f + 3 = 9 := HF.out; show (f - 1) + 4 = 9; omega), by kernel_rfl, ?_, H.out.al0⟩
                    rfl
                  refine lat_cons (i := 19) rfl (fun K hK => ?_) ?_
                  · go_simp
                    refine hK.out _ _ ⟨HKW.out _ (H.out.gr.alloc _).below, 2, false, true, true, p0, _, p2, v0, v1, v2, by decide, (by have h9 : f + 3 = 9 := HF.out; show (f - 1) + 4 = 9; omega), by kernel_rfl, ?_, H.out.al1⟩
                    rfl
                  exact lat_nil
                · refine .inr ⟨f - 1, [17, 18, 20], by have h9 : f + 3 = 9 := HF.out; omega, by kernel_rfl, by simp, ?_⟩
                  refine lat_cons (i := 17) rfl (fun K hK => ?_) ?_
                  · go_simp
                    go_at_call_of 49 (Value.slice A2 n2 c2)
                    with_reducible refine (rat_ex A2 n2 c2 b k _ XA2.out (by omega) f2 HF2.out).mono ?_
                    rintro e u1 ⟨rfl, rfl⟩
                    (try go_wp2_with fail)
                    refine hK.out _ _ ⟨HKW.out _ (H.out.gr.alloc _).below, 3, false, true, false, p0, p1, p2, v0, v1, _, by decide, (by have h9 : f + 3 = 9 := HF.out; show (f - 1) + 4 = 9; omega), by kernel_rfl, ?_, H.out.call2 _⟩
                    rfl
                  refine lat_cons (i := 18) rfl (fun K hK => ?_) ?_
                  · go_simp
                    refine hK.out _ _ ⟨HKW.out _ (H.out.gr.alloc _).below, 2, true, true, false, _, p1, p2, v0, v1, v2, by decide, (by have h9 : f + 3 = 9 := HF.out; show (f - 1) + 4 = 9; omega), by kernel_rfl, ?_, H.out.al0⟩
                    rfl
                  refine lat_cons (i := 20) rfl (fun K hK => ?_) ?_
                  · go_simp
                    refine hK.out _ _ ⟨HKW.out _ (H.out.gr.alloc _).below, 2, false, true, true, p0, p1, _, v0, v1, v2, by decide, (by have h9 : f + 3 = 9 := HF.out; show (f - 1) + 4 = 9; omega), by kernel_rfl, ?_, H.out.al2⟩
                    rfl
                  exact lat_nil
                · refine .inr ⟨f - 1, [17, 18], by have h9 : f + 4 = 9 := HF.out; omega, by kernel_rfl, by simp, ?_⟩
                  refine lat_cons (i := 17) rfl (fun K hK => ?_) ?_
                  · go_simp
                    go_at_call_of 49 (Value.slice A2 n2 c2)
                    with_reducible refine (rat_ex A2 n2 c2 b k _ XA2.out (by omega) f2 HF2.out).mono ?_
                    rintro e u1 ⟨rfl, rfl⟩
                    (try go_wp2_with fail)
                    refine hK.out _ _ ⟨HKW.out _ (H.out.gr.alloc _).below, 3, false, true, true, p0, p1, p2, v0, v1, _, by decide, (by have h9 : f + 4 = 9 := HF.out; show (f - 1) + 5 = 9; omega), by kernel_rfl, ?_, H.out.call2 _⟩
                    rfl
                  refine lat_cons (i := 18) rfl (fun K hK => ?_) ?_
                  · go_simp
                    refine hK.out _ _ ⟨HKW.out _ (H.out.gr.alloc _).below, 2, true, true, true, _, p1, p2, v0, v1, v2, by decide, (by have h9 : f + 4 = 9 := HF.out; show (f - 1) + 5 = 9; omega), by kernel_rfl, ?_, H.out.al0⟩
                    rfl
                  exact lat_nil
                · refine .inr ⟨f - 1, [17, 19, 20], by have h9 : f + 3 = 9 := HF.out; omega, by kernel_rfl, by simp, ?_⟩
                  refine lat_cons (i := 17) rfl (fun K hK => ?_) ?_
                  · go_simp
                    go_at_call_of 49 (Value.slice A2 n2 c2)
                    with_reducible refine (rat_ex A2 n2 c2 b k _ XA2.out (by omega) f2 HF2.out).mono ?_
                    rintro e u1 ⟨rfl, rfl⟩
                    (try go_wp2_with fail)
                    refine hK.out _ _ ⟨HKW.out _ (H.out.gr.alloc _).below, 3, true, false, false, p0, p1, p2, v0, v1, _, by decide, (by have h9 : f + 3 = 9 := HF.out; show (f - 1) + 4 = 9; omega), by kernel_rfl, ?_, H.out.call2 _⟩
                    rfl
                  refine lat_cons (i := 19) rfl (fun K hK => ?_) ?_
                  · go_simp
                    refine hK.out _ _ ⟨HKW.out _ (H.out.gr.alloc _).below, 2, true, true, false, p0, _, p2, v0, v1, v2, by decide, (by have h9 : f + 3 = 9 := HF.out; show (f - 1) + 4 = 9; omega), by kernel_rfl, ?_, H.out.al1⟩
                    rfl
                  refine lat_cons (i := 20) rfl (fun K hK => ?_) ?_
                  · go_simp
                    refine hK.out _ _ ⟨HKW.out _ (H.out.gr.alloc _).below, 2, true, false, true, p0, p1, _, v0, v1, v2, by decide, (by have h9 : f + 3 = 9 := HF.out; show (f - 1) + 4 = 9; omega), by kernel_rfl, ?_, H.out.al2⟩
                    rfl
                  exact lat_nil
                · refine .inr ⟨f - 1, [17, 19], by have h9 : f + 4 = 9 := HF.out; omega, by kernel_rfl, by simp, ?_⟩
                  refine lat_cons (i := 17) rfl (fun K hK => ?_) ?_
                  · go_simp
                    go_at_call_of 49 (Value.slice A2 n2 c2)
                    with_reducible refine (rat_ex A2 n2 c2 b k _ XA2.out (by omega) f2 HF2.out).mono ?_
                    rintro e u1 ⟨rfl, rfl⟩
                    (try go_wp2_with fail)
                    refine hK.out _ _ ⟨HKW.out _ (H.out.gr.alloc _).below, 3, true, false, true, p0, p1, p2, v0, v1, _, by decide, (by have h9 : f + 4 = 9 := HF.out; show (f - 1) + 5 = 9; omega), by kernel_rfl, ?_, H.out.call2 _⟩
                    rfl
                  refine lat_cons (i := 19) rfl (fun K hK => ?_) ?_
                  · go_simp
                    refine hK.out _ _ ⟨HKW.out _ (H.out.gr.alloc _).below, 2, true, true, true, p0, _, p2, v0, v1, v2, by decide, (by have h9 : f + 4 = 9 := HF.out; show (f - 1) + 5 = 9; omega), by kernel_rfl, ?_, H.out.al1⟩
                    rfl
                  exact lat_nil
                · refine .inr ⟨f - 1, [17, 20], by have h9 : f + 4 = 9 := HF.out; omega, by kernel_rfl, by simp, ?_⟩
                  refine lat_cons (i := 17) rfl (fun K hK => ?_) ?_
                  · go_simp
                    go_at_call_of 49 (Value.slice A2 n2 c2)
                    with_reducible refine (rat_ex A2 n2 c2 b k _ XA2.out (by omega) f2 HF2.out).mono ?_
                    rintro e u1 ⟨rfl, rfl⟩
                    (try go_wp2_with fail)
                    refine hK.out _ _ ⟨HKW.out _ (H.out.gr.alloc _).below, 3, true, true, false, p0, p1, p2, v0, v1, _, by decide, (by have h9 : f + 4 = 9 := HF.out; show (f - 1) + 5 = 9; omega), by kernel_rfl, ?_, H.out.call2 _⟩
                    rfl
                  refine lat_cons (i := 20) rfl (fun K hK => ?_) ?_
                  · go_simp
                    refine hK.out _ _ ⟨HKW.out _ (H.out.gr.alloc _).below, 2, true, true, true, p0, p1, _, v0, v1, v2, by decide, (by have h9 : f + 4 = 9 := HF.out; show (f - 1) + 5 = 9; omega), by kernel_rfl, ?_, H.out.al2⟩
                    rfl
                  exact lat_nil
                · refine .inr ⟨f - 1, [17], by have h9 : f + 5 = 9 := HF.out; omega, by kernel_rfl, by simp, ?_⟩
                  refine lat_cons (i := 17) rfl (fun K hK => ?_) ?_
                  · go_simp
                    go_at_call_of 49 (Value.slice A2 n2 c2)
                    with_reducible refine (rat_ex A2 n2 c2 b k _ XA2.out (by omega) f2 HF2.out).mono ?_
                    rintro e u1 ⟨rfl, rfl⟩
                    (try go_wp2_with fail)
                    refine hK.out _ _ ⟨HKW.out _ (H.out.gr.alloc _).below, 3, true, true, true, p0, p1, p2, v0, v1, _, by decide, (by have h9 : f + 5 = 9 := HF.out; show (f - 1) + 6 = 9; omega), by kernel_rfl, ?_, H.out.call2 _⟩
                    rfl
                  exact lat_nil
              · cases b0 <;> cases b1 <;> cases b2
                · refine .inr ⟨f - 1, [18, 19, 20], by have h9 : f + 3 = 9 := HF.out; omega, by kernel_rfl, by simp, ?_⟩
                  refine lat_cons (i := 18) rfl (fun K hK => ?_) ?_
                  · go_simp
                    refine hK.out _ _ ⟨HKW.out _ (H.out.gr.alloc _).below, 3, true, false, false, _, p1, p2, v0, v1, v2, by decide, (by have h9 : f + 3 = 9 := HF.out; show (f - 1) + 4 = 9; omega), by kernel_rfl, ?_, H.out.al0⟩
                    rfl
                  refine lat_cons (i := 19) rfl (fun K hK => ?_) ?_
                  · go_simp
                    refine hK.out _ _ ⟨HKW.out _ (H.out.gr.alloc _).below, 3, false, true, false, p0, _, p2, v0, v1, v2, by decide, (by have h9 : f + 3 = 9 := HF.out; show (f - 1) + 4 = 9; omega), by kernel_rfl, ?_, H.out.al1⟩
                    rfl
                  refine lat_cons (i := 20) rfl (fun K hK => ?_) ?_
                  · go_simp
                    refine hK.out _ _ ⟨HKW.out _ (H.out.gr.alloc _).below, 3, false, false, true, p0, p1, _, v0, v1, v2, by decide, (by have h9 : f + 3 = 9 := HF.out; show (f - 1) + 4 = 9; omega), by kernel_rfl, ?_, H.out.al2⟩
                    rfl
                  exact lat_nil
                · refine .inr ⟨f - 1, [18, 19], by have h9 : f + 4 = 9 := HF.out; omega, by kernel_rfl, by simp, ?_⟩
                  refine lat_cons (i := 18) rfl (fun K hK => ?_) ?_
                  · go_simp
                    refine hK.out _ _ ⟨HKW.out _ (H.out.gr.alloc _).below, 3, true, false, true, _, p1, p2, v0, v1, v2, by decide, (by have h9 : f + 4 = 9 := HF.out; show (f - 1) + 5 = 9; omega), by kernel_rfl, ?_, H.out.al0⟩
                    rfl
                  refine lat_cons (i := 19) rfl (fun K hK => ?_) ?_
                  · go_simp
                    refine hK.out _ _ ⟨HKW.out _ (H.out.gr.alloc _).below, 3, false, true, true, p0, _, p2, v0, v1, v2, by decide, (by have h9 : f + 4 = 9 := HF.out; show (f - 1) + 5 = 9; omega), by kernel_rfl, ?_, H.out.al1⟩
                    rfl
                  exact lat_nil
                · refine .inr ⟨f - 1, [18, 20], by have h9 : f + 4 = 9 := HF.out; omega, by kernel_rfl, by simp, ?_⟩
                  refine lat_cons (i := 18) rfl (fun K hK => ?_) ?_
                  · go_simp
                    refine hK.out _ _ ⟨HKW.out _ (H.out.gr.alloc _).below, 3, true, true, false, _, p1, p2, v0, v1, v2, by decide, (by have h9 : f + 4 = 9 := HF.out; show (f - 1) + 5 = 9; omega), by kernel_rfl, ?_, H.out.al0⟩
                    rfl
                  refine lat_cons (i := 20) rfl (fun K hK => ?_) ?_
                  · go_simp
                    refine hK.out _ _ ⟨HKW.out _ (H.out.gr.alloc _).below, 3, false, true, true, p0, p1, _, v0, v1, v2, by decide, (by have h9 : f + 4 = 9 := HF.out; show (f - 1) + 5 = 9; omega), by kernel_rfl, ?_, H.out.al2⟩
                    rfl
                  exact lat_nil
                · refine .inr ⟨f - 1, [18], by have h9 : f + 5 = 9 := HF.out; omega, by kernel_rfl, by simp, ?_⟩
                  refine lat_cons (i := 18) rfl (fun K hK => ?_) ?_
                  · go_simp
                    refine hK.out _ _ ⟨HKW.out _ (H.out.gr.alloc _).below, 3, true, true, true, _, p1, p2, v0, v1, v2, by decide, (by have h9 : f + 5 = 9 := HF.out; show (f - 1) + 6 = 9; omega), by kernel_rfl, ?_, H.out.al0⟩
                    rfl
                  exact lat_nil
                · refine .inr ⟨f - 1, [19, 20], by have h9 : f + 4 = 9 := HF.out; omega, by kernel_rfl, by simp, ?_⟩
                  refine lat_cons (i := 19) rfl (fun K hK => ?_) ?_
                  · go_simp
                    refine hK.out _ _ ⟨HKW.out _ (H.out.gr.alloc _).below, 3, true, true, false, p0, _, p2, v0, v1, v2, by decide, (by have h9 : f + 4 = 9 := HF.out; show (f - 1) + 5 = 9; omega), by kernel_rfl, ?_, H.out.al1⟩
                    rfl
                  refine lat_cons (i := 20) rfl (fun K hK => ?_) ?_
                  · go_simp
                    refine hK.out _ _ ⟨HKW.out _ (H.out.gr.alloc _).below, 3, true, false, true, p0, p1, _, v0, v1, v2, by decide, (by have h9 : f + 4 = 9 := HF.out; show (f - 1) + 5 = 9; omega), by kernel_rfl, ?_, H.out.al2⟩
                    rfl
                  exact lat_nil
                · refine .inr ⟨f - 1, [19], by have h9 : f + 5 = 9 := HF.out; omega, by kernel_rfl, by simp, ?_⟩
                  refine lat_cons (i := 19) rfl (fun K hK => ?_) ?_
                  · go_simp
                    refine hK.out _ _ ⟨HKW.out _ (H.out.gr.alloc _).below, 3, true, true, true, p0, _, p2, v0, v1, v2, by decide, (by have h9 : f + 5 = 9 := HF.out; show (f - 1) + 6 = 9; omega), by kernel_rfl, ?_, H.out.al1⟩
                    rfl
                  exact lat_nil
                · refine .inr ⟨f - 1, [20], by have h9 : f + 5 = 9 := HF.out; omega, by kernel_rfl, by simp, ?_⟩
                  refine lat_cons (i := 20) rfl (fun K hK => ?_) ?_
                  · go_simp
                    refine hK.out _ _ ⟨HKW.out _ (H.out.gr.alloc _).below, 3, true, true, true, p0, p1, _, v0, v1, v2, by decide, (by have h9 : f + 5 = 9 := HF.out; show (f - 1) + 6 = 9; omega), by kernel_rfl, ?_, H.out.al2⟩
                    rfl
                  exact lat_nil
                · left
                  obtain ⟨g0, rfl, x0, l0⟩ := H.out.q0 rfl
                  obtain ⟨g1, rfl, x1, l1⟩ := H.out.q1 rfl
                  obtain ⟨g2, rfl, x2, l2⟩ := H.out.q2 rfl
                  obtain rfl := H.out.c0 (by decide)
                  obtain rfl := H.out.c1 (by decide)
                  obtain rfl := H.out.c2 (by decide)
                  have n01 : g0 ≠ g1 := fun e => H.out.n01 rfl rfl (by rw [e])
                  have n02 : g0 ≠ g2 := fun e => H.out.n02 rfl rfl (by rw [e])
                  have n12 : g1 ≠ g2 := fun e => H.out.n12 rfl rfl (by rw [e])
                  have bl := H.out.gr.below
                  obtain rfl : f = 3 := by have h9 : f + 6 = 9 := HF.out; omega
                  refine wpAnyH_ready (rs := [21]) (by kernel_rfl) (by simp) (AllReadyH.cons rfl (fun K hK => ?_) AllReadyH.nil)
                  refine step_storeR rfl (.tmp 13) (.tmp 45) rfl rfl g0 f0.v f0.i rfl rfl x0 ?_
                  have bl' := Below.setS (Below.setS bl l0 (i := 0) (.int .i64 f0.v)) l0 (i := 1) (.bool f0.i)
                  have x0' := (x0.set_ 0 (.int .i64 f0.v)).set_ 1 (.bool f0.i)
                  have x1' := bxS x1 (.int .i64 f0.v) (.bool f0.i) n01.symm
                  have x2' := bxS x2 (.int .i64 f0.v) (.bool f0.i) n02.symm
                  refine hK.out _ _ (HKW.out _ bl') (fun hHeld => ?_)
                  clear hK K hHeld
                  refine wpAnyH_ready (rs := [22]) (by kernel_rfl) (by simp) (AllReadyH.cons rfl (fun K hK => ?_) AllReadyH.nil)
                  refine step_storeR rfl (.tmp 14) (.tmp 51) rfl rfl g1 f1.v f1.i rfl rfl x1' ?_
                  have bl'' := Below.setS (Below.setS bl' l1 (i := 0) (.int .i64 f1.v)) l1 (i := 1) (.bool f1.i)
                  have x0'' := bxS x0' (.int .i64 f1.v) (.bool f1.i) n01
                  have x1'' := (x1'.set_ 0 (.int .i64 f1.v)).set_ 1 (.bool f1.i)
                  have x2'' := bxS x2' (.int .i64 f1.v) (.bool f1.i) n12.symm
                  refine hK.out _ _ (HKW.out _ bl'') (fun hHeld => ?_)
                  clear hK K hHeld
                  refine wpAnyH_ready (rs := [23]) (by kernel_rfl) (by simp) (AllReadyH.cons rfl (fun K hK => ?_) AllReadyH.nil)
                  refine step_storeR rfl (.tmp 15) (.tmp 57) rfl rfl g2 f2.v f2.i rfl rfl x2'' ?_
                  have bl''' := Below.setS (Below.setS bl'' l2 (i := 0) (.int .i64 f2.v)) l2 (i := 1) (.bool f2.i)
                  have x0''' := bxS x0'' (.int .i64 f2.v) (.bool f2.i) n02
                  have x1''' := bxS x1'' (.int .i64 f2.v) (.bool f2.i) n12
                  have x2''' := (x2''.set_ 0 (.int .i64 f2.v)).set_ 1 (.bool f2.i)
                  refine hK.out _ _ (HKW.out _ bl''') (fun hHeld => ?_)
                  clear hK K hHeld
                  refine wpAnyH_done (by kernel_rfl) ?_ _
                  go_wp2_with fail
                  go_meet
                  exact ⟨g0, g1, g2, rfl, rfl, rfl, x0''', x1''', x2''', bl''', l0, l1, l2⟩
            case rest =>
            obtain ⟨g0, g1, g2, rfl, rfl, rfl, x0, x1, x2, hgr, l0, l1, l2⟩ := hcut
            have HBW := hide (Below.next HB.out hgr)
            have HOW := hide (HO.out.keep hgr)
            have HIW := hide (HI.out.keep hgr)
            have HX0' := hide x0
            have HX1' := hide x1
            have HX2' := hide x2
            have HG0 := hide (show ¬ Blk A g0 from fun h => by have := (HO.out.blk _ h).2; omega)
            have HG1 := hide (show ¬ Blk A g1 from fun h => by have := (HO.out.blk _ h).2; omega)
            have HG2 := hide (show ¬ Blk A g2 from fun h => by have := (HO.out.blk _ h).2; omega)
            obtain ⟨p0, p1⟩ := sd_cells x0
            obtain ⟨q0, q1⟩ := sd_cells x1
            obtain ⟨r0, r1⟩ := sd_cells x2
            clear x0 x1 x2 hgr l0 l1 l2 HO HI HB HO9 bb0
            generalize wc = WW at *
            by_cases h12 : f1 = f2
            · have e0 := fun (w : World) => eqR_run f1 f2 w true (decide_eq_true h12)
              have HFZ := hide (show meF o a b k = f1 by rw [HFK.out]; unfold me1; rw [if_pos (.inl h12)])
              have HGZ := hide (show meG o a b k = false by rw [HGK.out]; exact decide_eq_false fun h => h.1 h12)
              clear h12
              go_wp2_with fail
              have KS := hide (fun (w' : World) (h : Turn (Blk A) WW w') => show w'.cell? ⟨bk, ok + j, none⟩ = some (.int .i64 k) ∧ w'.cell? ⟨g1, 0, none⟩ = some (.int .i64 f1.v) ∧ w'.cell? ⟨g1, 1, none⟩ = some (.bool f1.i) from ⟨(World.cell?_of_block (a := ⟨bk, ok + j, none⟩) (h.block bk (Nat.lt_of_lt_of_le hl9 HBW.out.size) (fun hk => by have := (HOW.out.blk bk hk).1; omega))).trans (HKC.out _ HBW.out), (h.box HX1'.out HG1.out).at_ 0, (h.box HX1'.out HG1.out).at_ 1⟩)
              have bb1 := HBW.out
              obtain ⟨zN, hzN⟩ : ∃ zN, mkE' (K.take (j + 1)) (meF o a b) = zN := ⟨_, rfl⟩
              have hz0 := HZN0.out
              rw [hzN, HZ.out.1, HFZ.out] at hz0
              have HZL := hide (show zN.length ≤ j + 1 by rw [hz0, List.length_append, HZ.out.2]; have := enO1_len k f1; omega)
              have HZQ := hide hzN
              have HZ2 := hide hz0.symm
              have HQN := hide (show (K.take (j + 1)).filter (meG o a b) = bs by rw [HQN0.out, HQ.out.1, if_neg (by rw [HGZ.out]; decide)]; exact List.append_nil _)
              obtain rfl : zs.length = m := HZ.out.2
              clear hz0 hzN p0 p1 q0 q1 r0 r1
              go_region_held3 (fun w' => w'.cell? ⟨bk, ok + j, none⟩ = some (.int .i64 k) ∧ w'.cell? ⟨g1, 0, none⟩ = some (.int .i64 f1.v) ∧ w'.cell? ⟨g1, 1, none⟩ = some (.bool f1.i))
                (exact KS.out _ (by first | with_reducible assumption | exact Turn.of (Below.refl _ _).drew | exact (Turn.of (Below.refl _ _).drew).trans (by assumption)))
                (first | (go_at_call 54; (with_reducible refine (put2_any w4.heap.size cc A zs zN k f1 _ (HOW.out.keep (by ((repeat (first | (with_reducible assumption) | (with_reducible exact Below.refl _ _) | (with_reducible refine Below.drewS ?_) | (with_reducible refine Below.allocS ?_ _) | (with_reducible refine belGr ?_ (by assumption)) | (with_reducible refine Below.next ?_ (by assumption)) | (with_reducible refine Below.trans ?_ (by assumption)))); (first | done | fail)))) (Below.size (B := w4.heap.size) (w := w4) (by ((repeat (first | (with_reducible assumption) | (with_reducible exact Below.refl _ _) | (with_reducible refine Below.drewS ?_) | (with_reducible refine Below.allocS ?_ _) | (with_reducible refine belGr ?_ (by assumption)) | (with_reducible refine Below.next ?_ (by assumption)) | (with_reducible refine Below.trans ?_ (by assumption)))); (first | done | fail)))) (by omega) HZ2.out).mono ?_); rintro e u3 ⟨A4, c4, rfl, o4, b4, t4, n4⟩))
              all_goals
                have HO4 := hide o4
                have HB4 := hide (show Below w4.heap.size w4 u3 from Below.trans (by ((repeat (first | (with_reducible assumption) | (with_reducible exact Below.refl _ _) | (with_reducible refine Below.drewS ?_) | (with_reducible refine Below.allocS ?_ _) | (with_reducible refine belGr ?_ (by assumption)) | (with_reducible refine Below.next ?_ (by assumption)) | (with_reducible refine Below.trans ?_ (by assumption)))); (first | done | fail))) b4)
                have HI4 := hide ((HIW.out.keep (Below.refl _ _).drew).apart t4 HS.out)
                have HS4 := hide (sep_l HS.out n4 (fun g hg => (HIW.out.blk g hg).2))
                clear o4 b4 t4 n4 bb1
                go_wp2_with fail
                go_roundw
                case rel => exact ⟨j + 1, zN.length, q, A4, A', c4, cc', zN, bs, by go_num, by omega, rfl, rfl, HZL.out, by omega, hide ⟨HZQ.out, rfl⟩, hide ⟨HQN.out, HQ.out.2⟩, HO4, HI4, HS4, HB4⟩
                case measure => simp [RowKit.intOf]; omega
            · by_cases h20 : f2 = f0
              · have e0 := fun (w : World) => eqR_run f1 f2 w false (decide_eq_false h12)
                have e1 := fun (w : World) => eqR_run f2 f0 w true (decide_eq_true h20)
                have HFZ := hide (show meF o a b k = f1 by rw [HFK.out]; unfold me1; rw [if_pos (.inr h20)])
                have HGZ := hide (show meG o a b k = false by rw [HGK.out]; exact decide_eq_false fun h => h.2.1 h20)
                clear h12 h20
                go_wp2_with fail
                have KS := hide (fun (w' : World) (h : Turn (Blk A) WW w') => show w'.cell? ⟨bk, ok + j, none⟩ = some (.int .i64 k) ∧ w'.cell? ⟨g1, 0, none⟩ = some (.int .i64 f1.v) ∧ w'.cell? ⟨g1, 1, none⟩ = some (.bool f1.i) from ⟨(World.cell?_of_block (a := ⟨bk, ok + j, none⟩) (h.block bk (Nat.lt_of_lt_of_le hl9 HBW.out.size) (fun hk => by have := (HOW.out.blk bk hk).1; omega))).trans (HKC.out _ HBW.out), (h.box HX1'.out HG1.out).at_ 0, (h.box HX1'.out HG1.out).at_ 1⟩)
                have bb1 := HBW.out
                obtain ⟨zN, hzN⟩ : ∃ zN, mkE' (K.take (j + 1)) (meF o a b) = zN := ⟨_, rfl⟩
                have hz0 := HZN0.out
                rw [hzN, HZ.out.1, HFZ.out] at hz0
                have HZL := hide (show zN.length ≤ j + 1 by rw [hz0, List.length_append, HZ.out.2]; have := enO1_len k f1; omega)
                have HZQ := hide hzN
                have HZ2 := hide hz0.symm
                have HQN := hide (show (K.take (j + 1)).filter (meG o a b) = bs by rw [HQN0.out, HQ.out.1, if_neg (by rw [HGZ.out]; decide)]; exact List.append_nil _)
                obtain rfl : zs.length = m := HZ.out.2
                clear hz0 hzN p0 p1 q0 q1 r0 r1
                go_region_held3 (fun w' => w'.cell? ⟨bk, ok + j, none⟩ = some (.int .i64 k) ∧ w'.cell? ⟨g1, 0, none⟩ = some (.int .i64 f1.v) ∧ w'.cell? ⟨g1, 1, none⟩ = some (.bool f1.i))
                  (exact KS.out _ (by first | with_reducible assumption | exact Turn.of (Below.refl _ _).drew | exact (Turn.of (Below.refl _ _).drew).trans (by assumption)))
                  (first | (go_at_call 54; (with_reducible refine (put2_any w4.heap.size cc A zs zN k f1 _ (HOW.out.keep (by ((repeat (first | (with_reducible assumption) | (with_reducible exact Below.refl _ _) | (with_reducible refine Below.drewS ?_) | (with_reducible refine Below.allocS ?_ _) | (with_reducible refine belGr ?_ (by assumption)) | (with_reducible refine Below.next ?_ (by assumption)) | (with_reducible refine Below.trans ?_ (by assumption)))); (first | done | fail)))) (Below.size (B := w4.heap.size) (w := w4) (by ((repeat (first | (with_reducible assumption) | (with_reducible exact Below.refl _ _) | (with_reducible refine Below.drewS ?_) | (with_reducible refine Below.allocS ?_ _) | (with_reducible refine belGr ?_ (by assumption)) | (with_reducible refine Below.next ?_ (by assumption)) | (with_reducible refine Below.trans ?_ (by assumption)))); (first | done | fail)))) (by omega) HZ2.out).mono ?_); rintro e u3 ⟨A4, c4, rfl, o4, b4, t4, n4⟩))
                all_goals
                  have HO4 := hide o4
                  have HB4 := hide (show Below w4.heap.size w4 u3 from Below.trans (by ((repeat (first | (with_reducible assumption) | (with_reducible exact Below.refl _ _) | (with_reducible refine Below.drewS ?_) | (with_reducible refine Below.allocS ?_ _) | (with_reducible refine belGr ?_ (by assumption)) | (with_reducible refine Below.next ?_ (by assumption)) | (with_reducible refine Below.trans ?_ (by assumption)))); (first | done | fail))) b4)
                  have HI4 := hide ((HIW.out.keep (Below.refl _ _).drew).apart t4 HS.out)
                  have HS4 := hide (sep_l HS.out n4 (fun g hg => (HIW.out.blk g hg).2))
                  clear o4 b4 t4 n4 bb1
                  go_wp2_with fail
                  go_roundw
                  case rel => exact ⟨j + 1, zN.length, q, A4, A', c4, cc', zN, bs, by go_num, by omega, rfl, rfl, HZL.out, by omega, hide ⟨HZQ.out, rfl⟩, hide ⟨HQN.out, HQ.out.2⟩, HO4, HI4, HS4, HB4⟩
                  case measure => simp [RowKit.intOf]; omega
              · by_cases h10 : f1 = f0
                · have e0 := fun (w : World) => eqR_run f1 f2 w false (decide_eq_false h12)
                  have e1 := fun (w : World) => eqR_run f2 f0 w false (decide_eq_false h20)
                  have e2 := fun (w : World) => eqR_run f1 f0 w true (decide_eq_true h10)
                  have HFZ := hide (show meF o a b k = f2 by rw [HFK.out]; unfold me1; rw [if_neg (by rintro (h | h); exact h12 h; exact h20 h), if_pos h10])
                  have HGZ := hide (show meG o a b k = false by rw [HGK.out]; exact decide_eq_false fun h => h.2.2 h10)
                  clear h12 h20 h10
                  go_wp2_with fail
                  have KS := hide (fun (w' : World) (h : Turn (Blk A) WW w') => show w'.cell? ⟨bk, ok + j, none⟩ = some (.int .i64 k) ∧ w'.cell? ⟨g2, 0, none⟩ = some (.int .i64 f2.v) ∧ w'.cell? ⟨g2, 1, none⟩ = some (.bool f2.i) from ⟨(World.cell?_of_block (a := ⟨bk, ok + j, none⟩) (h.block bk (Nat.lt_of_lt_of_le hl9 HBW.out.size) (fun hk => by have := (HOW.out.blk bk hk).1; omega))).trans (HKC.out _ HBW.out), (h.box HX2'.out HG2.out).at_ 0, (h.box HX2'.out HG2.out).at_ 1⟩)
                  have bb1 := HBW.out
                  obtain ⟨zN, hzN⟩ : ∃ zN, mkE' (K.take (j + 1)) (meF o a b) = zN := ⟨_, rfl⟩
                  have hz0 := HZN0.out
                  rw [hzN, HZ.out.1, HFZ.out] at hz0
                  have HZL := hide (show zN.length ≤ j + 1 by rw [hz0, List.length_append, HZ.out.2]; have := enO1_len k f2; omega)
                  have HZQ := hide hzN
                  have HZ2 := hide hz0.symm
                  have HQN := hide (show (K.take (j + 1)).filter (meG o a b) = bs by rw [HQN0.out, HQ.out.1, if_neg (by rw [HGZ.out]; decide)]; exact List.append_nil _)
                  obtain rfl : zs.length = m := HZ.out.2
                  clear hz0 hzN p0 p1 q0 q1 r0 r1
                  go_region_held3 (fun w' => w'.cell? ⟨bk, ok + j, none⟩ = some (.int .i64 k) ∧ w'.cell? ⟨g2, 0, none⟩ = some (.int .i64 f2.v) ∧ w'.cell? ⟨g2, 1, none⟩ = some (.bool f2.i))
                    (exact KS.out _ (by first | with_reducible assumption | exact Turn.of (Below.refl _ _).drew | exact (Turn.of (Below.refl _ _).drew).trans (by assumption)))
                    (first | (go_at_call 54; (with_reducible refine (put2_any w4.heap.size cc A zs zN k f2 _ (HOW.out.keep (by ((repeat (first | (with_reducible assumption) | (with_reducible exact Below.refl _ _) | (with_reducible refine Below.drewS ?_) | (with_reducible refine Below.allocS ?_ _) | (with_reducible refine belGr ?_ (by assumption)) | (with_reducible refine Below.next ?_ (by assumption)) | (with_reducible refine Below.trans ?_ (by assumption)))); (first | done | fail)))) (Below.size (B := w4.heap.size) (w := w4) (by ((repeat (first | (with_reducible assumption) | (with_reducible exact Below.refl _ _) | (with_reducible refine Below.drewS ?_) | (with_reducible refine Below.allocS ?_ _) | (with_reducible refine belGr ?_ (by assumption)) | (with_reducible refine Below.next ?_ (by assumption)) | (with_reducible refine Below.trans ?_ (by assumption)))); (first | done | fail)))) (by omega) HZ2.out).mono ?_); rintro e u3 ⟨A4, c4, rfl, o4, b4, t4, n4⟩))
                  all_goals
                    have HO4 := hide o4
                    have HB4 := hide (show Below w4.heap.size w4 u3 from Below.trans (by ((repeat (first | (with_reducible assumption) | (with_reducible exact Below.refl _ _) | (with_reducible refine Below.drewS ?_) | (with_reducible refine Below.allocS ?_ _) | (with_reducible refine belGr ?_ (by assumption)) | (with_reducible refine Below.next ?_ (by assumption)) | (with_reducible refine Below.trans ?_ (by assumption)))); (first | done | fail))) b4)
                    have HI4 := hide ((HIW.out.keep (Below.refl _ _).drew).apart t4 HS.out)
                    have HS4 := hide (sep_l HS.out n4 (fun g hg => (HIW.out.blk g hg).2))
                    clear o4 b4 t4 n4 bb1
                    go_wp2_with fail
                    go_roundw
                    case rel => exact ⟨j + 1, zN.length, q, A4, A', c4, cc', zN, bs, by go_num, by omega, rfl, rfl, HZL.out, by omega, hide ⟨HZQ.out, rfl⟩, hide ⟨HQN.out, HQ.out.2⟩, HO4, HI4, HS4, HB4⟩
                    case measure => simp [RowKit.intOf]; omega
                · have e0 := fun (w : World) => eqR_run f1 f2 w false (decide_eq_false h12)
                  have e1 := fun (w : World) => eqR_run f2 f0 w false (decide_eq_false h20)
                  have e2 := fun (w : World) => eqR_run f1 f0 w false (decide_eq_false h10)
                  have HFZ := hide (show meF o a b k = f0 by rw [HFK.out]; unfold me1; rw [if_neg (by rintro (h | h); exact h12 h; exact h20 h), if_neg h10])
                  have HGZ := hide (show meG o a b k = true by rw [HGK.out]; exact decide_eq_true ⟨h12, h20, h10⟩)
                  clear h12 h20 h10
                  go_wp2_with fail
                  have KS := hide (fun (w' : World) (h : Turn (Blk A) WW w') => show w'.cell? ⟨bk, ok + j, none⟩ = some (.int .i64 k) ∧ w'.cell? ⟨g0, 0, none⟩ = some (.int .i64 f0.v) ∧ w'.cell? ⟨g0, 1, none⟩ = some (.bool f0.i) from ⟨(World.cell?_of_block (a := ⟨bk, ok + j, none⟩) (h.block bk (Nat.lt_of_lt_of_le hl9 HBW.out.size) (fun hk => by have := (HOW.out.blk bk hk).1; omega))).trans (HKC.out _ HBW.out), (h.box HX0'.out HG0.out).at_ 0, (h.box HX0'.out HG0.out).at_ 1⟩)
                  have bb1 := HBW.out
                  obtain ⟨zN, hzN⟩ : ∃ zN, mkE' (K.take (j + 1)) (meF o a b) = zN := ⟨_, rfl⟩
                  have hz0 := HZN0.out
                  rw [hzN, HZ.out.1, HFZ.out] at hz0
                  have HZL := hide (show zN.length ≤ j + 1 by rw [hz0, List.length_append, HZ.out.2]; have := enO1_len k f0; omega)
                  have HZQ := hide hzN
                  have HZ2 := hide hz0.symm
                  have HQN := hide (show (K.take (j + 1)).filter (meG o a b) = bs ++ [k] by rw [HQN0.out, HQ.out.1, if_pos HGZ.out])
                  obtain rfl : zs.length = m := HZ.out.2
                  clear hz0 hzN p0 p1 q0 q1 r0 r1
                  go_region_held3 (fun w' => w'.cell? ⟨bk, ok + j, none⟩ = some (.int .i64 k) ∧ w'.cell? ⟨g0, 0, none⟩ = some (.int .i64 f0.v) ∧ w'.cell? ⟨g0, 1, none⟩ = some (.bool f0.i))
                    (exact KS.out _ (by first | with_reducible assumption | exact Turn.of (Below.refl _ _).drew | exact (Turn.of (Below.refl _ _).drew).trans (by assumption)))
                    (first | (go_at_call 54; (with_reducible refine (put2_any w4.heap.size cc A zs zN k f0 _ (HOW.out.keep (by ((repeat (first | (with_reducible assumption) | (with_reducible exact Below.refl _ _) | (with_reducible refine Below.drewS ?_) | (with_reducible refine Below.allocS ?_ _) | (with_reducible refine belGr ?_ (by assumption)) | (with_reducible refine Below.next ?_ (by assumption)) | (with_reducible refine Below.trans ?_ (by assumption)))); (first | done | fail)))) (Below.size (B := w4.heap.size) (w := w4) (by ((repeat (first | (with_reducible assumption) | (with_reducible exact Below.refl _ _) | (with_reducible refine Below.drewS ?_) | (with_reducible refine Below.allocS ?_ _) | (with_reducible refine belGr ?_ (by assumption)) | (with_reducible refine Below.next ?_ (by assumption)) | (with_reducible refine Below.trans ?_ (by assumption)))); (first | done | fail)))) (by omega) HZ2.out).mono ?_); rintro e u3 ⟨A4, c4, rfl, o4, b4, t4, n4⟩))
                  all_goals
                    have HO4 := hide o4
                    have HB4 := hide (show Below w4.heap.size w4 u3 from Below.trans (by ((repeat (first | (with_reducible assumption) | (with_reducible exact Below.refl _ _) | (with_reducible refine Below.drewS ?_) | (with_reducible refine Below.allocS ?_ _) | (with_reducible refine belGr ?_ (by assumption)) | (with_reducible refine Below.next ?_ (by assumption)) | (with_reducible refine Below.trans ?_ (by assumption)))); (first | done | fail))) b4)
                    have HI4 := hide ((HIW.out.keep (Below.refl _ _).drew).apart t4 HS.out)
                    have HS4 := hide (sep_l HS.out n4 (fun g hg => (HIW.out.blk g hg).2))
                    clear o4 b4 t4 n4 bb1
                    obtain rfl : bs.length = q := HQ.out.2
                    have kk0 := HKC.out _ HB4.out
                    have HI5 := hide (HI4.out.keep ((Below.refl _ _).alloc (Nat.le_refl _) (.cells #[.int .i64 k] 3)))
                    have HO5 := hide (HO4.out.keep ((Below.refl _ _).alloc (Nat.le_refl _) (.cells #[.int .i64 k] 3)))
                    have HN := hide (litI (x := k) (newE u3 #[.int .i64 k] 3 rfl))
                    have HB5 := hide (Below.allocS HB4.out (.cells #[.int .i64 k] 3))
                    go_wp2_with (at_builtin; refine wpList_app_ow _ rfl _ _ 37 rfl w4.heap.size 3 _ 1 8 Try.underlying37 infoI1 rfl (by decide) _ _ _ _ rfl HI5.out _ _ _ (eI.enc k) rfl rfl (fun _ => ⟨_, rfl, HN.out⟩) (fun uu hu => eI.one k uu hu) (by decide) (by omega) HB5.out.size ?_; intro A5 c5 w5 r1 r2 r3)
                    have h1 := ow_app (e := eI) (x := k) r1
                    rw [List.length_append] at h1
                    have HI6 := hide h1
                    have HO6 := hide (HO5.out.apart r2 HS4.out.symm)
                    have HS6 := hide (sep_r HS4.out r3 (fun g hg => (HO5.out.blk g hg).2))
                    have HB6 := hide (HB5.out.trans (r2.below (fun k hk => (HI5.out.blk k hk).1) HB5.out.size))
                    clear r1 r2 r3 h1
                    go_roundw
                    case rel => exact ⟨j + 1, zN.length, bs.length + 1, A4, A5, c4, c5, zN, bs ++ [k], by go_num, by omega, rfl, rfl, HZL.out, by omega, hide ⟨HZQ.out, rfl⟩, hide ⟨HQN.out, by rw [List.length_append]; rfl⟩, HO6, HI6, HS6, HB6⟩
                    case measure => simp [RowKit.intOf]; omega
        
          · obtain rfl : NK = j := by omega
            have d0 : decide ((NK : Int) < (NK : Int)) = false := decide_eq_false (by omega)
            have hall : K.take NK = K := List.take_of_length_le (by rw [HNK.out]; exact Nat.le_refl _)
            have hz : meL o a b = zs := by rw [HKD.out, ← HZ.out.1, hall]
            have hq : meB o a b = bs := by rw [HKB.out, ← HQ.out.1, hall]
            have hd := HR.out
            rw [hz, hq, HZ.out.2, HQ.out.2] at hd
            have hzl := HZ.out.2
            have hql := HQ.out.2
            by_cases h64 : m ≤ 64
            · have d2 : decide ((64 : Int) < (m : Int)) = false := decide_eq_false (by omega)
              by_cases q64 : q ≤ 64
              · have d3 : decide ((64 : Int) < (q : Int)) = false := decide_eq_false (by omega)
                have HRR := hide (show merR o a b = (zs, bs, 0) by rw [hd, if_pos ⟨h64, q64⟩])
                have HOZ := hide (HO.out.low B4.out.size)
                have HIZ := hide (HI.out.low B4.out.size)
                subst hzl
                subst hql
                clear hz hq hd hall
                go_wp2_with fail
                go_ret3
                unfold GivM
                rw [HRR.out]
                exact ⟨A, cc, A', cc', rfl, HOZ.out, HIZ.out, Below.next B4.out HB.out⟩
              · have d3 : decide ((64 : Int) < (q : Int)) = true := decide_eq_true (by omega)
                have HRR := hide (show merR o a b = ([], [], 6) by rw [hd, if_neg (fun h => q64 h.2)])
                clear hz hq hd hzl hql hall
                go_wp2_with fail
                go_ret3
                exact GivM.none 6 HRR.out rfl (Below.next B4.out HB.out)
            · have d2 : decide ((64 : Int) < (m : Int)) = true := decide_eq_true (by omega)
              have HRR := hide (show merR o a b = ([], [], 6) by rw [hd, if_neg (fun h => h64 h.1)])
              clear hz hq hd hzl hql hall
              go_wp2_with fail
              go_ret3
              exact GivM.none 6 HRR.out rfl (Below.next B4.out HB.out)
end Go.Proofs.Ytadmiecoahohiaa
