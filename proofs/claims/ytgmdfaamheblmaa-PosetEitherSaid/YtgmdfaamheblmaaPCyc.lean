/- Cycle. -/
import Derived.Test.YtgmdfaamheblmaaPSho
namespace Go.Proofs.Ytgmdfaamheblmaa
open Go Go.RowKit PM

theorem we_stp {n T} (hT : Fits n T) (k : Nat) : stp n (we n T k) T = we n T (k + 1) := by
  funext i j
  unfold stp
  rw [show we n T (k + 1) i j = (List.range n).any fun m => we n T k i m && T m j from rfl]
  by_cases h : i < n
  · rw [decide_eq_true h, Bool.true_and]
  · rw [decide_eq_false h, Bool.false_and, eq_comm, List.any_eq_false]
    intro m _ hm
    rw [Bool.and_eq_true, we_iff hT] at hm
    exact h (hm.1.fits hT).1
theorem wpList_load_er {P : Program} {w : World} {ops : Array Oper} {rest : List Oper} {o : Oper} {a : Act} {Q : Exit → Act → World → Prop} (hgd : o.guard = none) (x : Operand) (ho : o.op = .load 54 x)
    (g k : Nat) (hx : a.eval x = .pointer (some ⟨g, k, none⟩)) (R : Nat → Nat → Bool) (hr : w.rangeAt g k (cells .u32 (rowsR R))) (hu : P.underlying 54 = some (.array 24 52)) (hi : (P.info? 54).map (·.size) = some 24)
    (hK : wpList P ops Q rest (a.put o.dst (.agg (cR R))) w) : wpList P ops Q (o :: rest) a w :=
  wpList_load_mid hgd 54 x ho g k hx _ _ hr hu rfl (by rw [cellsR_len]; exact hi) hK
section
variable {P : Program} {ops : Array Oper} {Q : Exit → Act → World → Prop} {md : Region.Mode}
/-- an operation that yields in whatever world is taken first -/
theorem take1 (i d : Nat) {oi : Oper} {v : Value} {fuel : Nat} {listed : Array Bool} {a : Act} {w : World} (hi : ops[i]? = some oi) (hd : oi.dst = some d)
    (hs : Region.noSelect ops = true) (hf : Region.free md ops listed i = true) (hr : (Region.ready md ops listed).contains i = true)
    (hQ : ∀ c a w, Q (.panic c) (a.put (some d) v) w → Q (.panic c) a w) (hw : Region.wanted oi (yielded ops a.tmps) = true) (hy : ∀ w, (execOp a.eval oi).run P w = .ok (.value v) w)
    (h : wpAny P md ops Q fuel (listed.setIfInBounds i true) (a.put (some d) v) w) : wpAny P md ops Q (fuel + 1) listed a w :=
  wpAny_take hi hs hf hr (by rw [hd]; exact hQ) (Or.inl ⟨hw, hy⟩) (by rw [hd]; exact h)
/-- one operation may come up -/
theorem come1 (i : Nat) {o : Oper} {fuel : Nat} {listed : Array Bool} {a : Act} {w : World} (hi : ops[i]? = some o) (hr : Region.ready md ops listed = [i])
    (h : ∀ K' : Act → World → Prop, Hid (∀ a w, wpAny P md ops Q fuel (listed.setIfInBounds i true) a w → K' a w) → if Region.wanted o (yielded ops a.tmps) = true then Oper.wp P o a w K' Q else K' (a.put o.dst undef) w) : wpAny P md ops Q (fuel + 1) listed a w :=
  wpAny_ready (rs := [i]) hr (by simp) (AllReady.cons hi (fun K hK => h K (hide hK)) AllReady.nil)
/-- two may -/
theorem come2 (i j : Nat) {o p : Oper} {fuel : Nat} {listed : Array Bool} {a : Act} {w : World} (hi : ops[i]? = some o) (hj : ops[j]? = some p) (hr : Region.ready md ops listed = [i, j])
    (h : ∀ K' : Act → World → Prop, Hid (∀ a w, wpAny P md ops Q fuel (listed.setIfInBounds i true) a w → K' a w) → if Region.wanted o (yielded ops a.tmps) = true then Oper.wp P o a w K' Q else K' (a.put o.dst undef) w)
    (h2 : ∀ K' : Act → World → Prop, Hid (∀ a w, wpAny P md ops Q fuel (listed.setIfInBounds j true) a w → K' a w) → if Region.wanted p (yielded ops a.tmps) = true then Oper.wp P p a w K' Q else K' (a.put p.dst undef) w) : wpAny P md ops Q (fuel + 1) listed a w :=
  wpAny_ready (rs := [i, j]) hr (by simp) (AllReady.cons hi (fun K hK => h K (hide hK)) (AllReady.cons hj (fun K hK => h2 K (hide hK)) AllReady.nil))
end
theorem esnoc {n j : Nat} {T : Nat → Nat → Bool} {Es : List (Nat → Nat → Bool)} (hl : Es.length = j + 2) (h : ∀ k, k ≤ j → Es[k + 1]? = some (we n T k)) : ∀ k, k ≤ j + 1 → (Es ++ [we n T (j + 1)])[k + 1]? = some (we n T k) := by
  intro k hk
  rcases Nat.lt_or_ge j k with h1 | h1
  · obtain rfl : k = j + 1 := by omega
    rw [List.getElem?_append_right (by omega), show j + 1 + 1 - Es.length = 0 by omega]; rfl
  · rw [List.getElem?_append_left (by omega)]; exact h k h1
set_option maxHeartbeats 2000000 in
theorem cyc_v (n : Int) (A : Option Addr) (m c : Nat) (l : List (Int × Int)) (w : World) (hx : YL w A m l) (hm : m ≤ maxLen) (hv : vB n l = false) :
    Calls Try.prog 29 #[.int .i64 n, .slice A m c] w (GivesL [] 1 w) := by
  have HX := hide hx
  have HM := hide hm
  have HV := hide hv
  clear hx hm hv
  go_enter Try.func29, Try.ntmps29
  go_wp2_with fail
  refine (valid_any n A m c l _ HX.out HM.out false HV.out).mono ?_
  rintro e w1 ⟨rfl, B⟩
  go_wp2_with fail
  refine bodyPost_ret (v := .tuple #[.slice none 0 0, .int .i64 1]) (by simp [results, Try.results29, go_sem]) rfl ?_
  exact GivesL.nil B
/-- what Cycle gives of a valid digraph -/
def resK' (n : Nat) (T : Nat → Nat → Bool) : List Nat × Int := if lenP n T < n then (cycP n T, 0) else ([], 7)
theorem resK_hit {n T j xs er} (hT : Fits n T) (hr : resK' n T = (xs, er)) (hj : j < n) (h1 : ∀ k, k < j → ¬startP n T k < n) (h2 : startP n T j < n) : Fewest T j (startP n T j) ∧ startP n T j :: pathP n T (startP n T j) j (startP n T j) = xs ∧ er = 0 := by
  have e : lenP n T = j := least_uniq hj (decide_eq_true h2) fun k hk => decide_eq_false (h1 k hk)
  have hl : lenP n T < n := by omega
  have hf := (lenP_fewest hT hl).2
  unfold resK' at hr
  rw [if_pos hl] at hr
  unfold cycP at hr
  rw [if_pos hl, e] at hr
  rw [e] at hf
  injection hr with h3 h4
  exact ⟨hf, h3, h4.symm⟩
theorem resK_miss {n T xs er} (hr : resK' n T = (xs, er)) (h1 : ∀ k, k < n → ¬startP n T k < n) : xs = [] ∧ er = 7 := by
  have e : lenP n T = n := least_none fun k hk => decide_eq_false (h1 k hk)
  unfold resK' at hr
  rw [if_neg (by omega)] at hr
  injection hr with h3 h4
  exact ⟨h3.symm, h4.symm⟩
set_option maxHeartbeats 8000000 in
theorem cyc_y (N : Nat) (A : Option Addr) (m c : Nat) (bs : List (Nat × Nat)) (w : World) (hx : YL w A m (bs.map zA)) (hd : Dig N bs) (xs : List Nat) (er : Int) (hr : resK' N (adj bs) = (xs, er)) :
    Calls Try.prog 29 #[.int .i64 (N : Int), .slice A m c] w (GivesL xs er w) := by
  have HX := hide hx
  have HM := hide (dig_max hd hx)
  have HV := hide (vB_of hd)
  have HD := hide hd
  have hn := hd.le
  have HT := hide hd.adj
  have HR := hide hr
  clear hx hd hr
  go_enter Try.func29, Try.ntmps29
  go_wp2_with fail
  refine (valid_any N A m c _ _ HX.out HM.out true HV.out).mono ?_
  rintro e w0 ⟨rfl, B0⟩
  go_wp2_with fail
  refine (suc_any A m c N bs _ HD.out (HX.out.keep B0)).mono ?_
  rintro e w1 ⟨rfl, B⟩
  have B := B0.trans (B.mono B0.size)
  clear B0
  obtain ⟨T, hTT⟩ : ∃ T, adj bs = T := ⟨_, rfl⟩
  rw [hTT] at HT HR ⊢
  clear hTT
  obtain ⟨hb5, o5⟩ := boxO1 (rfl : w1.alloc (.cells _ 54) = _) noR zeros24
  have o5s := o5.setRow T
  have B5 := below_row (B.trans (hb5.mono B.size)) B.size (cR T)
  go_wp2_with (first | (refine wpList_store_row rfl 54 _ _ rfl (w1.heap.size) _ rfl rfl 54 _ o5.row (cR_info _) (by rw [cR_size, cR_size]) (cR_one _) ?_) | (refine wpList_load_row rfl 54 _ rfl (w1.heap.size) rfl 54 _ (0, 0) _ o5s.row Try.underlying54 rfl (cR_info _) ?_) | (refine wpList_build_er2 rfl _ _ _ rfl T (congrArg Value.agg zeros24) rfl Try.underlying61 sets_info ?_))
  generalize hW5 : World.setRow _ _ _ = W5 at *
  have hsz : W5.heap.size = w1.heap.size + 1 := by rw [← hW5]; simp
  clear hW5
  have hge : w.heap.size ≤ w1.heap.size := B.size
  generalize w1.heap.size = g6 at *
  clear o5 B hb5
  have hg6 := o5s.lt
  have hw5 := B5.size
  have e0 := er_two W5 W5.heap.size T (Nat.le_refl _)
  have F5 : Below W5.heap.size W5 (W5.alloc (.cells (cR noR ++ cR T) 54)) := (Below.refl _ _).alloc (Nat.le_refl _) _
  have o0 := o5s.below' F5
  have B0 := B5.trans (F5.mono hw5)
  have hz0 := F5.size
  clear o5s B5 F5
  have h0 : ∀ k, k ≤ 0 → [noR, T][k + 1]? = some (we N T k) := fun k hk => by
    obtain rfl : k = 0 := by omega
    rfl
  generalize W5.alloc _ = V at *
  rw [hsz] at e0 hz0
  clear hsz hw5 hg6
  go_loopw [7, 8] (fun v7 v8 wr => ∃ (j cap : Nat) (Ae : Option Addr) (Es : List (Nat → Nat → Bool)), v7 = .slice Ae (j + 2) cap ∧ v8 = .int .i64 ((j + 1 : Nat) : Int) ∧ j ≤ N ∧ ER wr (g6 + 1) Ae (j + 2) cap Es ∧ Hid (∀ k, k ≤ j → Es[k + 1]? = some (we N T k)) ∧ Hid (∀ k, k < j → ¬startP N T k < N) ∧ Below w.heap.size w wr ∧ OR wr g6 T) (fun _ v8 _ => N + 1 - (RowKit.intOf v8).toNat)
  case atStart => exact ⟨0, 2, _, [noR, T], rfl, rfl, by omega, e0, hide h0, hide fun k hk => by omega, B0, o0⟩
  case round =>
    clear e0 o0 B0 h0
    obtain ⟨j, cap, Ae, Es, rfl, rfl, hj, he, HE, HL, B, o6⟩ := hrel
    by_cases hlt : j < N
    · have k1 : (j : Int) + 1 ≤ (N : Int) := by omega
      have k2 : (0 : Int) ≤ (j : Int) + 1 := by omega
      have k3 : (j : Int) + 1 < (j : Int) + 2 := by omega
      obtain ⟨g, rfl, hgg, hgl⟩ := he.head (by omega)
      have HR2 := hide he
      have hrg := he.range (HE.out j (Nat.le_refl j))
      clear he
      go_wp2_with (first | (refine wpList_load_er rfl _ rfl g ((j + 1) * 24) rfl (we N T j) hrg Try.underlying54 (by kernel_rfl) ?_))
      refine (returning_any N (we N T j) _ hn _ rfl).mono ?_
      rintro e w7 ⟨rfl, hb⟩
      have B7 := B.trans (hb.mono B.size)
      have o7 := o6.below' hb
      have he7 := HR2.out.below hb
      clear hb o6 B hrg HR2
      obtain ⟨st, hst⟩ : ∃ st, startP N T j = st := ⟨_, rfl⟩
      rw [show least N (fun i => we N T j i i) = st from hst]
      by_cases hlt2 : st < N
      · have hh := resK_hit HT.out HR.out hlt HL.out (by rw [hst]; exact hlt2)
        rw [hst] at hh
        obtain ⟨hf, hw, rfl⟩ := hh
        have HF := hide hf
        have HW := hide hw
        have e1 : (st : Int) < (N : Int) := by omega
        clear hf hw hst HL
        go_wp2_with (first | (refine wpList_load_row rfl 54 _ rfl (g6) rfl 54 _ (0, 0) _ o7.row Try.underlying54 rfl (cR_info _) ?_))
        refine (shortest_any N T j st Es (g6 + 1) (j + 2) cap (some ⟨g, 0, none⟩) _ hn HT.out HF.out hlt hlt2 rfl HE.out he7 xs HW.out).mono ?_
        rintro e w8 ⟨⟨A8, c8, rfl, r8⟩, hb⟩
        have B8 := B7.trans (hb.mono B7.size)
        clear hb HF HW
        go_wp2_with fail
        refine bodyPost_ret (v := .tuple #[.slice A8 xs.length c8, .int .i64 0]) (by simp [results, Try.results29, go_sem]) rfl ?_
        exact ⟨⟨A8, c8, rfl, r8.rl, r8.le.1, r8.le.2⟩, B8⟩
      · have e1 : decide ((st : Int) < (N : Int)) = false := decide_eq_false (by omega)
        have HL2 := hide (show ∀ k, k < j + 1 → ¬startP N T k < N from fun k hk => by
          rcases Nat.lt_or_ge k j with h | h
          · exact HL.out k h
          · obtain rfl : k = j := by omega
            rw [hst]; exact hlt2)
        clear hst HL
        go_wp2_with fail
        refine wp_region_any (by kernel_rfl) ?_
        change wpAny _ _ _ _ _ _ _ (World.drew _)
        have heD := he7.below (Below.refl w7.heap.size w7).drew
        have hrg := heD.range (HE.out j (Nat.le_refl j))
        have oD := o7.drew
        have BD := B7.drew
        have HG := hide (show g6 + 1 ≤ w7.heap.size from by have := oD.lt; exact this)
        clear he7 o7 B7
        refine take1 0 38 (v := ?v0t1) rfl rfl (by kernel_rfl) (by kernel_rfl) (by kernel_rfl) (fun _ _ _ h => h) (by rfl) ?y0t1 ?r0t1
        case y0t1 => (intro w; first | (go_simp; done) | (go_simp; with_reducible rfl))
        try simp only [Act.put, List.setIfInBounds_toArray, List.set_cons_zero, List.set_cons_succ]
        refine take1 1 39 (v := ?v1t2) rfl rfl (by kernel_rfl) (by kernel_rfl) (by kernel_rfl) (fun _ _ _ h => h) (by rfl) ?y1t2 ?r1t2
        case y1t2 => (intro w; first | (go_simp; done) | (go_simp; with_reducible rfl))
        try simp only [Act.put, List.setIfInBounds_toArray, List.set_cons_zero, List.set_cons_succ]
        refine take1 2 40 (v := ?v2t3) rfl rfl (by kernel_rfl) (by kernel_rfl) (by kernel_rfl) (fun _ _ _ h => h) (by rfl) ?y2t3 ?r2t3
        case y2t3 => (intro w; first | (go_simp; done) | (go_simp; with_reducible rfl))
        try simp only [Act.put, List.setIfInBounds_toArray, List.set_cons_zero, List.set_cons_succ]
        refine take1 3 41 (v := ?v3t4) rfl rfl (by kernel_rfl) (by kernel_rfl) (by kernel_rfl) (fun _ _ _ h => h) (by rfl) ?y3t4 ?r3t4
        case y3t4 => (intro w; first | (go_simp; done) | (go_simp; with_reducible rfl))
        try simp only [Act.put, List.setIfInBounds_toArray, List.set_cons_zero, List.set_cons_succ]
        refine take1 4 42 (v := ?v4t5) rfl rfl (by kernel_rfl) (by kernel_rfl) (by kernel_rfl) (fun _ _ _ h => h) (by rfl) ?y4t5 ?r4t5
        case y4t5 => (intro w; first | (go_simp; done) | (go_simp; with_reducible rfl))
        try simp only [Act.put, List.setIfInBounds_toArray, List.set_cons_zero, List.set_cons_succ]
        refine come2 (o := ?o5) (p := ?o6) 5 6 ?h5 ?h6 (by kernel_rfl) ?c5 ?c6
        case h5 => (simp only [List.getElem?_toArray, List.getElem?_cons_succ, List.getElem?_cons_zero]; exact rfl)
        case h6 => (simp only [List.getElem?_toArray, List.getElem?_cons_succ, List.getElem?_cons_zero]; exact rfl)
        · intro K hK
          refine step_load_mid rfl _ rfl g ((j + 1) * 24) rfl (we N T j) hrg Try.underlying54 (by kernel_rfl) ?_
          refine hK.out _ _ ?_
          clear hK K
          try simp only [Act.put, List.setIfInBounds_toArray, List.set_cons_zero, List.set_cons_succ]
          refine come1 (o := ?o6n6) 6 ?h6n6 (by kernel_rfl) ?c6n6
          case h6n6 => (simp only [List.getElem?_toArray, List.getElem?_cons_succ, List.getElem?_cons_zero]; exact rfl)
          intro K hK
          refine step_load_or rfl _ rfl g6 rfl T oD Try.underlying54 (by kernel_rfl) ?_
          refine hK.out _ _ ?_
          clear hK K
          try simp only [Act.put, List.setIfInBounds_toArray, List.set_cons_zero, List.set_cons_succ]
          refine come1 (o := ?o7n7) 7 ?h7n7 (by kernel_rfl) ?c7n7
          case h7n7 => (simp only [List.getElem?_toArray, List.getElem?_cons_succ, List.getElem?_cons_zero]; exact rfl)
          intro K hK
          go_simp
          go_at_call 42
          refine (steps_any N (we N T j) T _ hn).mono ?_
          rintro e w8 ⟨rfl, hb⟩
          rw [we_stp HT.out]
          refine hK.out _ _ ?_
          clear hK K
          try simp only [Act.put, List.setIfInBounds_toArray, List.set_cons_zero, List.set_cons_succ]
          have hbD : Below w7.drew.heap.size w7.drew w8 := hb
          have he8 := heD.below hbD
          have o8 := oD.below' hbD
          have B8 := BD.trans (hbD.mono BD.size)
          have HG8 := hide (Nat.le_trans HG.out hbD.size)
          clear hb hbD heD oD BD hrg
          have F : Below w8.heap.size w8 (w8.alloc (.cells (cR (we N T (j + 1))) 54)) := (Below.refl _ _).alloc (Nat.le_refl _) _
          refine come1 (o := ?o8n8) 8 ?h8n8 (by kernel_rfl) ?c8n8
          case h8n8 => (simp only [List.getElem?_toArray, List.getElem?_cons_succ, List.getElem?_cons_zero]; exact rfl)
          intro K hK
          refine step_build_er rfl _ _ rfl (we N T (j + 1)) rfl Try.underlying61 sets_info ?_
          refine hK.out _ _ ?_
          clear hK K
          try simp only [Act.put, List.setIfInBounds_toArray, List.set_cons_zero, List.set_cons_succ]
          refine come1 (o := ?o9n9) 9 ?h9n9 (by kernel_rfl) ?c9n9
          case h9n9 => (simp only [List.getElem?_toArray, List.getElem?_cons_succ, List.getElem?_cons_zero]; exact rfl)
          intro K hK
          refine step_append_er rfl _ _ _ rfl Try.underlying61 sets_info (g6 + 1) (some ⟨g, 0, none⟩) (j + 2) cap Es rfl (he8.below F) w8.heap.size 1 (we N T (j + 1)) rfl (OR.of (heap_alloc_new w8 _)) (j + 3) rfl (by omega) (Nat.le_trans HG8.out F.size) ?_
          intro A10 c10 w10 he10 hG10
          refine hK.out _ _ ?_
          clear hK K
          try simp only [Act.put, List.setIfInBounds_toArray, List.set_cons_zero, List.set_cons_succ]
          refine take1 10 7 (v := ?v10t10) rfl rfl (by kernel_rfl) (by kernel_rfl) (by kernel_rfl) (fun _ _ _ h => h) (by rfl) ?y10t10 ?r10t10
          case y10t10 => (intro w; first | (go_simp; done) | (go_simp; with_reducible rfl))
          try simp only [Act.put, List.setIfInBounds_toArray, List.set_cons_zero, List.set_cons_succ]
          refine wpAny_done (by kernel_rfl) ?_ _
          have o10 := hG10.2.2 g6 (cR T) 54 (o8.below' F) (fun b o e => by have := (he8.lt b o e).1; omega)
          have B10 := (B8.trans (F.mono B8.size)).trans (hG10.1.mono (Nat.le_trans hge (Nat.le_succ _)))
          have HE2 := hide (esnoc he8.len HE.out)
          clear o8 B8 F hG10 he8
          go_wp2_with fail
          go_roundw
          case measure => simp [RowKit.intOf]; omega
          case rel => exact ⟨j + 1, c10, A10, Es ++ [we N T (j + 1)], rfl, by go_num, by omega, he10, HE2, HL2, B10, o10⟩
        · intro K hK
          refine step_load_or rfl _ rfl g6 rfl T oD Try.underlying54 (by kernel_rfl) ?_
          refine hK.out _ _ ?_
          clear hK K
          try simp only [Act.put, List.setIfInBounds_toArray, List.set_cons_zero, List.set_cons_succ]
          refine come1 (o := ?o5n11) 5 ?h5n11 (by kernel_rfl) ?c5n11
          case h5n11 => (simp only [List.getElem?_toArray, List.getElem?_cons_succ, List.getElem?_cons_zero]; exact rfl)
          intro K hK
          refine step_load_mid rfl _ rfl g ((j + 1) * 24) rfl (we N T j) hrg Try.underlying54 (by kernel_rfl) ?_
          refine hK.out _ _ ?_
          clear hK K
          try simp only [Act.put, List.setIfInBounds_toArray, List.set_cons_zero, List.set_cons_succ]
          refine come1 (o := ?o7n12) 7 ?h7n12 (by kernel_rfl) ?c7n12
          case h7n12 => (simp only [List.getElem?_toArray, List.getElem?_cons_succ, List.getElem?_cons_zero]; exact rfl)
          intro K hK
          go_simp
          go_at_call 42
          refine (steps_any N (we N T j) T _ hn).mono ?_
          rintro e w8 ⟨rfl, hb⟩
          rw [we_stp HT.out]
          refine hK.out _ _ ?_
          clear hK K
          try simp only [Act.put, List.setIfInBounds_toArray, List.set_cons_zero, List.set_cons_succ]
          have hbD : Below w7.drew.heap.size w7.drew w8 := hb
          have he8 := heD.below hbD
          have o8 := oD.below' hbD
          have B8 := BD.trans (hbD.mono BD.size)
          have HG8 := hide (Nat.le_trans HG.out hbD.size)
          clear hb hbD heD oD BD hrg
          have F : Below w8.heap.size w8 (w8.alloc (.cells (cR (we N T (j + 1))) 54)) := (Below.refl _ _).alloc (Nat.le_refl _) _
          refine come1 (o := ?o8n13) 8 ?h8n13 (by kernel_rfl) ?c8n13
          case h8n13 => (simp only [List.getElem?_toArray, List.getElem?_cons_succ, List.getElem?_cons_zero]; exact rfl)
          intro K hK
          refine step_build_er rfl _ _ rfl (we N T (j + 1)) rfl Try.underlying61 sets_info ?_
          refine hK.out _ _ ?_
          clear hK K
          try simp only [Act.put, List.setIfInBounds_toArray, List.set_cons_zero, List.set_cons_succ]
          refine come1 (o := ?o9n14) 9 ?h9n14 (by kernel_rfl) ?c9n14
          case h9n14 => (simp only [List.getElem?_toArray, List.getElem?_cons_succ, List.getElem?_cons_zero]; exact rfl)
          intro K hK
          refine step_append_er rfl _ _ _ rfl Try.underlying61 sets_info (g6 + 1) (some ⟨g, 0, none⟩) (j + 2) cap Es rfl (he8.below F) w8.heap.size 1 (we N T (j + 1)) rfl (OR.of (heap_alloc_new w8 _)) (j + 3) rfl (by omega) (Nat.le_trans HG8.out F.size) ?_
          intro A10 c10 w10 he10 hG10
          refine hK.out _ _ ?_
          clear hK K
          try simp only [Act.put, List.setIfInBounds_toArray, List.set_cons_zero, List.set_cons_succ]
          refine take1 10 7 (v := ?v10t15) rfl rfl (by kernel_rfl) (by kernel_rfl) (by kernel_rfl) (fun _ _ _ h => h) (by rfl) ?y10t15 ?r10t15
          case y10t15 => (intro w; first | (go_simp; done) | (go_simp; with_reducible rfl))
          try simp only [Act.put, List.setIfInBounds_toArray, List.set_cons_zero, List.set_cons_succ]
          refine wpAny_done (by kernel_rfl) ?_ _
          have o10 := hG10.2.2 g6 (cR T) 54 (o8.below' F) (fun b o e => by have := (he8.lt b o e).1; omega)
          have B10 := (B8.trans (F.mono B8.size)).trans (hG10.1.mono (Nat.le_trans hge (Nat.le_succ _)))
          have HE2 := hide (esnoc he8.len HE.out)
          clear o8 B8 F hG10 he8
          go_wp2_with fail
          go_roundw
          case measure => simp [RowKit.intOf]; omega
          case rel => exact ⟨j + 1, c10, A10, Es ++ [we N T (j + 1)], rfl, by go_num, by omega, he10, HE2, HL2, B10, o10⟩
    · obtain rfl : j = N := by omega
      obtain ⟨rfl, rfl⟩ := resK_miss HR.out HL.out
      have d2 : decide ((j : Int) + 1 ≤ (j : Int)) = false := decide_eq_false (by omega)
      go_wp2_with fail
      refine bodyPost_ret (v := .tuple #[.slice none 0 0, .int .i64 7]) (by simp [results, Try.results29, go_sem]) rfl ?_
      exact GivesL.nil B
/-- what Cycle gives -/
def resK (n : Int) (l : List (Int × Int)) : List Nat × Int := if vB n l = true then resK' n.toNat (adj (l.map nA)) else ([], 1)
theorem resK_cases (n : Int) (l : List (Int × Int)) : (vB n l = false ∧ resK n l = ([], 1)) ∨ ∃ (N : Nat) (bs : List (Nat × Nat)), n = (N : Int) ∧ l = bs.map zA ∧ Dig N bs ∧ resK n l = resK' N (adj bs) := by
  unfold resK
  rcases hv : vB n l with _ | _
  · exact .inl ⟨rfl, rfl⟩
  · obtain ⟨N, bs, rfl, rfl, hd⟩ := vB_true hv
    exact .inr ⟨N, bs, rfl, rfl, hd, by rw [if_pos rfl, nA_zA, Int.toNat_natCast]⟩
theorem cycle_any (n : Int) (A : Option Addr) (m c : Nat) (l : List (Int × Int)) (w : World) (hx : YL w A m l) (hm : m ≤ maxLen) (xs : List Nat) (er : Int) (hr : resK n l = (xs, er)) :
    Calls Try.prog 29 #[.int .i64 n, .slice A m c] w (GivesL xs er w) := by
  rcases resK_cases n l with ⟨hv, h⟩ | ⟨N, bs, rfl, rfl, hd, h⟩
  · rw [h] at hr
    cases hr
    exact cyc_v n A m c l w hx hm hv
  · rw [h] at hr
    exact cyc_y N A m c bs w hx hd xs er hr
end Go.Proofs.Ytgmdfaamheblmaa
