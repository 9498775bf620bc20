/- The reference's marks and decisions: two lists in order together. -/
import Derived.Test.YtalbdclcappjpaaGreatDV
import Derived.Test.YtalbdclcappjpaaGreatDG
import Derived.Test.YtalbdclcappjpaaGreatDP
import Derived.Deep.RegionHeld3
import Derived.Shelf.RegionOpenPlain
namespace Go.Proofs.YtalbdclcappjpaaGreat
open Go Go.RowKit Go.Lib
theorem own_some {w : World} {base n c size : Nat} {e : TypeId} {A : Option Addr} {vs : List Value} (h : w.ownsRow base e size (.slice A n c) n vs) (hn : 0 < n) : ∃ g, A = some ⟨g, 0, none⟩ ∧ base ≤ g := by
  rcases h.2 with ⟨_, h0⟩ | ⟨g, _, _, e1, hb, _⟩
  · omega
  · injection e1 with e1; exact ⟨g, e1, hb⟩
theorem own_rd {w : World} {base n c size g : Nat} {e : TypeId} {vs : List Value} (h : w.ownsRow base e size (.slice (some ⟨g, 0, none⟩) n c) n vs) (hl : vs.length = n * size) : ∀ j u, vs[j]? = some u → w.cell? ((⟨g, 0, none⟩ : Addr).add j) = some u := fun j u hj => by
  have ea : (⟨g, 0, none⟩ : Addr).add j = ⟨g, j, none⟩ := by unfold Addr.add; split <;> simp_all
  rw [ea, World.ownsRow.cellAt h j (by have := (List.getElem?_eq_some_iff.1 hj).1; omega)]
  exact hj
/-- append to a row that is full: a new row -/
theorem run_app_gr {P : Program} (w : World) (t ty e : TypeId) (z : Value) (size bytes : Nat) (ht : P.underlying t = some (.slice e)) (h2 : (P.info? e).map (fun i => (i.zero, i.size, i.bytes)) = some (some z, size, bytes)) (hzs : z.cells.size = size) (hby : bytes ≤ 40)
    (a : Addr) (n cs : Nat) (olds : List Value) (hlo : olds.length = n * size) (hro : ∀ j u, olds[j]? = some u → w.cell? (a.add j) = some u) (b : Addr) (m c : Nat) (news : List Value) (hln : news.length = m * size) (hrn : ∀ j u, news[j]? = some u → w.cell? (b.add j) = some u) (hfull : cs < n + m) (hN : n + m ≤ 1000000) :
    ∃ c' w', (Builtin.append_ #[t, t] ty #[.slice (some a) n cs, .slice (some b) m c]).run P w = .ok (.slice (some ⟨w.heap.size, 0, none⟩) (n + m) c') w' ∧ w'.ownsRow w.heap.size e size (.slice (some ⟨w.heap.size, 0, none⟩) (n + m) c') (n + m) (olds ++ news) ∧ Below w.heap.size w w' := by
  obtain ⟨i, hi, hz, hs, hb⟩ := info_parts h2
  have hr := run_append_grow (P := P) w t ty e i z ht hi hz a n cs olds (by rw [hlo, hs]) hro b m c news (by rw [hln, hs]) hrn hfull (by omega) (growslice_fits hfull (by rw [hb]; have : (n + m) * bytes ≤ 1000000 * 40 := Nat.mul_le_mul hN hby; omega))
  have hge := grownCap_ge w (n + m) cs e
  have hle := grownCap_le_maxLen w (n + m) cs e (by simp only [maxLen]; omega)
  have hl : (olds ++ news).length = (n + m) * size := by rw [List.length_append, hlo, hln, Nat.add_mul]
  refine ⟨_, _, hr, ⟨hl, .inr ⟨w.heap.size, _, _, rfl, Nat.le_refl _, heap_alloc_new w.drew _, hge, hle, ?_, ?_⟩⟩, (Below.refl _ _).drew.alloc (Nat.le_refl _) _⟩
  · simp only [Array.size_append, List.size_toArray, size_zeroCells, hzs]
    rw [hlo, hln, ← Nat.add_mul, ← Nat.add_mul]
    congr 1
    omega
  · rw [← hl]
    simp only [Array.toList_append]
    exact List.take_left
/-- append to an empty literal: the row is never nil -/
theorem run_app_lit {P : Program} (w : World) (base : Nat) (t ty e : TypeId) (z : Value) (size bytes : Nat) (ht : P.underlying t = some (.slice e)) (h2 : (P.info? e).map (fun i => (i.zero, i.size, i.bytes)) = some (some z, size, bytes)) (hzs : z.cells.size = size) (hsz : 0 < size) (hby : bytes ≤ 40)
    (g : Nat) (hown : w.ownsRow base e size (.slice (some ⟨g, 0, none⟩) 0 0) 0 []) (A : Option Addr) (m c : Nat) (news : List Value) (hl : news.length = m * size) (hr : 0 < m → ∃ a, A = some a ∧ ∀ j u, news[j]? = some u → w.cell? (a.add j) = some u) (h1 : ∀ u ∈ news, u.oneCell' = true) (hN : m ≤ 1000000) (hbase : base ≤ w.heap.size) :
    ∃ g' c' w', (Builtin.append_ #[t, t] ty #[.slice (some ⟨g, 0, none⟩) 0 0, .slice A m c]).run P w = .ok (.slice (some ⟨g', 0, none⟩) m c') w' ∧ w'.ownsRow base e size (.slice (some ⟨g', 0, none⟩) m c') m news ∧ Turn (Is g) w w' := by
  rcases Nat.eq_zero_or_pos m with h0 | h0
  · subst h0
    obtain rfl : news = [] := List.eq_nil_of_length_eq_zero (by simpa using hl)
    obtain ⟨i, hi, hz, hs, hb⟩ := info_parts h2
    have hlc : ∀ (x : Addr), (loadCells x 0).run P w = .ok #[] w := fun x => by simpa using run_loadCells_list (P := P) w x [] (by simp)
    refine ⟨g, 0, w, ?_, hown, Turn.refl _ _⟩
    cases A with
    | none => simp [Builtin.append_, run_underlying ht, sizeOf, typeInfo, hi, Builtin.lenOf, Builtin.firstCells, storeCells]
    | some a => simp [Builtin.append_, run_underlying ht, sizeOf, typeInfo, hi, Builtin.lenOf, Builtin.firstCells, storeCells, hlc]
  · obtain ⟨A', c', w', hrun, r1, r2, r3⟩ := run_append_ow (P := P) w base t ty e z size bytes ht h2 hzs hsz (some ⟨g, 0, none⟩) 0 0 [] hown A m c news hl hr h1 hby (by omega) hbase
    simp only [Nat.zero_add, List.nil_append] at hrun r1
    have hs : ∃ g', A' = some ⟨g', 0, none⟩ := by
      rcases r1.2 with ⟨e1, e2⟩ | ⟨g', _, _, e1, _⟩
      · omega
      · injection e1 with e1; exact ⟨g', e1⟩
    obtain ⟨g', rfl⟩ := hs
    exact ⟨g', c', w', hrun, r1, r2.mono fun k _ hk => blk_some.1 hk⟩
theorem wpList_app_lit {P : Program} (w : World) {ops : Array Oper} {rest : List Oper} {o : Oper} {a : Act} {Q : Exit → Act → World → Prop} (hgd : o.guard = none) (s x : Operand) (t : TypeId)
    (ho : o.op = .call { callee := .builtin .append, args := #[s, x], argTypes := #[t, t] }) (base : Nat) (e : TypeId) (z : Value) (size bytes : Nat) (ht : P.underlying t = some (.slice e)) (h2 : (P.info? e).map (fun i => (i.zero, i.size, i.bytes)) = some (some z, size, bytes))
    (hzs : z.cells.size = size) (hsz : 0 < size) (g : Nat) (hs : a.eval s = .slice (some ⟨g, 0, none⟩) 0 0) (hown : w.ownsRow base e size (.slice (some ⟨g, 0, none⟩) 0 0) 0 []) (A : Option Addr) (m c : Nat) (news : List Value) (hx : a.eval x = .slice A m c)
    (hl : news.length = m * size) (hr : 0 < m → ∃ a, A = some a ∧ ∀ j u, news[j]? = some u → w.cell? (a.add j) = some u) (h1 : ∀ u ∈ news, u.oneCell' = true) (hby : bytes ≤ 40) (hN : m ≤ 1000000) (hbase : base ≤ w.heap.size)
    (h : ∀ g' c' w', w'.ownsRow base e size (.slice (some ⟨g', 0, none⟩) m c') m news → Turn (Is g) w w' → wpList P ops Q rest (a.put o.dst (.slice (some ⟨g', 0, none⟩) m c')) w') : wpList P ops Q (o :: rest) a w :=
  wpList_plain hgd fun K hK => by
    obtain ⟨g', c', w', hrun, h3, h4⟩ := run_app_lit (P := P) w base t o.type e z size bytes ht h2 hzs hsz hby g hown A m c news hl hr h1 hN hbase
    unfold Oper.wp execOp
    simp only [ho, resolve, invoke, builtin, Sem.run_bind, Sem.run_pure, Result.andThen_ok, List.map_toArray, List.map_cons, List.map_nil, hs, hx, hrun]
    exact hK _ _ (h g' c' w' h3 h4)
theorem step_app_gr {P : Program} {ops : Array Oper} {o : Oper} {a' : Act} {w : World} {K : Act → World → Prop} {Q : Exit → Act → World → Prop} {E : Prop} (hgd : o.guard = none) (s x : Operand) (t : TypeId)
    (hop : o.op = .call { callee := .builtin .append, args := #[s, x], argTypes := #[t, t] }) (e : TypeId) (z : Value) (size bytes : Nat) (ht : P.underlying t = some (.slice e)) (h2 : (P.info? e).map (fun i => (i.zero, i.size, i.bytes)) = some (some z, size, bytes)) (hzs : z.cells.size = size) (hby : bytes ≤ 40)
    (a : Addr) (n cs : Nat) (olds : List Value) (hs : a'.eval s = .slice (some a) n cs) (hlo : olds.length = n * size) (hro : ∀ j u, olds[j]? = some u → w.cell? (a.add j) = some u) (b : Addr) (m c : Nat) (news : List Value) (hx : a'.eval x = .slice (some b) m c) (hln : news.length = m * size) (hrn : ∀ j u, news[j]? = some u → w.cell? (b.add j) = some u) (hfull : cs < n + m) (hN : n + m ≤ 1000000)
    (hK : ∀ c' w', w'.ownsRow w.heap.size e size (.slice (some ⟨w.heap.size, 0, none⟩) (n + m) c') (n + m) (olds ++ news) → Below w.heap.size w w' → K (a'.put o.dst (.slice (some ⟨w.heap.size, 0, none⟩) (n + m) c')) w') :
    if Region.wanted o (yielded ops a'.tmps) = true then Oper.wp P o a' w K Q else E := by
  have hw : Region.wanted o (yielded ops a'.tmps) = true := by simp [Region.wanted, hgd]
  rw [if_pos hw]
  obtain ⟨c', w', hrun, h3, h4⟩ := run_app_gr (P := P) w t o.type e z size bytes ht h2 hzs hby a n cs olds hlo hro b m c news hln hrn hfull hN
  unfold Oper.wp
  simp [execOp, hop, resolve, invoke, builtin, hs, hx, hrun, Result.andThen]
  exact hK _ _ h3 h4

theorem own_oneM (w : World) (x : Mk) : (w.alloc (.cells #[.int .i64 x.u, .int .i64 x.n] 46)).ownsRow w.heap.size 46 2 (.slice (some ⟨w.heap.size, 0, none⟩) 1 1) 1 (eM.enc x) :=
  ⟨rfl, .inr ⟨w.heap.size, 1, #[.int .i64 x.u, .int .i64 x.n], rfl, Nat.le_refl _, heap_alloc_new w _, Nat.le_refl _, by simp [maxLen], rfl, rfl⟩⟩
theorem rdM {w : World} {A : Option Addr} {n : Nat} {ys : List Mk} (h : SL eM w A n ys) {b o : Nat} (hA : A = some ⟨b, o, none⟩) : ∀ j u, (flatE eM ys)[j]? = some u → w.cell? ((⟨b, o, none⟩ : Addr).add j) = some u := fun j u hj => by
  have hn : 0 < n := by
    rcases Nat.eq_zero_or_pos n with h0 | h0
    · subst h0
      obtain rfl := h.zero_
      simp [flatE_nil] at hj
    · exact h0
  obtain ⟨b', o', e, hl, hc⟩ := h.2 hn
  rw [hA] at e
  injection e with e
  injection e with e1 e2
  subst e1; subst e2
  have ea : (⟨b, o, none⟩ : Addr).add j = ⟨b, o + j, none⟩ := by unfold Addr.add; split <;> simp_all
  rw [ea]; exact hc j u hj
/-- the part of a row from a place on, and the part ahead of it -/
theorem SL.fromM {w : World} {g n at_ : Nat} {ys : List Mk} (h : SL eM w (some ⟨g, 0, none⟩) n ys) (ha : at_ < n) : SL eM w (some ⟨g, at_ * 2, none⟩) (n - at_) (ys.drop at_) :=
  ⟨by rw [List.length_drop, h.1], fun hn => by
    obtain ⟨b, o, e, hl, hc⟩ := h.2 (by omega)
    injection e with e
    injection e with e1 e2
    subst e1; subst e2
    refine ⟨_, _, rfl, hl, fun j u hj => ?_⟩
    rw [flatE_drop, List.getElem?_drop] at hj
    have := hc _ u hj
    rwa [Nat.zero_add] at this⟩
theorem SL.toM {w : World} {g n at_ : Nat} {ys : List Mk} (h : SL eM w (some ⟨g, 0, none⟩) n ys) (ha : at_ ≤ n) : SL eM w (some ⟨g, 0, none⟩) at_ (ys.take at_) :=
  ⟨by rw [List.length_take, h.1]; omega, fun hn => by
    obtain ⟨b, o, e, hl, hc⟩ := h.2 (by omega)
    injection e with e
    injection e with e1 e2
    subst e1; subst e2
    refine ⟨_, _, rfl, hl, fun j u hj => hc j u ?_⟩
    rw [flatE_take, List.getElem?_take] at hj
    split at hj
    · exact hj
    · cases hj⟩

set_option maxHeartbeats 8000000 in
set_option maxRecDepth 100000 in
theorem rmarks_any (A : Option Addr) (n c : Nat) (a : List Mk) (A2 : Option Addr) (m c2 : Nat) (b : List Mk) (w : World) (ha : SL eM w A n a) (hb : SL eM w A2 m b) (sa : Srt Mk.key a) (sb : Srt Mk.key b) (va : ∀ x ∈ a, vM x = true) (vb : ∀ x ∈ b, vM x = true) (hn : n ≤ 400) (hm : m ≤ 400) :
    Calls Tryz.prog 32 #[.slice A n c, .slice A2 m c2] w fun e w' => ∃ A' c', e = .returned (.slice A' (uni Mk.key a b).length c') ∧ Ow eM w' w.heap.size A' (uni Mk.key a b).length c' (uni Mk.key a b) ∧ Below w.heap.size w w' := by
  skip
  have SB := hide hb
  have SA := hide sa
  have SBS := hide sb
  have VA := hide va
  have VB := hide vb
  have LA := hide ha.1
  have LB := hide hb.1
  have HAA := hide ha
  have HW := hide (show (w.alloc (.cells #[] 46)).ownsRow w.heap.size 46 2 (.slice (some ⟨w.heap.size, 0, none⟩) 0 0) 0 [] from owns_new w (Nat.le_refl _))
  clear ha hb sa sb va vb
  go_enter Tryz.func32, Tryz.ntmps32
  go_wp2_with (at_builtin; refine wpList_app_lit _ rfl _ _ 40 rfl w.heap.size 46 _ 2 16 Tryz.underlying40 infoM rfl (by decide) w.heap.size rfl HW.out A n c (flatE eM a) rfl (by rw [flatE_len, LA.out]; rfl) (srcM (HAA.out.keep ((Below.refl _ _).alloc (Nat.le_refl _) (.cells #[] 46)))) (flatE_one a) (by decide) (by omega) (by simp) ?_; intro g1 c1 w1 r1 r2)
  have R1 := hide (show Ow eM w1 w.heap.size (some ⟨g1, 0, none⟩) n c1 a from r1)
  have B1 := hide (show Below w.heap.size w w1 from Turn.onto ((Below.refl _ _).alloc (Nat.le_refl _) (.cells #[] 46)) r2 fun k hk => by rw [show k = w.heap.size from hk]; exact Nat.le_refl _)
  clear r1 r2 HW HAA
  obtain rfl := LA.out
  have hbm : b.length = m := LB.out
  go_loopw [5, 6] (fun v iv wr => ∃ (i g c' : Nat), iv = .int .i64 (i : Int) ∧ i ≤ m ∧ v = .slice (some ⟨g, 0, none⟩) (uni Mk.key a (b.take i)).length c' ∧ Hid (Ow eM wr w.heap.size (some ⟨g, 0, none⟩) (uni Mk.key a (b.take i)).length c' (uni Mk.key a (b.take i))) ∧ Hid (Below w.heap.size w wr) ∧ Hid (Agr Mk.key a (b.take i))) (fun _ iv _ => m - (RowKit.intOf iv).toNat)
  case atStart => exact ⟨0, g1, c1, rfl, Nat.zero_le _, rfl, R1, B1, hide fun x hx y hy => by cases hy⟩
  case round =>
    obtain ⟨i, g, c', rfl, hi, rfl, HO, HB, HG⟩ := hrel
    by_cases hlt : i < m
    · obtain ⟨b2, o2, x, rfl, hl2, hx, hcx⟩ := (SB.out.keep HB.out).atM hlt
      have HX := hide hx
      have HCX := hide hcx
      have HVX := hide (VB.out x (List.mem_of_getElem? hx))
      obtain ⟨U, hU⟩ : ∃ U, uni Mk.key a (b.take i) = U := ⟨_, rfl⟩
      have HU := hide hU
      have HSU := hide (show Srt Mk.key U from hU ▸ srt_uni SA.out (srt_take SBS.out i) HG.out)
      have HVU := hide (show ∀ y ∈ U, vM y = true from fun y hy => by
        rw [← hU] at hy
        rcases mem_uni.1 hy with h | h
        · exact VA.out y h
        · exact VB.out y (List.mem_of_mem_take h))
      have hUl : U.length ≤ 800 := by
        rw [← hU]
        refine Nat.le_trans (len_uni _ _) ?_
        rw [List.length_take]
        omega
      rw [hU] at HO ⊢
      obtain ⟨N, hN⟩ : ∃ N, U.length = N := ⟨_, rfl⟩
      have HN := hide hN
      rw [hN] at HO hUl ⊢
      obtain ⟨q, hq⟩ : ∃ q, cnt Mk.key x.key U = q := ⟨_, rfl⟩
      have HQ := hide hq
      have hqN : q ≤ N := by rw [← hq, ← hN]; exact cnt_le _ _
      have d0 : decide ((i : Int) < (m : Int)) = true := decide_eq_true (by omega)
      have a1 : (0 : Int) ≤ (i : Int) := by omega
      have a2 : (i : Int) < (m : Int) := by omega
      clear hx hcx hU hN hq
      obtain ⟨ws, hws⟩ : ∃ x, x = wr := ⟨_, rfl⟩
      subst hws
      go_wp2_with fail
      go_loopw [7] (fun v wq => ∃ at_ : Nat, v = .int .i64 (at_ : Int) ∧ at_ ≤ q ∧ Hid (Gr ws wq)) (fun v _ => q - (RowKit.intOf v).toNat)
      case atStart => exact ⟨0, rfl, Nat.zero_le _, hide (Gr.refl _)⟩
      case round =>
        obtain ⟨at_, rfl, hat, HGr⟩ := hrel
        have a3 : (0 : Int) ≤ (at_ : Int) := by omega
        by_cases hN2 : at_ < N
        · have a4 : (at_ : Int) < (N : Int) := by omega
          obtain ⟨y, hy⟩ : ∃ y, U[at_]? = some y := ⟨_, List.getElem?_eq_getElem (by have := HN.out; omega)⟩
          have HY := hide hy
          have hvy : vM y = true := HVU.out y (List.mem_of_getElem? hy)
          have d1 : decide ((at_ : Int) < (N : Int)) = true := decide_eq_true (by omega)
          have d2 : ((at_ : Int) == (N : Int)) = false := beq_eq_false_iff_ne.2 (by omega)
          have CY : Hid (∀ w', Gr ws w' → CellsM w' g (at_ * 2) y) := fun w' h => cells_toM ((HO.out.keep h.below).sl.cellsM HY.out) (by omega)
          have CX : Hid (∀ w', Gr ws w' → CellsM w' b2 (o2 + i * 2) x) := fun w' h => by
            have ex : ∀ p : Addr, p.block < ws.heap.size → w'.cell? p = ws.cell? p := fun p hp => h.below.cell hp
            have hc := HCX.out
            unfold CellsM at hc ⊢
            rw [ex ⟨b2, o2 + i * 2, none⟩ hl2, ex ⟨b2, o2 + i * 2 + 1, none⟩ hl2]
            exact hc
          have KS : Hid (∀ w', Gr ws w' → w'.cell? ⟨g, at_ * 2, none⟩ = some (.int .i64 y.u) ∧ w'.cell? ⟨g, at_ * 2 + 1, none⟩ = some (.int .i64 y.n) ∧ w'.cell? ⟨b2, o2 + i * 2, none⟩ = some (.int .i64 x.u) ∧ w'.cell? ⟨b2, o2 + i * 2 + 1, none⟩ = some (.int .i64 x.n)) := fun w' h => by
            have h1 := CY.out w' h
            have h2 := CX.out w' h
            exact ⟨h1.1, h1.2, h2.1, h2.2⟩
          have HCQ := hide (show (y.key < x.key → at_ < q) ∧ (¬ y.key < x.key → at_ = q) by
            have h := HSU.out.at_cnt x.key
            rw [HQ.out] at h
            refine ⟨fun h1 => ?_, fun h1 => ?_⟩
            · rcases Nat.lt_or_ge at_ q with h2 | h2
              · exact h2
              · have := h.2 at_ y h2 HY.out; omega
            · rcases Nat.lt_or_ge at_ q with h2 | h2
              · exact absurd (h.1 at_ y h2 HY.out) h1
              · omega)
          clear hy
          obtain ⟨r, hr⟩ : ∃ r, ltM y x = r := ⟨_, rfl⟩
          have HR := hide hr
          have HRK := hide (show r = decide (y.key < x.key) by rw [← hr]; exact ltM_key hvy HVX.out)
          clear hr
          cases r with
          | true =>
            have hq2 : at_ < q := HCQ.out.1 (of_decide_eq_true HRK.out.symm)
            go_wp2_with fail
            go_region_held3 (fun w' => w'.cell? ⟨g, at_ * 2, none⟩ = some (.int .i64 y.u) ∧ w'.cell? ⟨g, at_ * 2 + 1, none⟩ = some (.int .i64 y.n) ∧ w'.cell? ⟨b2, o2 + i * 2, none⟩ = some (.int .i64 x.u) ∧ w'.cell? ⟨b2, o2 + i * 2 + 1, none⟩ = some (.int .i64 x.n))
              (exact KS.out _ (HGr.out.trans (by ((repeat (first | (with_reducible assumption) | (with_reducible exact Gr.refl _) | (with_reducible refine Gr.drew ?_) | (with_reducible refine Gr.alloc ?_ _) | (with_reducible refine Gr.trans ?_ (by assumption)))); (first | done | fail)))))
              (first
              | (go_at_call 61; (with_reducible refine (before_any y x _ _ HR.out).mono ?_); rintro e w1 ⟨rfl, hg⟩))
            all_goals
              go_wp2_with fail
              go_roundw
              case rel => exact ⟨at_ + 1, by go_num, by omega, hide (HGr.out.trans (by ((repeat (first | (with_reducible assumption) | (with_reducible exact Gr.refl _) | (with_reducible refine Gr.drew ?_) | (with_reducible refine Gr.alloc ?_ _) | (with_reducible refine Gr.trans ?_ (by assumption)))); (first | done | fail))))⟩
              case measure => simp [RowKit.intOf]; omega
          | false =>
            have HQ2 := hide (HCQ.out.2 (of_decide_eq_false HRK.out.symm))
            go_wp2_with fail
            go_region_held3 (fun w' => w'.cell? ⟨g, at_ * 2, none⟩ = some (.int .i64 y.u) ∧ w'.cell? ⟨g, at_ * 2 + 1, none⟩ = some (.int .i64 y.n) ∧ w'.cell? ⟨b2, o2 + i * 2, none⟩ = some (.int .i64 x.u) ∧ w'.cell? ⟨b2, o2 + i * 2 + 1, none⟩ = some (.int .i64 x.n))
              (exact KS.out _ (HGr.out.trans (by ((repeat (first | (with_reducible assumption) | (with_reducible exact Gr.refl _) | (with_reducible refine Gr.drew ?_) | (with_reducible refine Gr.alloc ?_ _) | (with_reducible refine Gr.trans ?_ (by assumption)))); (first | done | fail)))))
              (first
              | (go_at_call 61; (with_reducible refine (before_any y x _ _ HR.out).mono ?_); rintro e w1 ⟨rfl, hg⟩))
            all_goals
              have Z := hide (show Gr ws w1 from HGr.out.trans (by ((repeat (first | (with_reducible assumption) | (with_reducible exact Gr.refl _) | (with_reducible refine Gr.drew ?_) | (with_reducible refine Gr.alloc ?_ _) | (with_reducible refine Gr.trans ?_ (by assumption)))); (first | done | fail))))
              by_cases hk : y.key = x.key
              · have HH := hide (uni_hit SA.out SBS.out HG.out HX.out (show y ∈ uni Mk.key a (b.take i) by rw [HU.out]; exact List.mem_of_getElem? HY.out) hk)
                have hyx : y = x := (key_inj hvy HVX.out).1 hk
                have e0 := fun (w : World) => eqM_run y x w true (decide_eq_true hyx)
                obtain ⟨k0, k1⟩ := CY.out w1 Z.out
                obtain ⟨m0, m1⟩ := CX.out w1 Z.out
                have HH := hide (HH.out.1 hyx)
                clear hyx hk
                go_wp2_with fail
                go_region
                all_goals
                  go_wp2_with fail
                  go_roundw
                  case rel => exact ⟨i + 1, g, c', by go_num, by omega, by rw [HH.out.2, HU.out, HN.out], hide (by rw [HH.out.2, HU.out, HN.out]; exact HO.out.keep (Z.out.trans (by ((repeat (first | (with_reducible assumption) | (with_reducible exact Gr.refl _) | (with_reducible refine Gr.drew ?_) | (with_reducible refine Gr.alloc ?_ _) | (with_reducible refine Gr.trans ?_ (by assumption)))); (first | done | fail)))).below), hide (Below.next HB.out (Z.out.trans (by ((repeat (first | (with_reducible assumption) | (with_reducible exact Gr.refl _) | (with_reducible refine Gr.drew ?_) | (with_reducible refine Gr.alloc ?_ _) | (with_reducible refine Gr.trans ?_ (by assumption)))); (first | done | fail)))).below), hide HH.out.1⟩
                  case measure => simp [RowKit.intOf]; omega
              · have HM := hide (uni_miss HG.out HX.out (show ∀ z ∈ uni Mk.key a (b.take i), z.key ≠ x.key by
                  rw [HU.out]
                  intro z hz e
                  obtain ⟨z', hz', e'⟩ := (HSU.out.found x.key).1 ⟨z, hz, e⟩
                  rw [HQ.out, ← HQ2.out, HY.out] at hz'
                  injection hz' with hz'
                  rw [hz'] at hk
                  exact hk e'))
                have e0 := fun (w : World) => eqM_run y x w false (decide_eq_false fun e => hk (by rw [e]))
                obtain ⟨k0, k1⟩ := CY.out w1 Z.out
                obtain ⟨m0, m1⟩ := CX.out w1 Z.out
                clear hk
                go_wp2_with fail
                go_region
                all_goals
                  clear k0 k1 e0
                  have HE := hide (show uni Mk.key a (b.take (i + 1)) = insA U at_ x by rw [HM.out.2, HU.out]; show insA U (cnt Mk.key x.key U) x = _; rw [HQ.out, HQ2.out])
                  have SLX := hide (HO.out.keep Z.out.below).sl
                  have NB := hide (fun (W : World) (h : Below (w1.alloc (.cells #[.int .i64 x.u, .int .i64 x.n] 46)).heap.size (w1.alloc (.cells #[.int .i64 x.u, .int .i64 x.n] 46)) W) => (Turn.of (F := Non) h).owns (own_oneM w1 x) (fun _ _ h => h))
                  have SI := hide (fun (W : World) (h : Below w1.heap.size w1 W) => srcM ((SLX.out.keep h).fromM hN2))
                  have hgw : g < w1.heap.size := Nat.lt_of_lt_of_le (HO.out.blk g ⟨0, none, rfl⟩).2 Z.out.below.size
                  have ST := hide (fun (W : World) (h : Turn (Blk (some ⟨w1.heap.size, 0, none⟩)) w1 W) => rdM ((SLX.out.turn h (fun _ k hk hk' => by rw [blk_some] at hk hk'; omega)).toM (Nat.le_of_lt hN2)) rfl)
                  have LD := hide (show (flatE eM (U.drop at_)).length = (N - at_) * 2 by rw [flatE_len, List.length_drop, HN.out]; rfl)
                  have LT := hide (show (flatE eM (U.take at_)).length = at_ * 2 by rw [flatE_len, List.length_take, HN.out, Nat.min_eq_left (Nat.le_of_lt hN2)]; rfl)
                  have LX := hide (show (eM.enc x ++ flatE eM (U.drop at_)).length = (1 + (N - at_)) * 2 by rw [List.length_append, LD.out, Nat.add_mul]; rfl)
                  have hcl := HO.out.le.1
                  have hcm := HO.out.le.2
                  have b1 : ¬ (c' = at_) := by omega
                  have b2_ : (at_ : Int) ≤ (N : Int) := by omega
                  have b3 : (at_ : Int) ≤ (c' : Int) := by omega
                  have b4 : 1 + (N - at_) ≤ 1000000 := by omega
                  have b5 : at_ + (1 + (N - at_)) ≤ 1000000 := by omega
                  have b6 : at_ < at_ + (1 + (N - at_)) := by omega
                  unfold maxLen at hcm
                  have mixed : Tryz.prog.follows Departure.mixedOrders = true := by kernel_rfl
                  go_wp2_with fail
                  go_region_law (first
                    | (refine step_app_ow rfl _ _ 40 rfl w1.heap.size 46 _ 2 16 Tryz.underlying40 infoM rfl (by decide) (some ⟨w1.heap.size, 0, none⟩) 1 1 (eM.enc x) (by simp [Act.eval]) (NB.out _ (by ((repeat (first | (with_reducible assumption) | (with_reducible exact Below.refl _ _) | (with_reducible refine Below.drewS ?_) | (with_reducible refine Below.allocS ?_ _))); (first | done | fail)))) (some ⟨g, at_ * 2, none⟩) (N - at_) (c' - at_) (flatE eM (U.drop at_)) (by simp [Act.eval]) LD.out (SI.out _ (by ((repeat (first | (with_reducible assumption) | (with_reducible exact Below.refl _ _) | (with_reducible refine Below.drewS ?_) | (with_reducible refine Below.allocS ?_ _))); (first | done | fail)))) (flatE_one _) (by decide) b4 (by simp) ?_; intro A3 c3 w2 r1 r2 r3; obtain ⟨g3, hA3, hg3⟩ := own_some r1 (by omega); subst hA3; have t2 := (Turn.of (F := Blk (some ⟨w1.heap.size, 0, none⟩)) (w := w1) (by ((repeat (first | (with_reducible assumption) | (with_reducible exact Below.refl _ _) | (with_reducible refine Below.drewS ?_) | (with_reducible refine Below.allocS ?_ _))); (first | done | fail)))).trans r2)
                    | (refine step_app_gr rfl _ _ 40 rfl 46 _ 2 16 Tryz.underlying40 infoM rfl (by decide) ⟨g, 0, none⟩ at_ at_ (flatE eM (U.take at_)) (by simp [Act.eval]) LT.out (ST.out _ t2) ⟨g3, 0, none⟩ (1 + (N - at_)) c3 (eM.enc x ++ flatE eM (U.drop at_)) (by simp [Act.eval]) LX.out (own_rd r1 LX.out) b6 b5 ?_; intro c4 w3 r4 r5))
                  all_goals
                    have e2 : at_ + (1 + (N - at_)) = (uni Mk.key a (b.take (i + 1))).length := by rw [HE.out, insA_len x (by have := HN.out; omega), HN.out]; omega
                    have e3 : flatE eM (U.take at_) ++ (eM.enc x ++ flatE eM (U.drop at_)) = flatE eM (uni Mk.key a (b.take (i + 1))) := by rw [HE.out, insA_flat, List.append_assoc]
                    have R4 := hide (show Ow eM w3 w.heap.size (some ⟨w2.heap.size, 0, none⟩) (uni Mk.key a (b.take (i + 1))).length c4 (uni Mk.key a (b.take (i + 1))) from owns_low (by rw [← e3, ← e2]; exact r4) (Nat.le_trans HB.out.size (Nat.le_trans Z.out.below.size t2.size)))
                    have B4 := hide (Below.next (Turn.onto (Below.next HB.out Z.out.below) t2 fun k hk => by rw [blk_some] at hk; have := HB.out.size; have := Z.out.below.size; omega) r5)
                    have E2 := hide e2
                    clear r1 r2 r3 r4 r5 t2 e2 e3 SLX NB SI ST b1 b2_ b3 b4 b5 b6 hcl hcm hgw
                    go_wp2_with fail
                    go_roundw
                    case rel => exact ⟨i + 1, w2.heap.size, c4, by go_num, by omega, by rw [← E2.out], R4, B4, hide HM.out.1⟩
                    case measure => simp [RowKit.intOf]; omega
        · have HQ2 := hide (show at_ = q by omega)
          have HNQ := hide (show at_ = N by omega)
          have d1 : decide ((at_ : Int) < (N : Int)) = false := decide_eq_false (by omega)
          have d2 : ((at_ : Int) == (N : Int)) = true := beq_iff_eq.2 (by omega)
          have HM := hide (uni_miss HG.out HX.out (show ∀ z ∈ uni Mk.key a (b.take i), z.key ≠ x.key by
            rw [HU.out]
            intro z hz e
            obtain ⟨z', hz', e'⟩ := (HSU.out.found x.key).1 ⟨z, hz, e⟩
            rw [HQ.out, ← HQ2.out] at hz'
            have := (List.getElem?_eq_some_iff.1 hz').1
            have := HN.out
            omega))
          have Z := hide HGr.out
          have CX : Hid (∀ w', Gr ws w' → CellsM w' b2 (o2 + i * 2) x) := fun w' h => by
            have ex : ∀ p : Addr, p.block < ws.heap.size → w'.cell? p = ws.cell? p := fun p hp => h.below.cell hp
            have hc := HCX.out
            unfold CellsM at hc ⊢
            rw [ex ⟨b2, o2 + i * 2, none⟩ hl2, ex ⟨b2, o2 + i * 2 + 1, none⟩ hl2]
            exact hc
          obtain ⟨m0, m1⟩ := CX.out wr Z.out
          go_wp2_with fail
          go_region
          all_goals
            go_wp2_with fail
            go_region
            all_goals
              by_cases hcc : c' = at_
              · have HE := hide (show uni Mk.key a (b.take (i + 1)) = insA U at_ x by rw [HM.out.2, HU.out]; show insA U (cnt Mk.key x.key U) x = _; rw [HQ.out, HQ2.out])
                have SLX := hide (HO.out.keep Z.out.below).sl
                have NB := hide (fun (W : World) (h : Below (wr.alloc (.cells #[.int .i64 x.u, .int .i64 x.n] 46)).heap.size (wr.alloc (.cells #[.int .i64 x.u, .int .i64 x.n] 46)) W) => (Turn.of (F := Non) h).owns (own_oneM wr x) (fun _ _ h => h))
                skip
                have hgw : g < wr.heap.size := Nat.lt_of_lt_of_le (HO.out.blk g ⟨0, none, rfl⟩).2 Z.out.below.size
                have ST := hide (fun (W : World) (h : Turn (Blk (some ⟨wr.heap.size, 0, none⟩)) wr W) => rdM ((SLX.out.turn h (fun _ k hk hk' => by rw [blk_some] at hk hk'; omega)).toM (Nat.le_of_eq HNQ.out)) rfl)
                have LD := hide (show (flatE eM (U.drop at_)).length = (0) * 2 by rw [flatE_len, List.length_drop, HN.out, HNQ.out, Nat.sub_self]; rfl)
                have LT := hide (show (flatE eM (U.take at_)).length = at_ * 2 by rw [flatE_len, List.length_take, HN.out, Nat.min_eq_left (Nat.le_of_eq HNQ.out)]; rfl)
                have LX := hide (show (eM.enc x ++ flatE eM (U.drop at_)).length = (1 + (0)) * 2 by rw [List.length_append, LD.out, Nat.add_mul]; rfl)
                have hcl := HO.out.le.1
                have hcm := HO.out.le.2
                have b1 := hcc
                have b2_ : (at_ : Int) ≤ (N : Int) := by omega
                have b3 : (at_ : Int) ≤ (c' : Int) := by omega
                have b7 : N - at_ = 0 := by have := HNQ.out; omega
                have b4 : 1 + (0) ≤ 1000000 := by omega
                have b5 : at_ + (1 + (0)) ≤ 1000000 := by omega
                have b6 : at_ < at_ + (1 + (0)) := by omega
                unfold maxLen at hcm
                have mixed : Tryz.prog.follows Departure.mixedOrders = true := by kernel_rfl
                go_wp2_with fail
                go_region_law (first
                  | (refine step_app_ow rfl _ _ 40 rfl wr.heap.size 46 _ 2 16 Tryz.underlying40 infoM rfl (by decide) (some ⟨wr.heap.size, 0, none⟩) 1 1 (eM.enc x) (by simp [Act.eval]) (NB.out _ (by ((repeat (first | (with_reducible assumption) | (with_reducible exact Below.refl _ _) | (with_reducible refine Below.drewS ?_) | (with_reducible refine Below.allocS ?_ _))); (first | done | fail)))) (some ⟨g, 0, none⟩) (0) (c' - at_) (flatE eM (U.drop at_)) (by simp [Act.eval, hcc]) LD.out (fun h => absurd h (by decide)) (flatE_one _) (by decide) b4 (by simp) ?_; intro A3 c3 w2 r1 r2 r3; obtain ⟨g3, hA3, hg3⟩ := own_some r1 (by omega); subst hA3; have t2 := (Turn.of (F := Blk (some ⟨wr.heap.size, 0, none⟩)) (w := wr) (by ((repeat (first | (with_reducible assumption) | (with_reducible exact Below.refl _ _) | (with_reducible refine Below.drewS ?_) | (with_reducible refine Below.allocS ?_ _))); (first | done | fail)))).trans r2)
                  | (refine step_app_gr rfl _ _ 40 rfl 46 _ 2 16 Tryz.underlying40 infoM rfl (by decide) ⟨g, 0, none⟩ at_ at_ (flatE eM (U.take at_)) (by simp [Act.eval]) LT.out (ST.out _ t2) ⟨g3, 0, none⟩ (1 + (0)) c3 (eM.enc x ++ flatE eM (U.drop at_)) (by simp [Act.eval]) LX.out (own_rd r1 LX.out) b6 b5 ?_; intro c4 w3 r4 r5))
                all_goals
                  have e2 : at_ + (1 + (0)) = (uni Mk.key a (b.take (i + 1))).length := by rw [HE.out, insA_len x (by have := HN.out; omega), HN.out]; have := HNQ.out; omega
                  have e3 : flatE eM (U.take at_) ++ (eM.enc x ++ flatE eM (U.drop at_)) = flatE eM (uni Mk.key a (b.take (i + 1))) := by rw [HE.out, insA_flat, List.append_assoc]
                  have R4 := hide (show Ow eM w3 w.heap.size (some ⟨w2.heap.size, 0, none⟩) (uni Mk.key a (b.take (i + 1))).length c4 (uni Mk.key a (b.take (i + 1))) from owns_low (by rw [← e3, ← e2]; exact r4) (Nat.le_trans HB.out.size (Nat.le_trans Z.out.below.size t2.size)))
                  have B4 := hide (Below.next (Turn.onto (Below.next HB.out Z.out.below) t2 fun k hk => by rw [blk_some] at hk; have := HB.out.size; have := Z.out.below.size; omega) r5)
                  have E2 := hide e2
                  clear r1 r2 r3 r4 r5 t2 e2 e3 SLX NB ST b1 b2_ b3 b4 b5 b6 hcl hcm hgw
                  go_wp2_with fail
                  go_roundw
                  case rel => exact ⟨i + 1, w2.heap.size, c4, by go_num, by omega, by rw [← E2.out], R4, B4, hide HM.out.1⟩
                  case measure => simp [RowKit.intOf]; omega
              · have HE := hide (show uni Mk.key a (b.take (i + 1)) = insA U at_ x by rw [HM.out.2, HU.out]; show insA U (cnt Mk.key x.key U) x = _; rw [HQ.out, HQ2.out])
                have SLX := hide (HO.out.keep Z.out.below).sl
                have NB := hide (fun (W : World) (h : Below (wr.alloc (.cells #[.int .i64 x.u, .int .i64 x.n] 46)).heap.size (wr.alloc (.cells #[.int .i64 x.u, .int .i64 x.n] 46)) W) => (Turn.of (F := Non) h).owns (own_oneM wr x) (fun _ _ h => h))
                skip
                have hgw : g < wr.heap.size := Nat.lt_of_lt_of_le (HO.out.blk g ⟨0, none, rfl⟩).2 Z.out.below.size
                have ST := hide (fun (W : World) (h : Turn (Blk (some ⟨wr.heap.size, 0, none⟩)) wr W) => rdM ((SLX.out.turn h (fun _ k hk hk' => by rw [blk_some] at hk hk'; omega)).toM (Nat.le_of_eq HNQ.out)) rfl)
                have LD := hide (show (flatE eM (U.drop at_)).length = (0) * 2 by rw [flatE_len, List.length_drop, HN.out, HNQ.out, Nat.sub_self]; rfl)
                have LT := hide (show (flatE eM (U.take at_)).length = at_ * 2 by rw [flatE_len, List.length_take, HN.out, Nat.min_eq_left (Nat.le_of_eq HNQ.out)]; rfl)
                have LX := hide (show (eM.enc x ++ flatE eM (U.drop at_)).length = (1 + (0)) * 2 by rw [List.length_append, LD.out, Nat.add_mul]; rfl)
                have hcl := HO.out.le.1
                have hcm := HO.out.le.2
                have b1 := hcc
                have b2_ : (at_ : Int) ≤ (N : Int) := by omega
                have b3 : (at_ : Int) ≤ (c' : Int) := by omega
                have b7 : N - at_ = 0 := by have := HNQ.out; omega
                have b4 : 1 + (0) ≤ 1000000 := by omega
                have b5 : at_ + (1 + (0)) ≤ 1000000 := by omega
                have b6 : at_ < at_ + (1 + (0)) := by omega
                unfold maxLen at hcm
                have mixed : Tryz.prog.follows Departure.mixedOrders = true := by kernel_rfl
                go_wp2_with fail
                go_region_law (first
                  | (refine step_app_ow rfl _ _ 40 rfl wr.heap.size 46 _ 2 16 Tryz.underlying40 infoM rfl (by decide) (some ⟨wr.heap.size, 0, none⟩) 1 1 (eM.enc x) (by simp [Act.eval]) (NB.out _ (by ((repeat (first | (with_reducible assumption) | (with_reducible exact Below.refl _ _) | (with_reducible refine Below.drewS ?_) | (with_reducible refine Below.allocS ?_ _))); (first | done | fail)))) (some ⟨g, at_ * 2, none⟩) (0) (c' - at_) (flatE eM (U.drop at_)) (by simp [Act.eval]) LD.out (fun h => absurd h (by decide)) (flatE_one _) (by decide) b4 (by simp) ?_; intro A3 c3 w2 r1 r2 r3; obtain ⟨g3, hA3, hg3⟩ := own_some r1 (by omega); subst hA3; have t2 := (Turn.of (F := Blk (some ⟨wr.heap.size, 0, none⟩)) (w := wr) (by ((repeat (first | (with_reducible assumption) | (with_reducible exact Below.refl _ _) | (with_reducible refine Below.drewS ?_) | (with_reducible refine Below.allocS ?_ _))); (first | done | fail)))).trans r2)
                  | (refine step_app_gr rfl _ _ 40 rfl 46 _ 2 16 Tryz.underlying40 infoM rfl (by decide) ⟨g, 0, none⟩ at_ at_ (flatE eM (U.take at_)) (by simp [Act.eval]) LT.out (ST.out _ t2) ⟨g3, 0, none⟩ (1 + (0)) c3 (eM.enc x ++ flatE eM (U.drop at_)) (by simp [Act.eval]) LX.out (own_rd r1 LX.out) b6 b5 ?_; intro c4 w3 r4 r5))
                all_goals
                  have e2 : at_ + (1 + (0)) = (uni Mk.key a (b.take (i + 1))).length := by rw [HE.out, insA_len x (by have := HN.out; omega), HN.out]; have := HNQ.out; omega
                  have e3 : flatE eM (U.take at_) ++ (eM.enc x ++ flatE eM (U.drop at_)) = flatE eM (uni Mk.key a (b.take (i + 1))) := by rw [HE.out, insA_flat, List.append_assoc]
                  have R4 := hide (show Ow eM w3 w.heap.size (some ⟨w2.heap.size, 0, none⟩) (uni Mk.key a (b.take (i + 1))).length c4 (uni Mk.key a (b.take (i + 1))) from owns_low (by rw [← e3, ← e2]; exact r4) (Nat.le_trans HB.out.size (Nat.le_trans Z.out.below.size t2.size)))
                  have B4 := hide (Below.next (Turn.onto (Below.next HB.out Z.out.below) t2 fun k hk => by rw [blk_some] at hk; have := HB.out.size; have := Z.out.below.size; omega) r5)
                  have E2 := hide e2
                  clear r1 r2 r3 r4 r5 t2 e2 e3 SLX NB ST b1 b2_ b3 b4 b5 b6 hcl hcm hgw
                  go_wp2_with fail
                  go_roundw
                  case rel => exact ⟨i + 1, w2.heap.size, c4, by go_num, by omega, by rw [← E2.out], R4, B4, hide HM.out.1⟩
                  case measure => simp [RowKit.intOf]; omega
    · obtain rfl : i = m := by omega
      have d0 : decide ((i : Int) < (i : Int)) = false := decide_eq_false (by omega)
      have hbt : b.take i = b := List.take_of_length_le (by omega)
      rw [hbt] at HO HG ⊢
      go_wp2_with fail
      go_ret
      exact ⟨_, _, rfl, HO.out, HB.out⟩

theorem own_oneD (w : World) (x : Dec) : (w.alloc (.cells #[.int .i64 x.u, .int .i64 x.n, .int .i64 x.k, .int .i64 x.a, .int .i64 x.b] 44)).ownsRow w.heap.size 44 5 (.slice (some ⟨w.heap.size, 0, none⟩) 1 1) 1 (eD.enc x) :=
  ⟨rfl, .inr ⟨w.heap.size, 1, #[.int .i64 x.u, .int .i64 x.n, .int .i64 x.k, .int .i64 x.a, .int .i64 x.b], rfl, Nat.le_refl _, heap_alloc_new w _, Nat.le_refl _, by simp [maxLen], rfl, rfl⟩⟩
theorem rdD {w : World} {A : Option Addr} {n : Nat} {ys : List Dec} (h : SL eD w A n ys) {b o : Nat} (hA : A = some ⟨b, o, none⟩) : ∀ j u, (flatE eD ys)[j]? = some u → w.cell? ((⟨b, o, none⟩ : Addr).add j) = some u := fun j u hj => by
  have hn : 0 < n := by
    rcases Nat.eq_zero_or_pos n with h0 | h0
    · subst h0
      obtain rfl := h.zero_
      simp [flatE_nil] at hj
    · exact h0
  obtain ⟨b', o', e, hl, hc⟩ := h.2 hn
  rw [hA] at e
  injection e with e
  injection e with e1 e2
  subst e1; subst e2
  have ea : (⟨b, o, none⟩ : Addr).add j = ⟨b, o + j, none⟩ := by unfold Addr.add; split <;> simp_all
  rw [ea]; exact hc j u hj
/-- the part of a row from a place on, and the part ahead of it -/
theorem SL.fromD {w : World} {g n at_ : Nat} {ys : List Dec} (h : SL eD w (some ⟨g, 0, none⟩) n ys) (ha : at_ < n) : SL eD w (some ⟨g, at_ * 5, none⟩) (n - at_) (ys.drop at_) :=
  ⟨by rw [List.length_drop, h.1], fun hn => by
    obtain ⟨b, o, e, hl, hc⟩ := h.2 (by omega)
    injection e with e
    injection e with e1 e2
    subst e1; subst e2
    refine ⟨_, _, rfl, hl, fun j u hj => ?_⟩
    rw [flatE_drop, List.getElem?_drop] at hj
    have := hc _ u hj
    rwa [Nat.zero_add] at this⟩
theorem SL.toD {w : World} {g n at_ : Nat} {ys : List Dec} (h : SL eD w (some ⟨g, 0, none⟩) n ys) (ha : at_ ≤ n) : SL eD w (some ⟨g, 0, none⟩) at_ (ys.take at_) :=
  ⟨by rw [List.length_take, h.1]; omega, fun hn => by
    obtain ⟨b, o, e, hl, hc⟩ := h.2 (by omega)
    injection e with e
    injection e with e1 e2
    subst e1; subst e2
    refine ⟨_, _, rfl, hl, fun j u hj => hc j u ?_⟩
    rw [flatE_take, List.getElem?_take] at hj
    split at hj
    · exact hj
    · cases hj⟩

set_option maxHeartbeats 8000000 in
set_option maxRecDepth 100000 in
theorem rdecs_any (A : Option Addr) (n c : Nat) (a : List Dec) (A2 : Option Addr) (m c2 : Nat) (b : List Dec) (w : World) (ha : SL eD w A n a) (hb : SL eD w A2 m b) (sa : Srt Dec.key a) (sb : Srt Dec.key b) (va : ∀ x ∈ a, vD x = true) (vb : ∀ x ∈ b, vD x = true) (hn : n ≤ 400) (hm : m ≤ 400) (hg : Agr Dec.key a b) :
    Calls Tryz.prog 31 #[.slice A n c, .slice A2 m c2] w fun e w' => ∃ A' c', e = .returned (.tuple #[.slice A' (uni Dec.key a b).length c', .bool true]) ∧ Ow eD w' w.heap.size A' (uni Dec.key a b).length c' (uni Dec.key a b) ∧ Below w.heap.size w w' := by
  have HYPG := hide hg
  have SB := hide hb
  have SA := hide sa
  have SBS := hide sb
  have VA := hide va
  have VB := hide vb
  have LA := hide ha.1
  have LB := hide hb.1
  have HAA := hide ha
  have HW := hide (show (w.alloc (.cells #[] 44)).ownsRow w.heap.size 44 5 (.slice (some ⟨w.heap.size, 0, none⟩) 0 0) 0 [] from owns_new w (Nat.le_refl _))
  clear ha hb sa sb va vb hg
  go_enter Tryz.func31, Tryz.ntmps31
  go_wp2_with (at_builtin; refine wpList_app_lit _ rfl _ _ 38 rfl w.heap.size 44 _ 5 40 Tryz.underlying38 infoD rfl (by decide) w.heap.size rfl HW.out A n c (flatE eD a) rfl (by rw [flatE_len, LA.out]; rfl) (srcD (HAA.out.keep ((Below.refl _ _).alloc (Nat.le_refl _) (.cells #[] 44)))) (flatE_one a) (by decide) (by omega) (by simp) ?_; intro g1 c1 w1 r1 r2)
  have R1 := hide (show Ow eD w1 w.heap.size (some ⟨g1, 0, none⟩) n c1 a from r1)
  have B1 := hide (show Below w.heap.size w w1 from Turn.onto ((Below.refl _ _).alloc (Nat.le_refl _) (.cells #[] 44)) r2 fun k hk => by rw [show k = w.heap.size from hk]; exact Nat.le_refl _)
  clear r1 r2 HW HAA
  obtain rfl := LA.out
  have hbm : b.length = m := LB.out
  go_loopw [6, 7] (fun v iv wr => ∃ (i g c' : Nat), iv = .int .i64 (i : Int) ∧ i ≤ m ∧ v = .slice (some ⟨g, 0, none⟩) (uni Dec.key a (b.take i)).length c' ∧ Hid (Ow eD wr w.heap.size (some ⟨g, 0, none⟩) (uni Dec.key a (b.take i)).length c' (uni Dec.key a (b.take i))) ∧ Hid (Below w.heap.size w wr) ∧ Hid (Agr Dec.key a (b.take i))) (fun _ iv _ => m - (RowKit.intOf iv).toNat)
  case atStart => exact ⟨0, g1, c1, rfl, Nat.zero_le _, rfl, R1, B1, hide fun x hx y hy => by cases hy⟩
  case round =>
    obtain ⟨i, g, c', rfl, hi, rfl, HO, HB, HG⟩ := hrel
    by_cases hlt : i < m
    · obtain ⟨b2, o2, x, rfl, hl2, hx, hcx⟩ := (SB.out.keep HB.out).atD hlt
      have HX := hide hx
      have HCX := hide hcx
      have HVX := hide (VB.out x (List.mem_of_getElem? hx))
      obtain ⟨U, hU⟩ : ∃ U, uni Dec.key a (b.take i) = U := ⟨_, rfl⟩
      have HU := hide hU
      have HSU := hide (show Srt Dec.key U from hU ▸ srt_uni SA.out (srt_take SBS.out i) HG.out)
      have HVU := hide (show ∀ y ∈ U, vD y = true from fun y hy => by
        rw [← hU] at hy
        rcases mem_uni.1 hy with h | h
        · exact VA.out y h
        · exact VB.out y (List.mem_of_mem_take h))
      have hUl : U.length ≤ 800 := by
        rw [← hU]
        refine Nat.le_trans (len_uni _ _) ?_
        rw [List.length_take]
        omega
      rw [hU] at HO ⊢
      obtain ⟨N, hN⟩ : ∃ N, U.length = N := ⟨_, rfl⟩
      have HN := hide hN
      rw [hN] at HO hUl ⊢
      obtain ⟨q, hq⟩ : ∃ q, cnt Dec.key x.key U = q := ⟨_, rfl⟩
      have HQ := hide hq
      have hqN : q ≤ N := by rw [← hq, ← hN]; exact cnt_le _ _
      have d0 : decide ((i : Int) < (m : Int)) = true := decide_eq_true (by omega)
      have a1 : (0 : Int) ≤ (i : Int) := by omega
      have a2 : (i : Int) < (m : Int) := by omega
      clear hx hcx hU hN hq
      obtain ⟨ws, hws⟩ : ∃ x, x = wr := ⟨_, rfl⟩
      subst hws
      go_wp2_with fail
      go_loopw [8] (fun v wq => ∃ at_ : Nat, v = .int .i64 (at_ : Int) ∧ at_ ≤ q ∧ Hid (Gr ws wq)) (fun v _ => q - (RowKit.intOf v).toNat)
      case atStart => exact ⟨0, rfl, Nat.zero_le _, hide (Gr.refl _)⟩
      case round =>
        obtain ⟨at_, rfl, hat, HGr⟩ := hrel
        have a3 : (0 : Int) ≤ (at_ : Int) := by omega
        by_cases hN2 : at_ < N
        · have a4 : (at_ : Int) < (N : Int) := by omega
          obtain ⟨y, hy⟩ : ∃ y, U[at_]? = some y := ⟨_, List.getElem?_eq_getElem (by have := HN.out; omega)⟩
          have HY := hide hy
          have hvy : vD y = true := HVU.out y (List.mem_of_getElem? hy)
          have d1 : decide ((at_ : Int) < (N : Int)) = true := decide_eq_true (by omega)
          have d2 : ((at_ : Int) == (N : Int)) = false := beq_eq_false_iff_ne.2 (by omega)
          have CY : Hid (∀ w', Gr ws w' → CellsD w' g (at_ * 5) y) := fun w' h => cells_toD ((HO.out.keep h.below).sl.cellsD HY.out) (by omega)
          have CX : Hid (∀ w', Gr ws w' → CellsD w' b2 (o2 + i * 5) x) := fun w' h => by
            have ex : ∀ p : Addr, p.block < ws.heap.size → w'.cell? p = ws.cell? p := fun p hp => h.below.cell hp
            have hc := HCX.out
            unfold CellsD at hc ⊢
            rw [ex ⟨b2, o2 + i * 5, none⟩ hl2, ex ⟨b2, o2 + i * 5 + 1, none⟩ hl2, ex ⟨b2, o2 + i * 5 + 2, none⟩ hl2, ex ⟨b2, o2 + i * 5 + 3, none⟩ hl2, ex ⟨b2, o2 + i * 5 + 4, none⟩ hl2]
            exact hc
          have KS : Hid (∀ w', Gr ws w' → w'.cell? ⟨g, at_ * 5, none⟩ = some (.int .i64 y.u) ∧ w'.cell? ⟨g, at_ * 5 + 1, none⟩ = some (.int .i64 y.n) ∧ w'.cell? ⟨g, at_ * 5 + 2, none⟩ = some (.int .i64 y.k) ∧ w'.cell? ⟨g, at_ * 5 + 3, none⟩ = some (.int .i64 y.a) ∧ w'.cell? ⟨g, at_ * 5 + 4, none⟩ = some (.int .i64 y.b) ∧ w'.cell? ⟨b2, o2 + i * 5, none⟩ = some (.int .i64 x.u) ∧ w'.cell? ⟨b2, o2 + i * 5 + 1, none⟩ = some (.int .i64 x.n) ∧ w'.cell? ⟨b2, o2 + i * 5 + 2, none⟩ = some (.int .i64 x.k) ∧ w'.cell? ⟨b2, o2 + i * 5 + 3, none⟩ = some (.int .i64 x.a) ∧ w'.cell? ⟨b2, o2 + i * 5 + 4, none⟩ = some (.int .i64 x.b)) := fun w' h => by
            have h1 := CY.out w' h
            have h2 := CX.out w' h
            exact ⟨h1.1, h1.2.1, h1.2.2.1, h1.2.2.2.1, h1.2.2.2.2, h2.1, h2.2.1, h2.2.2.1, h2.2.2.2.1, h2.2.2.2.2⟩
          have HCQ := hide (show (y.key < x.key → at_ < q) ∧ (¬ y.key < x.key → at_ = q) by
            have h := HSU.out.at_cnt x.key
            rw [HQ.out] at h
            refine ⟨fun h1 => ?_, fun h1 => ?_⟩
            · rcases Nat.lt_or_ge at_ q with h2 | h2
              · exact h2
              · have := h.2 at_ y h2 HY.out; omega
            · rcases Nat.lt_or_ge at_ q with h2 | h2
              · exact absurd (h.1 at_ y h2 HY.out) h1
              · omega)
          clear hy
          obtain ⟨r, hr⟩ : ∃ r, ltM y.mk_ x.mk_ = r := ⟨_, rfl⟩
          have HR := hide hr
          have HRK := hide (show r = decide (y.key < x.key) by rw [← hr]; exact ltM_key (vD_vM hvy) (vD_vM HVX.out))
          clear hr
          cases r with
          | true =>
            have hq2 : at_ < q := HCQ.out.1 (of_decide_eq_true HRK.out.symm)
            go_wp2_with fail
            go_region_held3 (fun w' => w'.cell? ⟨g, at_ * 5, none⟩ = some (.int .i64 y.u) ∧ w'.cell? ⟨g, at_ * 5 + 1, none⟩ = some (.int .i64 y.n) ∧ w'.cell? ⟨g, at_ * 5 + 2, none⟩ = some (.int .i64 y.k) ∧ w'.cell? ⟨g, at_ * 5 + 3, none⟩ = some (.int .i64 y.a) ∧ w'.cell? ⟨g, at_ * 5 + 4, none⟩ = some (.int .i64 y.b) ∧ w'.cell? ⟨b2, o2 + i * 5, none⟩ = some (.int .i64 x.u) ∧ w'.cell? ⟨b2, o2 + i * 5 + 1, none⟩ = some (.int .i64 x.n) ∧ w'.cell? ⟨b2, o2 + i * 5 + 2, none⟩ = some (.int .i64 x.k) ∧ w'.cell? ⟨b2, o2 + i * 5 + 3, none⟩ = some (.int .i64 x.a) ∧ w'.cell? ⟨b2, o2 + i * 5 + 4, none⟩ = some (.int .i64 x.b))
              (exact KS.out _ (HGr.out.trans (by ((repeat (first | (with_reducible assumption) | (with_reducible exact Gr.refl _) | (with_reducible refine Gr.drew ?_) | (with_reducible refine Gr.alloc ?_ _) | (with_reducible refine Gr.trans ?_ (by assumption)))); (first | done | fail)))))
              (first
              | (go_at_call_of 62 (Value.agg #[.int .i64 y.u, .int .i64 y.n, .int .i64 y.k, .int .i64 y.a, .int .i64 y.b]); (with_reducible refine (rmark_any y _).mono ?_); rintro e w1 ⟨rfl, hg⟩)
              | (go_at_call_of 62 (Value.agg #[.int .i64 x.u, .int .i64 x.n, .int .i64 x.k, .int .i64 x.a, .int .i64 x.b]); (with_reducible refine (rmark_any x _).mono ?_); rintro e w1 ⟨rfl, hg⟩)
              | (go_at_call 61; (with_reducible refine (before_any y.mk_ x.mk_ _ _ HR.out).mono ?_); rintro e w1 ⟨rfl, hg⟩))
            all_goals
              go_wp2_with fail
              go_roundw
              case rel => exact ⟨at_ + 1, by go_num, by omega, hide (HGr.out.trans (by ((repeat (first | (with_reducible assumption) | (with_reducible exact Gr.refl _) | (with_reducible refine Gr.drew ?_) | (with_reducible refine Gr.alloc ?_ _) | (with_reducible refine Gr.trans ?_ (by assumption)))); (first | done | fail))))⟩
              case measure => simp [RowKit.intOf]; omega
          | false =>
            have HQ2 := hide (HCQ.out.2 (of_decide_eq_false HRK.out.symm))
            go_wp2_with fail
            go_region_held3 (fun w' => w'.cell? ⟨g, at_ * 5, none⟩ = some (.int .i64 y.u) ∧ w'.cell? ⟨g, at_ * 5 + 1, none⟩ = some (.int .i64 y.n) ∧ w'.cell? ⟨g, at_ * 5 + 2, none⟩ = some (.int .i64 y.k) ∧ w'.cell? ⟨g, at_ * 5 + 3, none⟩ = some (.int .i64 y.a) ∧ w'.cell? ⟨g, at_ * 5 + 4, none⟩ = some (.int .i64 y.b) ∧ w'.cell? ⟨b2, o2 + i * 5, none⟩ = some (.int .i64 x.u) ∧ w'.cell? ⟨b2, o2 + i * 5 + 1, none⟩ = some (.int .i64 x.n) ∧ w'.cell? ⟨b2, o2 + i * 5 + 2, none⟩ = some (.int .i64 x.k) ∧ w'.cell? ⟨b2, o2 + i * 5 + 3, none⟩ = some (.int .i64 x.a) ∧ w'.cell? ⟨b2, o2 + i * 5 + 4, none⟩ = some (.int .i64 x.b))
              (exact KS.out _ (HGr.out.trans (by ((repeat (first | (with_reducible assumption) | (with_reducible exact Gr.refl _) | (with_reducible refine Gr.drew ?_) | (with_reducible refine Gr.alloc ?_ _) | (with_reducible refine Gr.trans ?_ (by assumption)))); (first | done | fail)))))
              (first
              | (go_at_call_of 62 (Value.agg #[.int .i64 y.u, .int .i64 y.n, .int .i64 y.k, .int .i64 y.a, .int .i64 y.b]); (with_reducible refine (rmark_any y _).mono ?_); rintro e w1 ⟨rfl, hg⟩)
              | (go_at_call_of 62 (Value.agg #[.int .i64 x.u, .int .i64 x.n, .int .i64 x.k, .int .i64 x.a, .int .i64 x.b]); (with_reducible refine (rmark_any x _).mono ?_); rintro e w1 ⟨rfl, hg⟩)
              | (go_at_call 61; (with_reducible refine (before_any y.mk_ x.mk_ _ _ HR.out).mono ?_); rintro e w1 ⟨rfl, hg⟩))
            all_goals
              have Z := hide (show Gr ws w1 from HGr.out.trans (by ((repeat (first | (with_reducible assumption) | (with_reducible exact Gr.refl _) | (with_reducible refine Gr.drew ?_) | (with_reducible refine Gr.alloc ?_ _) | (with_reducible refine Gr.trans ?_ (by assumption)))); (first | done | fail))))
              by_cases hk : y.key = x.key
              · have HH := hide (uni_hit SA.out SBS.out HG.out HX.out (show y ∈ uni Dec.key a (b.take i) by rw [HU.out]; exact List.mem_of_getElem? HY.out) hk)
                obtain ⟨r2_, hr2⟩ : ∃ r2_, decide (y = x) = r2_ := ⟨_, rfl⟩
                have hmk : y.mk_ = x.mk_ := (dkey_inj hvy HVX.out).1 hk
                have e0 := fun (w : World) => eqM_run y.mk_ x.mk_ w true (decide_eq_true hmk)
                have HR2 := hide hr2
                have Z0 := Z
                have KS2 : Hid (∀ w', Gr w1 w' → w'.cell? ⟨g, at_ * 5, none⟩ = some (.int .i64 y.u) ∧ w'.cell? ⟨g, at_ * 5 + 1, none⟩ = some (.int .i64 y.n) ∧ w'.cell? ⟨g, at_ * 5 + 2, none⟩ = some (.int .i64 y.k) ∧ w'.cell? ⟨g, at_ * 5 + 3, none⟩ = some (.int .i64 y.a) ∧ w'.cell? ⟨g, at_ * 5 + 4, none⟩ = some (.int .i64 y.b) ∧ w'.cell? ⟨b2, o2 + i * 5, none⟩ = some (.int .i64 x.u) ∧ w'.cell? ⟨b2, o2 + i * 5 + 1, none⟩ = some (.int .i64 x.n) ∧ w'.cell? ⟨b2, o2 + i * 5 + 2, none⟩ = some (.int .i64 x.k) ∧ w'.cell? ⟨b2, o2 + i * 5 + 3, none⟩ = some (.int .i64 x.a) ∧ w'.cell? ⟨b2, o2 + i * 5 + 4, none⟩ = some (.int .i64 x.b)) := fun w' h => KS.out w' (Z0.out.trans h)
                clear hmk hk hr2
                go_wp2_with fail
                go_region_held3 (fun w' => w'.cell? ⟨g, at_ * 5, none⟩ = some (.int .i64 y.u) ∧ w'.cell? ⟨g, at_ * 5 + 1, none⟩ = some (.int .i64 y.n) ∧ w'.cell? ⟨g, at_ * 5 + 2, none⟩ = some (.int .i64 y.k) ∧ w'.cell? ⟨g, at_ * 5 + 3, none⟩ = some (.int .i64 y.a) ∧ w'.cell? ⟨g, at_ * 5 + 4, none⟩ = some (.int .i64 y.b) ∧ w'.cell? ⟨b2, o2 + i * 5, none⟩ = some (.int .i64 x.u) ∧ w'.cell? ⟨b2, o2 + i * 5 + 1, none⟩ = some (.int .i64 x.n) ∧ w'.cell? ⟨b2, o2 + i * 5 + 2, none⟩ = some (.int .i64 x.k) ∧ w'.cell? ⟨b2, o2 + i * 5 + 3, none⟩ = some (.int .i64 x.a) ∧ w'.cell? ⟨b2, o2 + i * 5 + 4, none⟩ = some (.int .i64 x.b))
                  (exact KS.out _ (HGr.out.trans (by ((repeat (first | (with_reducible assumption) | (with_reducible exact Gr.refl _) | (with_reducible refine Gr.drew ?_) | (with_reducible refine Gr.alloc ?_ _) | (with_reducible refine Gr.trans ?_ (by assumption)))); (first | done | fail)))))
                  (first
              | (go_at_call_of 62 (Value.agg #[.int .i64 y.u, .int .i64 y.n, .int .i64 y.k, .int .i64 y.a, .int .i64 y.b]); (with_reducible refine (rmark_any y _).mono ?_); rintro e w1 ⟨rfl, hg⟩)
              | (go_at_call_of 62 (Value.agg #[.int .i64 x.u, .int .i64 x.n, .int .i64 x.k, .int .i64 x.a, .int .i64 x.b]); (with_reducible refine (rmark_any x _).mono ?_); rintro e w1 ⟨rfl, hg⟩))
                all_goals
                  have Z := hide (show Gr ws w1 from HGr.out.trans (by ((repeat (first | (with_reducible assumption) | (with_reducible exact Gr.refl _) | (with_reducible refine Gr.drew ?_) | (with_reducible refine Gr.alloc ?_ _) | (with_reducible refine Gr.trans ?_ (by assumption)))); (first | done | fail))))
                  obtain ⟨k0, k1, k2, k3, k4⟩ := CY.out w1 Z.out
                  obtain ⟨m0, m1, m2, m3, m4⟩ := CX.out w1 Z.out
                  have e1 := fun (w : World) => eqD_run y x w r2_ HR2.out
                  clear e0
                  go_wp2_with fail
                  go_region
                  all_goals
                    cases r2_ with
                    | true =>
                      have HH := hide (HH.out.1 (of_decide_eq_true HR2.out))
                      go_wp2_with fail
                      go_roundw
                      case rel => exact ⟨i + 1, g, c', by go_num, by omega, by rw [HH.out.2, HU.out, HN.out], hide (by rw [HH.out.2, HU.out, HN.out]; exact HO.out.keep (Z.out.trans (by ((repeat (first | (with_reducible assumption) | (with_reducible exact Gr.refl _) | (with_reducible refine Gr.drew ?_) | (with_reducible refine Gr.alloc ?_ _) | (with_reducible refine Gr.trans ?_ (by assumption)))); (first | done | fail)))).below), hide (Below.next HB.out (Z.out.trans (by ((repeat (first | (with_reducible assumption) | (with_reducible exact Gr.refl _) | (with_reducible refine Gr.drew ?_) | (with_reducible refine Gr.alloc ?_ _) | (with_reducible refine Gr.trans ?_ (by assumption)))); (first | done | fail)))).below), hide HH.out.1⟩
                      case measure => simp [RowKit.intOf]; omega
                    | false =>
                      go_wp2_with fail
                      go_ret2
                      exact absurd HYPG.out (HH.out.2 (of_decide_eq_false HR2.out))
              · have HM := hide (uni_miss HG.out HX.out (show ∀ z ∈ uni Dec.key a (b.take i), z.key ≠ x.key by
                  rw [HU.out]
                  intro z hz e
                  obtain ⟨z', hz', e'⟩ := (HSU.out.found x.key).1 ⟨z, hz, e⟩
                  rw [HQ.out, ← HQ2.out, HY.out] at hz'
                  injection hz' with hz'
                  rw [hz'] at hk
                  exact hk e'))
                have e0 := fun (w : World) => eqM_run y.mk_ x.mk_ w false (decide_eq_false fun e => hk (by rw [← mk_key y, ← mk_key x, e]))
                clear hk
                go_wp2_with fail
                go_region_held3 (fun w' => w'.cell? ⟨g, at_ * 5, none⟩ = some (.int .i64 y.u) ∧ w'.cell? ⟨g, at_ * 5 + 1, none⟩ = some (.int .i64 y.n) ∧ w'.cell? ⟨g, at_ * 5 + 2, none⟩ = some (.int .i64 y.k) ∧ w'.cell? ⟨g, at_ * 5 + 3, none⟩ = some (.int .i64 y.a) ∧ w'.cell? ⟨g, at_ * 5 + 4, none⟩ = some (.int .i64 y.b) ∧ w'.cell? ⟨b2, o2 + i * 5, none⟩ = some (.int .i64 x.u) ∧ w'.cell? ⟨b2, o2 + i * 5 + 1, none⟩ = some (.int .i64 x.n) ∧ w'.cell? ⟨b2, o2 + i * 5 + 2, none⟩ = some (.int .i64 x.k) ∧ w'.cell? ⟨b2, o2 + i * 5 + 3, none⟩ = some (.int .i64 x.a) ∧ w'.cell? ⟨b2, o2 + i * 5 + 4, none⟩ = some (.int .i64 x.b))
                  (exact KS.out _ (HGr.out.trans (by ((repeat (first | (with_reducible assumption) | (with_reducible exact Gr.refl _) | (with_reducible refine Gr.drew ?_) | (with_reducible refine Gr.alloc ?_ _) | (with_reducible refine Gr.trans ?_ (by assumption)))); (first | done | fail)))))
                  (first
              | (go_at_call_of 62 (Value.agg #[.int .i64 y.u, .int .i64 y.n, .int .i64 y.k, .int .i64 y.a, .int .i64 y.b]); (with_reducible refine (rmark_any y _).mono ?_); rintro e w1 ⟨rfl, hg⟩)
              | (go_at_call_of 62 (Value.agg #[.int .i64 x.u, .int .i64 x.n, .int .i64 x.k, .int .i64 x.a, .int .i64 x.b]); (with_reducible refine (rmark_any x _).mono ?_); rintro e w1 ⟨rfl, hg⟩))
                all_goals
                  have Z := hide (show Gr ws w1 from HGr.out.trans (by ((repeat (first | (with_reducible assumption) | (with_reducible exact Gr.refl _) | (with_reducible refine Gr.drew ?_) | (with_reducible refine Gr.alloc ?_ _) | (with_reducible refine Gr.trans ?_ (by assumption)))); (first | done | fail))))
                  obtain ⟨m0, m1, m2, m3, m4⟩ := CX.out w1 Z.out
                  clear e0
                  have HE := hide (show uni Dec.key a (b.take (i + 1)) = insA U at_ x by rw [HM.out.2, HU.out]; show insA U (cnt Dec.key x.key U) x = _; rw [HQ.out, HQ2.out])
                  have SLX := hide (HO.out.keep Z.out.below).sl
                  have NB := hide (fun (W : World) (h : Below (w1.alloc (.cells #[.int .i64 x.u, .int .i64 x.n, .int .i64 x.k, .int .i64 x.a, .int .i64 x.b] 44)).heap.size (w1.alloc (.cells #[.int .i64 x.u, .int .i64 x.n, .int .i64 x.k, .int .i64 x.a, .int .i64 x.b] 44)) W) => (Turn.of (F := Non) h).owns (own_oneD w1 x) (fun _ _ h => h))
                  have SI := hide (fun (W : World) (h : Below w1.heap.size w1 W) => srcD ((SLX.out.keep h).fromD hN2))
                  have hgw : g < w1.heap.size := Nat.lt_of_lt_of_le (HO.out.blk g ⟨0, none, rfl⟩).2 Z.out.below.size
                  have ST := hide (fun (W : World) (h : Turn (Blk (some ⟨w1.heap.size, 0, none⟩)) w1 W) => rdD ((SLX.out.turn h (fun _ k hk hk' => by rw [blk_some] at hk hk'; omega)).toD (Nat.le_of_lt hN2)) rfl)
                  have LD := hide (show (flatE eD (U.drop at_)).length = (N - at_) * 5 by rw [flatE_len, List.length_drop, HN.out]; rfl)
                  have LT := hide (show (flatE eD (U.take at_)).length = at_ * 5 by rw [flatE_len, List.length_take, HN.out, Nat.min_eq_left (Nat.le_of_lt hN2)]; rfl)
                  have LX := hide (show (eD.enc x ++ flatE eD (U.drop at_)).length = (1 + (N - at_)) * 5 by rw [List.length_append, LD.out, Nat.add_mul]; rfl)
                  have hcl := HO.out.le.1
                  have hcm := HO.out.le.2
                  have b1 : ¬ (c' = at_) := by omega
                  have b2_ : (at_ : Int) ≤ (N : Int) := by omega
                  have b3 : (at_ : Int) ≤ (c' : Int) := by omega
                  have b4 : 1 + (N - at_) ≤ 1000000 := by omega
                  have b5 : at_ + (1 + (N - at_)) ≤ 1000000 := by omega
                  have b6 : at_ < at_ + (1 + (N - at_)) := by omega
                  unfold maxLen at hcm
                  have mixed : Tryz.prog.follows Departure.mixedOrders = true := by kernel_rfl
                  go_wp2_with fail
                  go_region_law (first
                    | (refine step_app_ow rfl _ _ 38 rfl w1.heap.size 44 _ 5 40 Tryz.underlying38 infoD rfl (by decide) (some ⟨w1.heap.size, 0, none⟩) 1 1 (eD.enc x) (by simp [Act.eval]) (NB.out _ (by ((repeat (first | (with_reducible assumption) | (with_reducible exact Below.refl _ _) | (with_reducible refine Below.drewS ?_) | (with_reducible refine Below.allocS ?_ _))); (first | done | fail)))) (some ⟨g, at_ * 5, none⟩) (N - at_) (c' - at_) (flatE eD (U.drop at_)) (by simp [Act.eval]) LD.out (SI.out _ (by ((repeat (first | (with_reducible assumption) | (with_reducible exact Below.refl _ _) | (with_reducible refine Below.drewS ?_) | (with_reducible refine Below.allocS ?_ _))); (first | done | fail)))) (flatE_one _) (by decide) b4 (by simp) ?_; intro A3 c3 w2 r1 r2 r3; obtain ⟨g3, hA3, hg3⟩ := own_some r1 (by omega); subst hA3; have t2 := (Turn.of (F := Blk (some ⟨w1.heap.size, 0, none⟩)) (w := w1) (by ((repeat (first | (with_reducible assumption) | (with_reducible exact Below.refl _ _) | (with_reducible refine Below.drewS ?_) | (with_reducible refine Below.allocS ?_ _))); (first | done | fail)))).trans r2)
                    | (refine step_app_gr rfl _ _ 38 rfl 44 _ 5 40 Tryz.underlying38 infoD rfl (by decide) ⟨g, 0, none⟩ at_ at_ (flatE eD (U.take at_)) (by simp [Act.eval]) LT.out (ST.out _ t2) ⟨g3, 0, none⟩ (1 + (N - at_)) c3 (eD.enc x ++ flatE eD (U.drop at_)) (by simp [Act.eval]) LX.out (own_rd r1 LX.out) b6 b5 ?_; intro c4 w3 r4 r5))
                  all_goals
                    have e2 : at_ + (1 + (N - at_)) = (uni Dec.key a (b.take (i + 1))).length := by rw [HE.out, insA_len x (by have := HN.out; omega), HN.out]; omega
                    have e3 : flatE eD (U.take at_) ++ (eD.enc x ++ flatE eD (U.drop at_)) = flatE eD (uni Dec.key a (b.take (i + 1))) := by rw [HE.out, insA_flat, List.append_assoc]
                    have R4 := hide (show Ow eD w3 w.heap.size (some ⟨w2.heap.size, 0, none⟩) (uni Dec.key a (b.take (i + 1))).length c4 (uni Dec.key a (b.take (i + 1))) from owns_low (by rw [← e3, ← e2]; exact r4) (Nat.le_trans HB.out.size (Nat.le_trans Z.out.below.size t2.size)))
                    have B4 := hide (Below.next (Turn.onto (Below.next HB.out Z.out.below) t2 fun k hk => by rw [blk_some] at hk; have := HB.out.size; have := Z.out.below.size; omega) r5)
                    have E2 := hide e2
                    clear r1 r2 r3 r4 r5 t2 e2 e3 SLX NB SI ST b1 b2_ b3 b4 b5 b6 hcl hcm hgw
                    go_wp2_with fail
                    go_roundw
                    case rel => exact ⟨i + 1, w2.heap.size, c4, by go_num, by omega, by rw [← E2.out], R4, B4, hide HM.out.1⟩
                    case measure => simp [RowKit.intOf]; omega
        · have HQ2 := hide (show at_ = q by omega)
          have HNQ := hide (show at_ = N by omega)
          have d1 : decide ((at_ : Int) < (N : Int)) = false := decide_eq_false (by omega)
          have d2 : ((at_ : Int) == (N : Int)) = true := beq_iff_eq.2 (by omega)
          have HM := hide (uni_miss HG.out HX.out (show ∀ z ∈ uni Dec.key a (b.take i), z.key ≠ x.key by
            rw [HU.out]
            intro z hz e
            obtain ⟨z', hz', e'⟩ := (HSU.out.found x.key).1 ⟨z, hz, e⟩
            rw [HQ.out, ← HQ2.out] at hz'
            have := (List.getElem?_eq_some_iff.1 hz').1
            have := HN.out
            omega))
          have Z := hide HGr.out
          have CX : Hid (∀ w', Gr ws w' → CellsD w' b2 (o2 + i * 5) x) := fun w' h => by
            have ex : ∀ p : Addr, p.block < ws.heap.size → w'.cell? p = ws.cell? p := fun p hp => h.below.cell hp
            have hc := HCX.out
            unfold CellsD at hc ⊢
            rw [ex ⟨b2, o2 + i * 5, none⟩ hl2, ex ⟨b2, o2 + i * 5 + 1, none⟩ hl2, ex ⟨b2, o2 + i * 5 + 2, none⟩ hl2, ex ⟨b2, o2 + i * 5 + 3, none⟩ hl2, ex ⟨b2, o2 + i * 5 + 4, none⟩ hl2]
            exact hc
          obtain ⟨m0, m1, m2, m3, m4⟩ := CX.out wr Z.out
          go_wp2_with fail
          go_region
          all_goals
            go_wp2_with fail
            go_region
            all_goals
              by_cases hcc : c' = at_
              · have HE := hide (show uni Dec.key a (b.take (i + 1)) = insA U at_ x by rw [HM.out.2, HU.out]; show insA U (cnt Dec.key x.key U) x = _; rw [HQ.out, HQ2.out])
                have SLX := hide (HO.out.keep Z.out.below).sl
                have NB := hide (fun (W : World) (h : Below (wr.alloc (.cells #[.int .i64 x.u, .int .i64 x.n, .int .i64 x.k, .int .i64 x.a, .int .i64 x.b] 44)).heap.size (wr.alloc (.cells #[.int .i64 x.u, .int .i64 x.n, .int .i64 x.k, .int .i64 x.a, .int .i64 x.b] 44)) W) => (Turn.of (F := Non) h).owns (own_oneD wr x) (fun _ _ h => h))
                skip
                have hgw : g < wr.heap.size := Nat.lt_of_lt_of_le (HO.out.blk g ⟨0, none, rfl⟩).2 Z.out.below.size
                have ST := hide (fun (W : World) (h : Turn (Blk (some ⟨wr.heap.size, 0, none⟩)) wr W) => rdD ((SLX.out.turn h (fun _ k hk hk' => by rw [blk_some] at hk hk'; omega)).toD (Nat.le_of_eq HNQ.out)) rfl)
                have LD := hide (show (flatE eD (U.drop at_)).length = (0) * 5 by rw [flatE_len, List.length_drop, HN.out, HNQ.out, Nat.sub_self]; rfl)
                have LT := hide (show (flatE eD (U.take at_)).length = at_ * 5 by rw [flatE_len, List.length_take, HN.out, Nat.min_eq_left (Nat.le_of_eq HNQ.out)]; rfl)
                have LX := hide (show (eD.enc x ++ flatE eD (U.drop at_)).length = (1 + (0)) * 5 by rw [List.length_append, LD.out, Nat.add_mul]; rfl)
                have hcl := HO.out.le.1
                have hcm := HO.out.le.2
                have b1 := hcc
                have b2_ : (at_ : Int) ≤ (N : Int) := by omega
                have b3 : (at_ : Int) ≤ (c' : Int) := by omega
                have b7 : N - at_ = 0 := by have := HNQ.out; omega
                have b4 : 1 + (0) ≤ 1000000 := by omega
                have b5 : at_ + (1 + (0)) ≤ 1000000 := by omega
                have b6 : at_ < at_ + (1 + (0)) := by omega
                unfold maxLen at hcm
                have mixed : Tryz.prog.follows Departure.mixedOrders = true := by kernel_rfl
                go_wp2_with fail
                go_region_law (first
                  | (refine step_app_ow rfl _ _ 38 rfl wr.heap.size 44 _ 5 40 Tryz.underlying38 infoD rfl (by decide) (some ⟨wr.heap.size, 0, none⟩) 1 1 (eD.enc x) (by simp [Act.eval]) (NB.out _ (by ((repeat (first | (with_reducible assumption) | (with_reducible exact Below.refl _ _) | (with_reducible refine Below.drewS ?_) | (with_reducible refine Below.allocS ?_ _))); (first | done | fail)))) (some ⟨g, 0, none⟩) (0) (c' - at_) (flatE eD (U.drop at_)) (by simp [Act.eval, hcc]) LD.out (fun h => absurd h (by decide)) (flatE_one _) (by decide) b4 (by simp) ?_; intro A3 c3 w2 r1 r2 r3; obtain ⟨g3, hA3, hg3⟩ := own_some r1 (by omega); subst hA3; have t2 := (Turn.of (F := Blk (some ⟨wr.heap.size, 0, none⟩)) (w := wr) (by ((repeat (first | (with_reducible assumption) | (with_reducible exact Below.refl _ _) | (with_reducible refine Below.drewS ?_) | (with_reducible refine Below.allocS ?_ _))); (first | done | fail)))).trans r2)
                  | (refine step_app_gr rfl _ _ 38 rfl 44 _ 5 40 Tryz.underlying38 infoD rfl (by decide) ⟨g, 0, none⟩ at_ at_ (flatE eD (U.take at_)) (by simp [Act.eval]) LT.out (ST.out _ t2) ⟨g3, 0, none⟩ (1 + (0)) c3 (eD.enc x ++ flatE eD (U.drop at_)) (by simp [Act.eval]) LX.out (own_rd r1 LX.out) b6 b5 ?_; intro c4 w3 r4 r5))
                all_goals
                  have e2 : at_ + (1 + (0)) = (uni Dec.key a (b.take (i + 1))).length := by rw [HE.out, insA_len x (by have := HN.out; omega), HN.out]; have := HNQ.out; omega
                  have e3 : flatE eD (U.take at_) ++ (eD.enc x ++ flatE eD (U.drop at_)) = flatE eD (uni Dec.key a (b.take (i + 1))) := by rw [HE.out, insA_flat, List.append_assoc]
                  have R4 := hide (show Ow eD w3 w.heap.size (some ⟨w2.heap.size, 0, none⟩) (uni Dec.key a (b.take (i + 1))).length c4 (uni Dec.key a (b.take (i + 1))) from owns_low (by rw [← e3, ← e2]; exact r4) (Nat.le_trans HB.out.size (Nat.le_trans Z.out.below.size t2.size)))
                  have B4 := hide (Below.next (Turn.onto (Below.next HB.out Z.out.below) t2 fun k hk => by rw [blk_some] at hk; have := HB.out.size; have := Z.out.below.size; omega) r5)
                  have E2 := hide e2
                  clear r1 r2 r3 r4 r5 t2 e2 e3 SLX NB ST b1 b2_ b3 b4 b5 b6 hcl hcm hgw
                  go_wp2_with fail
                  go_roundw
                  case rel => exact ⟨i + 1, w2.heap.size, c4, by go_num, by omega, by rw [← E2.out], R4, B4, hide HM.out.1⟩
                  case measure => simp [RowKit.intOf]; omega
              · have HE := hide (show uni Dec.key a (b.take (i + 1)) = insA U at_ x by rw [HM.out.2, HU.out]; show insA U (cnt Dec.key x.key U) x = _; rw [HQ.out, HQ2.out])
                have SLX := hide (HO.out.keep Z.out.below).sl
                have NB := hide (fun (W : World) (h : Below (wr.alloc (.cells #[.int .i64 x.u, .int .i64 x.n, .int .i64 x.k, .int .i64 x.a, .int .i64 x.b] 44)).heap.size (wr.alloc (.cells #[.int .i64 x.u, .int .i64 x.n, .int .i64 x.k, .int .i64 x.a, .int .i64 x.b] 44)) W) => (Turn.of (F := Non) h).owns (own_oneD wr x) (fun _ _ h => h))
                skip
                have hgw : g < wr.heap.size := Nat.lt_of_lt_of_le (HO.out.blk g ⟨0, none, rfl⟩).2 Z.out.below.size
                have ST := hide (fun (W : World) (h : Turn (Blk (some ⟨wr.heap.size, 0, none⟩)) wr W) => rdD ((SLX.out.turn h (fun _ k hk hk' => by rw [blk_some] at hk hk'; omega)).toD (Nat.le_of_eq HNQ.out)) rfl)
                have LD := hide (show (flatE eD (U.drop at_)).length = (0) * 5 by rw [flatE_len, List.length_drop, HN.out, HNQ.out, Nat.sub_self]; rfl)
                have LT := hide (show (flatE eD (U.take at_)).length = at_ * 5 by rw [flatE_len, List.length_take, HN.out, Nat.min_eq_left (Nat.le_of_eq HNQ.out)]; rfl)
                have LX := hide (show (eD.enc x ++ flatE eD (U.drop at_)).length = (1 + (0)) * 5 by rw [List.length_append, LD.out, Nat.add_mul]; rfl)
                have hcl := HO.out.le.1
                have hcm := HO.out.le.2
                have b1 := hcc
                have b2_ : (at_ : Int) ≤ (N : Int) := by omega
                have b3 : (at_ : Int) ≤ (c' : Int) := by omega
                have b7 : N - at_ = 0 := by have := HNQ.out; omega
                have b4 : 1 + (0) ≤ 1000000 := by omega
                have b5 : at_ + (1 + (0)) ≤ 1000000 := by omega
                have b6 : at_ < at_ + (1 + (0)) := by omega
                unfold maxLen at hcm
                have mixed : Tryz.prog.follows Departure.mixedOrders = true := by kernel_rfl
                go_wp2_with fail
                go_region_law (first
                  | (refine step_app_ow rfl _ _ 38 rfl wr.heap.size 44 _ 5 40 Tryz.underlying38 infoD rfl (by decide) (some ⟨wr.heap.size, 0, none⟩) 1 1 (eD.enc x) (by simp [Act.eval]) (NB.out _ (by ((repeat (first | (with_reducible assumption) | (with_reducible exact Below.refl _ _) | (with_reducible refine Below.drewS ?_) | (with_reducible refine Below.allocS ?_ _))); (first | done | fail)))) (some ⟨g, at_ * 5, none⟩) (0) (c' - at_) (flatE eD (U.drop at_)) (by simp [Act.eval]) LD.out (fun h => absurd h (by decide)) (flatE_one _) (by decide) b4 (by simp) ?_; intro A3 c3 w2 r1 r2 r3; obtain ⟨g3, hA3, hg3⟩ := own_some r1 (by omega); subst hA3; have t2 := (Turn.of (F := Blk (some ⟨wr.heap.size, 0, none⟩)) (w := wr) (by ((repeat (first | (with_reducible assumption) | (with_reducible exact Below.refl _ _) | (with_reducible refine Below.drewS ?_) | (with_reducible refine Below.allocS ?_ _))); (first | done | fail)))).trans r2)
                  | (refine step_app_gr rfl _ _ 38 rfl 44 _ 5 40 Tryz.underlying38 infoD rfl (by decide) ⟨g, 0, none⟩ at_ at_ (flatE eD (U.take at_)) (by simp [Act.eval]) LT.out (ST.out _ t2) ⟨g3, 0, none⟩ (1 + (0)) c3 (eD.enc x ++ flatE eD (U.drop at_)) (by simp [Act.eval]) LX.out (own_rd r1 LX.out) b6 b5 ?_; intro c4 w3 r4 r5))
                all_goals
                  have e2 : at_ + (1 + (0)) = (uni Dec.key a (b.take (i + 1))).length := by rw [HE.out, insA_len x (by have := HN.out; omega), HN.out]; have := HNQ.out; omega
                  have e3 : flatE eD (U.take at_) ++ (eD.enc x ++ flatE eD (U.drop at_)) = flatE eD (uni Dec.key a (b.take (i + 1))) := by rw [HE.out, insA_flat, List.append_assoc]
                  have R4 := hide (show Ow eD w3 w.heap.size (some ⟨w2.heap.size, 0, none⟩) (uni Dec.key a (b.take (i + 1))).length c4 (uni Dec.key a (b.take (i + 1))) from owns_low (by rw [← e3, ← e2]; exact r4) (Nat.le_trans HB.out.size (Nat.le_trans Z.out.below.size t2.size)))
                  have B4 := hide (Below.next (Turn.onto (Below.next HB.out Z.out.below) t2 fun k hk => by rw [blk_some] at hk; have := HB.out.size; have := Z.out.below.size; omega) r5)
                  have E2 := hide e2
                  clear r1 r2 r3 r4 r5 t2 e2 e3 SLX NB ST b1 b2_ b3 b4 b5 b6 hcl hcm hgw
                  go_wp2_with fail
                  go_roundw
                  case rel => exact ⟨i + 1, w2.heap.size, c4, by go_num, by omega, by rw [← E2.out], R4, B4, hide HM.out.1⟩
                  case measure => simp [RowKit.intOf]; omega
    · obtain rfl : i = m := by omega
      have d0 : decide ((i : Int) < (i : Int)) = false := decide_eq_false (by omega)
      have hbt : b.take i = b := List.take_of_length_le (by omega)
      rw [hbt] at HO HG ⊢
      go_wp2_with fail
      go_ret2
      exact ⟨_, _, rfl, HO.out, HB.out⟩

set_option maxHeartbeats 8000000 in
set_option maxRecDepth 100000 in
theorem rdecsno_any (A : Option Addr) (n c : Nat) (a : List Dec) (A2 : Option Addr) (m c2 : Nat) (b : List Dec) (w : World) (ha : SL eD w A n a) (hb : SL eD w A2 m b) (sa : Srt Dec.key a) (sb : Srt Dec.key b) (va : ∀ x ∈ a, vD x = true) (vb : ∀ x ∈ b, vD x = true) (hn : n ≤ 400) (hm : m ≤ 400) (hg : ¬ Agr Dec.key a b) :
    Calls Tryz.prog 31 #[.slice A n c, .slice A2 m c2] w fun e w' => e = .returned (.tuple #[.slice none 0 0, .bool false]) ∧ Below w.heap.size w w' := by
  have HYPG := hide hg
  have SB := hide hb
  have SA := hide sa
  have SBS := hide sb
  have VA := hide va
  have VB := hide vb
  have LA := hide ha.1
  have LB := hide hb.1
  have HAA := hide ha
  have HW := hide (show (w.alloc (.cells #[] 44)).ownsRow w.heap.size 44 5 (.slice (some ⟨w.heap.size, 0, none⟩) 0 0) 0 [] from owns_new w (Nat.le_refl _))
  clear ha hb sa sb va vb hg
  go_enter Tryz.func31, Tryz.ntmps31
  go_wp2_with (at_builtin; refine wpList_app_lit _ rfl _ _ 38 rfl w.heap.size 44 _ 5 40 Tryz.underlying38 infoD rfl (by decide) w.heap.size rfl HW.out A n c (flatE eD a) rfl (by rw [flatE_len, LA.out]; rfl) (srcD (HAA.out.keep ((Below.refl _ _).alloc (Nat.le_refl _) (.cells #[] 44)))) (flatE_one a) (by decide) (by omega) (by simp) ?_; intro g1 c1 w1 r1 r2)
  have R1 := hide (show Ow eD w1 w.heap.size (some ⟨g1, 0, none⟩) n c1 a from r1)
  have B1 := hide (show Below w.heap.size w w1 from Turn.onto ((Below.refl _ _).alloc (Nat.le_refl _) (.cells #[] 44)) r2 fun k hk => by rw [show k = w.heap.size from hk]; exact Nat.le_refl _)
  clear r1 r2 HW HAA
  obtain rfl := LA.out
  have hbm : b.length = m := LB.out
  go_loopw [6, 7] (fun v iv wr => ∃ (i g c' : Nat), iv = .int .i64 (i : Int) ∧ i ≤ m ∧ v = .slice (some ⟨g, 0, none⟩) (uni Dec.key a (b.take i)).length c' ∧ Hid (Ow eD wr w.heap.size (some ⟨g, 0, none⟩) (uni Dec.key a (b.take i)).length c' (uni Dec.key a (b.take i))) ∧ Hid (Below w.heap.size w wr) ∧ Hid (Agr Dec.key a (b.take i))) (fun _ iv _ => m - (RowKit.intOf iv).toNat)
  case atStart => exact ⟨0, g1, c1, rfl, Nat.zero_le _, rfl, R1, B1, hide fun x hx y hy => by cases hy⟩
  case round =>
    obtain ⟨i, g, c', rfl, hi, rfl, HO, HB, HG⟩ := hrel
    by_cases hlt : i < m
    · obtain ⟨b2, o2, x, rfl, hl2, hx, hcx⟩ := (SB.out.keep HB.out).atD hlt
      have HX := hide hx
      have HCX := hide hcx
      have HVX := hide (VB.out x (List.mem_of_getElem? hx))
      obtain ⟨U, hU⟩ : ∃ U, uni Dec.key a (b.take i) = U := ⟨_, rfl⟩
      have HU := hide hU
      have HSU := hide (show Srt Dec.key U from hU ▸ srt_uni SA.out (srt_take SBS.out i) HG.out)
      have HVU := hide (show ∀ y ∈ U, vD y = true from fun y hy => by
        rw [← hU] at hy
        rcases mem_uni.1 hy with h | h
        · exact VA.out y h
        · exact VB.out y (List.mem_of_mem_take h))
      have hUl : U.length ≤ 800 := by
        rw [← hU]
        refine Nat.le_trans (len_uni _ _) ?_
        rw [List.length_take]
        omega
      rw [hU] at HO ⊢
      obtain ⟨N, hN⟩ : ∃ N, U.length = N := ⟨_, rfl⟩
      have HN := hide hN
      rw [hN] at HO hUl ⊢
      obtain ⟨q, hq⟩ : ∃ q, cnt Dec.key x.key U = q := ⟨_, rfl⟩
      have HQ := hide hq
      have hqN : q ≤ N := by rw [← hq, ← hN]; exact cnt_le _ _
      have d0 : decide ((i : Int) < (m : Int)) = true := decide_eq_true (by omega)
      have a1 : (0 : Int) ≤ (i : Int) := by omega
      have a2 : (i : Int) < (m : Int) := by omega
      clear hx hcx hU hN hq
      obtain ⟨ws, hws⟩ : ∃ x, x = wr := ⟨_, rfl⟩
      subst hws
      go_wp2_with fail
      go_loopw [8] (fun v wq => ∃ at_ : Nat, v = .int .i64 (at_ : Int) ∧ at_ ≤ q ∧ Hid (Gr ws wq)) (fun v _ => q - (RowKit.intOf v).toNat)
      case atStart => exact ⟨0, rfl, Nat.zero_le _, hide (Gr.refl _)⟩
      case round =>
        obtain ⟨at_, rfl, hat, HGr⟩ := hrel
        have a3 : (0 : Int) ≤ (at_ : Int) := by omega
        by_cases hN2 : at_ < N
        · have a4 : (at_ : Int) < (N : Int) := by omega
          obtain ⟨y, hy⟩ : ∃ y, U[at_]? = some y := ⟨_, List.getElem?_eq_getElem (by have := HN.out; omega)⟩
          have HY := hide hy
          have hvy : vD y = true := HVU.out y (List.mem_of_getElem? hy)
          have d1 : decide ((at_ : Int) < (N : Int)) = true := decide_eq_true (by omega)
          have d2 : ((at_ : Int) == (N : Int)) = false := beq_eq_false_iff_ne.2 (by omega)
          have CY : Hid (∀ w', Gr ws w' → CellsD w' g (at_ * 5) y) := fun w' h => cells_toD ((HO.out.keep h.below).sl.cellsD HY.out) (by omega)
          have CX : Hid (∀ w', Gr ws w' → CellsD w' b2 (o2 + i * 5) x) := fun w' h => by
            have ex : ∀ p : Addr, p.block < ws.heap.size → w'.cell? p = ws.cell? p := fun p hp => h.below.cell hp
            have hc := HCX.out
            unfold CellsD at hc ⊢
            rw [ex ⟨b2, o2 + i * 5, none⟩ hl2, ex ⟨b2, o2 + i * 5 + 1, none⟩ hl2, ex ⟨b2, o2 + i * 5 + 2, none⟩ hl2, ex ⟨b2, o2 + i * 5 + 3, none⟩ hl2, ex ⟨b2, o2 + i * 5 + 4, none⟩ hl2]
            exact hc
          have KS : Hid (∀ w', Gr ws w' → w'.cell? ⟨g, at_ * 5, none⟩ = some (.int .i64 y.u) ∧ w'.cell? ⟨g, at_ * 5 + 1, none⟩ = some (.int .i64 y.n) ∧ w'.cell? ⟨g, at_ * 5 + 2, none⟩ = some (.int .i64 y.k) ∧ w'.cell? ⟨g, at_ * 5 + 3, none⟩ = some (.int .i64 y.a) ∧ w'.cell? ⟨g, at_ * 5 + 4, none⟩ = some (.int .i64 y.b) ∧ w'.cell? ⟨b2, o2 + i * 5, none⟩ = some (.int .i64 x.u) ∧ w'.cell? ⟨b2, o2 + i * 5 + 1, none⟩ = some (.int .i64 x.n) ∧ w'.cell? ⟨b2, o2 + i * 5 + 2, none⟩ = some (.int .i64 x.k) ∧ w'.cell? ⟨b2, o2 + i * 5 + 3, none⟩ = some (.int .i64 x.a) ∧ w'.cell? ⟨b2, o2 + i * 5 + 4, none⟩ = some (.int .i64 x.b)) := fun w' h => by
            have h1 := CY.out w' h
            have h2 := CX.out w' h
            exact ⟨h1.1, h1.2.1, h1.2.2.1, h1.2.2.2.1, h1.2.2.2.2, h2.1, h2.2.1, h2.2.2.1, h2.2.2.2.1, h2.2.2.2.2⟩
          have HCQ := hide (show (y.key < x.key → at_ < q) ∧ (¬ y.key < x.key → at_ = q) by
            have h := HSU.out.at_cnt x.key
            rw [HQ.out] at h
            refine ⟨fun h1 => ?_, fun h1 => ?_⟩
            · rcases Nat.lt_or_ge at_ q with h2 | h2
              · exact h2
              · have := h.2 at_ y h2 HY.out; omega
            · rcases Nat.lt_or_ge at_ q with h2 | h2
              · exact absurd (h.1 at_ y h2 HY.out) h1
              · omega)
          clear hy
          obtain ⟨r, hr⟩ : ∃ r, ltM y.mk_ x.mk_ = r := ⟨_, rfl⟩
          have HR := hide hr
          have HRK := hide (show r = decide (y.key < x.key) by rw [← hr]; exact ltM_key (vD_vM hvy) (vD_vM HVX.out))
          clear hr
          cases r with
          | true =>
            have hq2 : at_ < q := HCQ.out.1 (of_decide_eq_true HRK.out.symm)
            go_wp2_with fail
            go_region_held3 (fun w' => w'.cell? ⟨g, at_ * 5, none⟩ = some (.int .i64 y.u) ∧ w'.cell? ⟨g, at_ * 5 + 1, none⟩ = some (.int .i64 y.n) ∧ w'.cell? ⟨g, at_ * 5 + 2, none⟩ = some (.int .i64 y.k) ∧ w'.cell? ⟨g, at_ * 5 + 3, none⟩ = some (.int .i64 y.a) ∧ w'.cell? ⟨g, at_ * 5 + 4, none⟩ = some (.int .i64 y.b) ∧ w'.cell? ⟨b2, o2 + i * 5, none⟩ = some (.int .i64 x.u) ∧ w'.cell? ⟨b2, o2 + i * 5 + 1, none⟩ = some (.int .i64 x.n) ∧ w'.cell? ⟨b2, o2 + i * 5 + 2, none⟩ = some (.int .i64 x.k) ∧ w'.cell? ⟨b2, o2 + i * 5 + 3, none⟩ = some (.int .i64 x.a) ∧ w'.cell? ⟨b2, o2 + i * 5 + 4, none⟩ = some (.int .i64 x.b))
              (exact KS.out _ (HGr.out.trans (by ((repeat (first | (with_reducible assumption) | (with_reducible exact Gr.refl _) | (with_reducible refine Gr.drew ?_) | (with_reducible refine Gr.alloc ?_ _) | (with_reducible refine Gr.trans ?_ (by assumption)))); (first | done | fail)))))
              (first
              | (go_at_call_of 62 (Value.agg #[.int .i64 y.u, .int .i64 y.n, .int .i64 y.k, .int .i64 y.a, .int .i64 y.b]); (with_reducible refine (rmark_any y _).mono ?_); rintro e w1 ⟨rfl, hg⟩)
              | (go_at_call_of 62 (Value.agg #[.int .i64 x.u, .int .i64 x.n, .int .i64 x.k, .int .i64 x.a, .int .i64 x.b]); (with_reducible refine (rmark_any x _).mono ?_); rintro e w1 ⟨rfl, hg⟩)
              | (go_at_call 61; (with_reducible refine (before_any y.mk_ x.mk_ _ _ HR.out).mono ?_); rintro e w1 ⟨rfl, hg⟩))
            all_goals
              go_wp2_with fail
              go_roundw
              case rel => exact ⟨at_ + 1, by go_num, by omega, hide (HGr.out.trans (by ((repeat (first | (with_reducible assumption) | (with_reducible exact Gr.refl _) | (with_reducible refine Gr.drew ?_) | (with_reducible refine Gr.alloc ?_ _) | (with_reducible refine Gr.trans ?_ (by assumption)))); (first | done | fail))))⟩
              case measure => simp [RowKit.intOf]; omega
          | false =>
            have HQ2 := hide (HCQ.out.2 (of_decide_eq_false HRK.out.symm))
            go_wp2_with fail
            go_region_held3 (fun w' => w'.cell? ⟨g, at_ * 5, none⟩ = some (.int .i64 y.u) ∧ w'.cell? ⟨g, at_ * 5 + 1, none⟩ = some (.int .i64 y.n) ∧ w'.cell? ⟨g, at_ * 5 + 2, none⟩ = some (.int .i64 y.k) ∧ w'.cell? ⟨g, at_ * 5 + 3, none⟩ = some (.int .i64 y.a) ∧ w'.cell? ⟨g, at_ * 5 + 4, none⟩ = some (.int .i64 y.b) ∧ w'.cell? ⟨b2, o2 + i * 5, none⟩ = some (.int .i64 x.u) ∧ w'.cell? ⟨b2, o2 + i * 5 + 1, none⟩ = some (.int .i64 x.n) ∧ w'.cell? ⟨b2, o2 + i * 5 + 2, none⟩ = some (.int .i64 x.k) ∧ w'.cell? ⟨b2, o2 + i * 5 + 3, none⟩ = some (.int .i64 x.a) ∧ w'.cell? ⟨b2, o2 + i * 5 + 4, none⟩ = some (.int .i64 x.b))
              (exact KS.out _ (HGr.out.trans (by ((repeat (first | (with_reducible assumption) | (with_reducible exact Gr.refl _) | (with_reducible refine Gr.drew ?_) | (with_reducible refine Gr.alloc ?_ _) | (with_reducible refine Gr.trans ?_ (by assumption)))); (first | done | fail)))))
              (first
              | (go_at_call_of 62 (Value.agg #[.int .i64 y.u, .int .i64 y.n, .int .i64 y.k, .int .i64 y.a, .int .i64 y.b]); (with_reducible refine (rmark_any y _).mono ?_); rintro e w1 ⟨rfl, hg⟩)
              | (go_at_call_of 62 (Value.agg #[.int .i64 x.u, .int .i64 x.n, .int .i64 x.k, .int .i64 x.a, .int .i64 x.b]); (with_reducible refine (rmark_any x _).mono ?_); rintro e w1 ⟨rfl, hg⟩)
              | (go_at_call 61; (with_reducible refine (before_any y.mk_ x.mk_ _ _ HR.out).mono ?_); rintro e w1 ⟨rfl, hg⟩))
            all_goals
              have Z := hide (show Gr ws w1 from HGr.out.trans (by ((repeat (first | (with_reducible assumption) | (with_reducible exact Gr.refl _) | (with_reducible refine Gr.drew ?_) | (with_reducible refine Gr.alloc ?_ _) | (with_reducible refine Gr.trans ?_ (by assumption)))); (first | done | fail))))
              by_cases hk : y.key = x.key
              · have HH := hide (uni_hit SA.out SBS.out HG.out HX.out (show y ∈ uni Dec.key a (b.take i) by rw [HU.out]; exact List.mem_of_getElem? HY.out) hk)
                obtain ⟨r2_, hr2⟩ : ∃ r2_, decide (y = x) = r2_ := ⟨_, rfl⟩
                have hmk : y.mk_ = x.mk_ := (dkey_inj hvy HVX.out).1 hk
                have e0 := fun (w : World) => eqM_run y.mk_ x.mk_ w true (decide_eq_true hmk)
                have HR2 := hide hr2
                have Z0 := Z
                have KS2 : Hid (∀ w', Gr w1 w' → w'.cell? ⟨g, at_ * 5, none⟩ = some (.int .i64 y.u) ∧ w'.cell? ⟨g, at_ * 5 + 1, none⟩ = some (.int .i64 y.n) ∧ w'.cell? ⟨g, at_ * 5 + 2, none⟩ = some (.int .i64 y.k) ∧ w'.cell? ⟨g, at_ * 5 + 3, none⟩ = some (.int .i64 y.a) ∧ w'.cell? ⟨g, at_ * 5 + 4, none⟩ = some (.int .i64 y.b) ∧ w'.cell? ⟨b2, o2 + i * 5, none⟩ = some (.int .i64 x.u) ∧ w'.cell? ⟨b2, o2 + i * 5 + 1, none⟩ = some (.int .i64 x.n) ∧ w'.cell? ⟨b2, o2 + i * 5 + 2, none⟩ = some (.int .i64 x.k) ∧ w'.cell? ⟨b2, o2 + i * 5 + 3, none⟩ = some (.int .i64 x.a) ∧ w'.cell? ⟨b2, o2 + i * 5 + 4, none⟩ = some (.int .i64 x.b)) := fun w' h => KS.out w' (Z0.out.trans h)
                clear hmk hk hr2
                go_wp2_with fail
                go_region_held3 (fun w' => w'.cell? ⟨g, at_ * 5, none⟩ = some (.int .i64 y.u) ∧ w'.cell? ⟨g, at_ * 5 + 1, none⟩ = some (.int .i64 y.n) ∧ w'.cell? ⟨g, at_ * 5 + 2, none⟩ = some (.int .i64 y.k) ∧ w'.cell? ⟨g, at_ * 5 + 3, none⟩ = some (.int .i64 y.a) ∧ w'.cell? ⟨g, at_ * 5 + 4, none⟩ = some (.int .i64 y.b) ∧ w'.cell? ⟨b2, o2 + i * 5, none⟩ = some (.int .i64 x.u) ∧ w'.cell? ⟨b2, o2 + i * 5 + 1, none⟩ = some (.int .i64 x.n) ∧ w'.cell? ⟨b2, o2 + i * 5 + 2, none⟩ = some (.int .i64 x.k) ∧ w'.cell? ⟨b2, o2 + i * 5 + 3, none⟩ = some (.int .i64 x.a) ∧ w'.cell? ⟨b2, o2 + i * 5 + 4, none⟩ = some (.int .i64 x.b))
                  (exact KS.out _ (HGr.out.trans (by ((repeat (first | (with_reducible assumption) | (with_reducible exact Gr.refl _) | (with_reducible refine Gr.drew ?_) | (with_reducible refine Gr.alloc ?_ _) | (with_reducible refine Gr.trans ?_ (by assumption)))); (first | done | fail)))))
                  (first
              | (go_at_call_of 62 (Value.agg #[.int .i64 y.u, .int .i64 y.n, .int .i64 y.k, .int .i64 y.a, .int .i64 y.b]); (with_reducible refine (rmark_any y _).mono ?_); rintro e w1 ⟨rfl, hg⟩)
              | (go_at_call_of 62 (Value.agg #[.int .i64 x.u, .int .i64 x.n, .int .i64 x.k, .int .i64 x.a, .int .i64 x.b]); (with_reducible refine (rmark_any x _).mono ?_); rintro e w1 ⟨rfl, hg⟩))
                all_goals
                  have Z := hide (show Gr ws w1 from HGr.out.trans (by ((repeat (first | (with_reducible assumption) | (with_reducible exact Gr.refl _) | (with_reducible refine Gr.drew ?_) | (with_reducible refine Gr.alloc ?_ _) | (with_reducible refine Gr.trans ?_ (by assumption)))); (first | done | fail))))
                  obtain ⟨k0, k1, k2, k3, k4⟩ := CY.out w1 Z.out
                  obtain ⟨m0, m1, m2, m3, m4⟩ := CX.out w1 Z.out
                  have e1 := fun (w : World) => eqD_run y x w r2_ HR2.out
                  clear e0
                  go_wp2_with fail
                  go_region
                  all_goals
                    cases r2_ with
                    | true =>
                      have HH := hide (HH.out.1 (of_decide_eq_true HR2.out))
                      go_wp2_with fail
                      go_roundw
                      case rel => exact ⟨i + 1, g, c', by go_num, by omega, by rw [HH.out.2, HU.out, HN.out], hide (by rw [HH.out.2, HU.out, HN.out]; exact HO.out.keep (Z.out.trans (by ((repeat (first | (with_reducible assumption) | (with_reducible exact Gr.refl _) | (with_reducible refine Gr.drew ?_) | (with_reducible refine Gr.alloc ?_ _) | (with_reducible refine Gr.trans ?_ (by assumption)))); (first | done | fail)))).below), hide (Below.next HB.out (Z.out.trans (by ((repeat (first | (with_reducible assumption) | (with_reducible exact Gr.refl _) | (with_reducible refine Gr.drew ?_) | (with_reducible refine Gr.alloc ?_ _) | (with_reducible refine Gr.trans ?_ (by assumption)))); (first | done | fail)))).below), hide HH.out.1⟩
                      case measure => simp [RowKit.intOf]; omega
                    | false =>
                      go_wp2_with fail
                      go_ret2
                      exact ⟨rfl, Below.next HB.out (Z.out.trans (by ((repeat (first | (with_reducible assumption) | (with_reducible exact Gr.refl _) | (with_reducible refine Gr.drew ?_) | (with_reducible refine Gr.alloc ?_ _) | (with_reducible refine Gr.trans ?_ (by assumption)))); (first | done | fail)))).below⟩
              · have HM := hide (uni_miss HG.out HX.out (show ∀ z ∈ uni Dec.key a (b.take i), z.key ≠ x.key by
                  rw [HU.out]
                  intro z hz e
                  obtain ⟨z', hz', e'⟩ := (HSU.out.found x.key).1 ⟨z, hz, e⟩
                  rw [HQ.out, ← HQ2.out, HY.out] at hz'
                  injection hz' with hz'
                  rw [hz'] at hk
                  exact hk e'))
                have e0 := fun (w : World) => eqM_run y.mk_ x.mk_ w false (decide_eq_false fun e => hk (by rw [← mk_key y, ← mk_key x, e]))
                clear hk
                go_wp2_with fail
                go_region_held3 (fun w' => w'.cell? ⟨g, at_ * 5, none⟩ = some (.int .i64 y.u) ∧ w'.cell? ⟨g, at_ * 5 + 1, none⟩ = some (.int .i64 y.n) ∧ w'.cell? ⟨g, at_ * 5 + 2, none⟩ = some (.int .i64 y.k) ∧ w'.cell? ⟨g, at_ * 5 + 3, none⟩ = some (.int .i64 y.a) ∧ w'.cell? ⟨g, at_ * 5 + 4, none⟩ = some (.int .i64 y.b) ∧ w'.cell? ⟨b2, o2 + i * 5, none⟩ = some (.int .i64 x.u) ∧ w'.cell? ⟨b2, o2 + i * 5 + 1, none⟩ = some (.int .i64 x.n) ∧ w'.cell? ⟨b2, o2 + i * 5 + 2, none⟩ = some (.int .i64 x.k) ∧ w'.cell? ⟨b2, o2 + i * 5 + 3, none⟩ = some (.int .i64 x.a) ∧ w'.cell? ⟨b2, o2 + i * 5 + 4, none⟩ = some (.int .i64 x.b))
                  (exact KS.out _ (HGr.out.trans (by ((repeat (first | (with_reducible assumption) | (with_reducible exact Gr.refl _) | (with_reducible refine Gr.drew ?_) | (with_reducible refine Gr.alloc ?_ _) | (with_reducible refine Gr.trans ?_ (by assumption)))); (first | done | fail)))))
                  (first
              | (go_at_call_of 62 (Value.agg #[.int .i64 y.u, .int .i64 y.n, .int .i64 y.k, .int .i64 y.a, .int .i64 y.b]); (with_reducible refine (rmark_any y _).mono ?_); rintro e w1 ⟨rfl, hg⟩)
              | (go_at_call_of 62 (Value.agg #[.int .i64 x.u, .int .i64 x.n, .int .i64 x.k, .int .i64 x.a, .int .i64 x.b]); (with_reducible refine (rmark_any x _).mono ?_); rintro e w1 ⟨rfl, hg⟩))
                all_goals
                  have Z := hide (show Gr ws w1 from HGr.out.trans (by ((repeat (first | (with_reducible assumption) | (with_reducible exact Gr.refl _) | (with_reducible refine Gr.drew ?_) | (with_reducible refine Gr.alloc ?_ _) | (with_reducible refine Gr.trans ?_ (by assumption)))); (first | done | fail))))
                  obtain ⟨m0, m1, m2, m3, m4⟩ := CX.out w1 Z.out
                  clear e0
                  have HE := hide (show uni Dec.key a (b.take (i + 1)) = insA U at_ x by rw [HM.out.2, HU.out]; show insA U (cnt Dec.key x.key U) x = _; rw [HQ.out, HQ2.out])
                  have SLX := hide (HO.out.keep Z.out.below).sl
                  have NB := hide (fun (W : World) (h : Below (w1.alloc (.cells #[.int .i64 x.u, .int .i64 x.n, .int .i64 x.k, .int .i64 x.a, .int .i64 x.b] 44)).heap.size (w1.alloc (.cells #[.int .i64 x.u, .int .i64 x.n, .int .i64 x.k, .int .i64 x.a, .int .i64 x.b] 44)) W) => (Turn.of (F := Non) h).owns (own_oneD w1 x) (fun _ _ h => h))
                  have SI := hide (fun (W : World) (h : Below w1.heap.size w1 W) => srcD ((SLX.out.keep h).fromD hN2))
                  have hgw : g < w1.heap.size := Nat.lt_of_lt_of_le (HO.out.blk g ⟨0, none, rfl⟩).2 Z.out.below.size
                  have ST := hide (fun (W : World) (h : Turn (Blk (some ⟨w1.heap.size, 0, none⟩)) w1 W) => rdD ((SLX.out.turn h (fun _ k hk hk' => by rw [blk_some] at hk hk'; omega)).toD (Nat.le_of_lt hN2)) rfl)
                  have LD := hide (show (flatE eD (U.drop at_)).length = (N - at_) * 5 by rw [flatE_len, List.length_drop, HN.out]; rfl)
                  have LT := hide (show (flatE eD (U.take at_)).length = at_ * 5 by rw [flatE_len, List.length_take, HN.out, Nat.min_eq_left (Nat.le_of_lt hN2)]; rfl)
                  have LX := hide (show (eD.enc x ++ flatE eD (U.drop at_)).length = (1 + (N - at_)) * 5 by rw [List.length_append, LD.out, Nat.add_mul]; rfl)
                  have hcl := HO.out.le.1
                  have hcm := HO.out.le.2
                  have b1 : ¬ (c' = at_) := by omega
                  have b2_ : (at_ : Int) ≤ (N : Int) := by omega
                  have b3 : (at_ : Int) ≤ (c' : Int) := by omega
                  have b4 : 1 + (N - at_) ≤ 1000000 := by omega
                  have b5 : at_ + (1 + (N - at_)) ≤ 1000000 := by omega
                  have b6 : at_ < at_ + (1 + (N - at_)) := by omega
                  unfold maxLen at hcm
                  have mixed : Tryz.prog.follows Departure.mixedOrders = true := by kernel_rfl
                  go_wp2_with fail
                  go_region_law (first
                    | (refine step_app_ow rfl _ _ 38 rfl w1.heap.size 44 _ 5 40 Tryz.underlying38 infoD rfl (by decide) (some ⟨w1.heap.size, 0, none⟩) 1 1 (eD.enc x) (by simp [Act.eval]) (NB.out _ (by ((repeat (first | (with_reducible assumption) | (with_reducible exact Below.refl _ _) | (with_reducible refine Below.drewS ?_) | (with_reducible refine Below.allocS ?_ _))); (first | done | fail)))) (some ⟨g, at_ * 5, none⟩) (N - at_) (c' - at_) (flatE eD (U.drop at_)) (by simp [Act.eval]) LD.out (SI.out _ (by ((repeat (first | (with_reducible assumption) | (with_reducible exact Below.refl _ _) | (with_reducible refine Below.drewS ?_) | (with_reducible refine Below.allocS ?_ _))); (first | done | fail)))) (flatE_one _) (by decide) b4 (by simp) ?_; intro A3 c3 w2 r1 r2 r3; obtain ⟨g3, hA3, hg3⟩ := own_some r1 (by omega); subst hA3; have t2 := (Turn.of (F := Blk (some ⟨w1.heap.size, 0, none⟩)) (w := w1) (by ((repeat (first | (with_reducible assumption) | (with_reducible exact Below.refl _ _) | (with_reducible refine Below.drewS ?_) | (with_reducible refine Below.allocS ?_ _))); (first | done | fail)))).trans r2)
                    | (refine step_app_gr rfl _ _ 38 rfl 44 _ 5 40 Tryz.underlying38 infoD rfl (by decide) ⟨g, 0, none⟩ at_ at_ (flatE eD (U.take at_)) (by simp [Act.eval]) LT.out (ST.out _ t2) ⟨g3, 0, none⟩ (1 + (N - at_)) c3 (eD.enc x ++ flatE eD (U.drop at_)) (by simp [Act.eval]) LX.out (own_rd r1 LX.out) b6 b5 ?_; intro c4 w3 r4 r5))
                  all_goals
                    have e2 : at_ + (1 + (N - at_)) = (uni Dec.key a (b.take (i + 1))).length := by rw [HE.out, insA_len x (by have := HN.out; omega), HN.out]; omega
                    have e3 : flatE eD (U.take at_) ++ (eD.enc x ++ flatE eD (U.drop at_)) = flatE eD (uni Dec.key a (b.take (i + 1))) := by rw [HE.out, insA_flat, List.append_assoc]
                    have R4 := hide (show Ow eD w3 w.heap.size (some ⟨w2.heap.size, 0, none⟩) (uni Dec.key a (b.take (i + 1))).length c4 (uni Dec.key a (b.take (i + 1))) from owns_low (by rw [← e3, ← e2]; exact r4) (Nat.le_trans HB.out.size (Nat.le_trans Z.out.below.size t2.size)))
                    have B4 := hide (Below.next (Turn.onto (Below.next HB.out Z.out.below) t2 fun k hk => by rw [blk_some] at hk; have := HB.out.size; have := Z.out.below.size; omega) r5)
                    have E2 := hide e2
                    clear r1 r2 r3 r4 r5 t2 e2 e3 SLX NB SI ST b1 b2_ b3 b4 b5 b6 hcl hcm hgw
                    go_wp2_with fail
                    go_roundw
                    case rel => exact ⟨i + 1, w2.heap.size, c4, by go_num, by omega, by rw [← E2.out], R4, B4, hide HM.out.1⟩
                    case measure => simp [RowKit.intOf]; omega
        · have HQ2 := hide (show at_ = q by omega)
          have HNQ := hide (show at_ = N by omega)
          have d1 : decide ((at_ : Int) < (N : Int)) = false := decide_eq_false (by omega)
          have d2 : ((at_ : Int) == (N : Int)) = true := beq_iff_eq.2 (by omega)
          have HM := hide (uni_miss HG.out HX.out (show ∀ z ∈ uni Dec.key a (b.take i), z.key ≠ x.key by
            rw [HU.out]
            intro z hz e
            obtain ⟨z', hz', e'⟩ := (HSU.out.found x.key).1 ⟨z, hz, e⟩
            rw [HQ.out, ← HQ2.out] at hz'
            have := (List.getElem?_eq_some_iff.1 hz').1
            have := HN.out
            omega))
          have Z := hide HGr.out
          have CX : Hid (∀ w', Gr ws w' → CellsD w' b2 (o2 + i * 5) x) := fun w' h => by
            have ex : ∀ p : Addr, p.block < ws.heap.size → w'.cell? p = ws.cell? p := fun p hp => h.below.cell hp
            have hc := HCX.out
            unfold CellsD at hc ⊢
            rw [ex ⟨b2, o2 + i * 5, none⟩ hl2, ex ⟨b2, o2 + i * 5 + 1, none⟩ hl2, ex ⟨b2, o2 + i * 5 + 2, none⟩ hl2, ex ⟨b2, o2 + i * 5 + 3, none⟩ hl2, ex ⟨b2, o2 + i * 5 + 4, none⟩ hl2]
            exact hc
          obtain ⟨m0, m1, m2, m3, m4⟩ := CX.out wr Z.out
          go_wp2_with fail
          go_region
          all_goals
            go_wp2_with fail
            go_region
            all_goals
              by_cases hcc : c' = at_
              · have HE := hide (show uni Dec.key a (b.take (i + 1)) = insA U at_ x by rw [HM.out.2, HU.out]; show insA U (cnt Dec.key x.key U) x = _; rw [HQ.out, HQ2.out])
                have SLX := hide (HO.out.keep Z.out.below).sl
                have NB := hide (fun (W : World) (h : Below (wr.alloc (.cells #[.int .i64 x.u, .int .i64 x.n, .int .i64 x.k, .int .i64 x.a, .int .i64 x.b] 44)).heap.size (wr.alloc (.cells #[.int .i64 x.u, .int .i64 x.n, .int .i64 x.k, .int .i64 x.a, .int .i64 x.b] 44)) W) => (Turn.of (F := Non) h).owns (own_oneD wr x) (fun _ _ h => h))
                skip
                have hgw : g < wr.heap.size := Nat.lt_of_lt_of_le (HO.out.blk g ⟨0, none, rfl⟩).2 Z.out.below.size
                have ST := hide (fun (W : World) (h : Turn (Blk (some ⟨wr.heap.size, 0, none⟩)) wr W) => rdD ((SLX.out.turn h (fun _ k hk hk' => by rw [blk_some] at hk hk'; omega)).toD (Nat.le_of_eq HNQ.out)) rfl)
                have LD := hide (show (flatE eD (U.drop at_)).length = (0) * 5 by rw [flatE_len, List.length_drop, HN.out, HNQ.out, Nat.sub_self]; rfl)
                have LT := hide (show (flatE eD (U.take at_)).length = at_ * 5 by rw [flatE_len, List.length_take, HN.out, Nat.min_eq_left (Nat.le_of_eq HNQ.out)]; rfl)
                have LX := hide (show (eD.enc x ++ flatE eD (U.drop at_)).length = (1 + (0)) * 5 by rw [List.length_append, LD.out, Nat.add_mul]; rfl)
                have hcl := HO.out.le.1
                have hcm := HO.out.le.2
                have b1 := hcc
                have b2_ : (at_ : Int) ≤ (N : Int) := by omega
                have b3 : (at_ : Int) ≤ (c' : Int) := by omega
                have b7 : N - at_ = 0 := by have := HNQ.out; omega
                have b4 : 1 + (0) ≤ 1000000 := by omega
                have b5 : at_ + (1 + (0)) ≤ 1000000 := by omega
                have b6 : at_ < at_ + (1 + (0)) := by omega
                unfold maxLen at hcm
                have mixed : Tryz.prog.follows Departure.mixedOrders = true := by kernel_rfl
                go_wp2_with fail
                go_region_law (first
                  | (refine step_app_ow rfl _ _ 38 rfl wr.heap.size 44 _ 5 40 Tryz.underlying38 infoD rfl (by decide) (some ⟨wr.heap.size, 0, none⟩) 1 1 (eD.enc x) (by simp [Act.eval]) (NB.out _ (by ((repeat (first | (with_reducible assumption) | (with_reducible exact Below.refl _ _) | (with_reducible refine Below.drewS ?_) | (with_reducible refine Below.allocS ?_ _))); (first | done | fail)))) (some ⟨g, 0, none⟩) (0) (c' - at_) (flatE eD (U.drop at_)) (by simp [Act.eval, hcc]) LD.out (fun h => absurd h (by decide)) (flatE_one _) (by decide) b4 (by simp) ?_; intro A3 c3 w2 r1 r2 r3; obtain ⟨g3, hA3, hg3⟩ := own_some r1 (by omega); subst hA3; have t2 := (Turn.of (F := Blk (some ⟨wr.heap.size, 0, none⟩)) (w := wr) (by ((repeat (first | (with_reducible assumption) | (with_reducible exact Below.refl _ _) | (with_reducible refine Below.drewS ?_) | (with_reducible refine Below.allocS ?_ _))); (first | done | fail)))).trans r2)
                  | (refine step_app_gr rfl _ _ 38 rfl 44 _ 5 40 Tryz.underlying38 infoD rfl (by decide) ⟨g, 0, none⟩ at_ at_ (flatE eD (U.take at_)) (by simp [Act.eval]) LT.out (ST.out _ t2) ⟨g3, 0, none⟩ (1 + (0)) c3 (eD.enc x ++ flatE eD (U.drop at_)) (by simp [Act.eval]) LX.out (own_rd r1 LX.out) b6 b5 ?_; intro c4 w3 r4 r5))
                all_goals
                  have e2 : at_ + (1 + (0)) = (uni Dec.key a (b.take (i + 1))).length := by rw [HE.out, insA_len x (by have := HN.out; omega), HN.out]; have := HNQ.out; omega
                  have e3 : flatE eD (U.take at_) ++ (eD.enc x ++ flatE eD (U.drop at_)) = flatE eD (uni Dec.key a (b.take (i + 1))) := by rw [HE.out, insA_flat, List.append_assoc]
                  have R4 := hide (show Ow eD w3 w.heap.size (some ⟨w2.heap.size, 0, none⟩) (uni Dec.key a (b.take (i + 1))).length c4 (uni Dec.key a (b.take (i + 1))) from owns_low (by rw [← e3, ← e2]; exact r4) (Nat.le_trans HB.out.size (Nat.le_trans Z.out.below.size t2.size)))
                  have B4 := hide (Below.next (Turn.onto (Below.next HB.out Z.out.below) t2 fun k hk => by rw [blk_some] at hk; have := HB.out.size; have := Z.out.below.size; omega) r5)
                  have E2 := hide e2
                  clear r1 r2 r3 r4 r5 t2 e2 e3 SLX NB ST b1 b2_ b3 b4 b5 b6 hcl hcm hgw
                  go_wp2_with fail
                  go_roundw
                  case rel => exact ⟨i + 1, w2.heap.size, c4, by go_num, by omega, by rw [← E2.out], R4, B4, hide HM.out.1⟩
                  case measure => simp [RowKit.intOf]; omega
              · have HE := hide (show uni Dec.key a (b.take (i + 1)) = insA U at_ x by rw [HM.out.2, HU.out]; show insA U (cnt Dec.key x.key U) x = _; rw [HQ.out, HQ2.out])
                have SLX := hide (HO.out.keep Z.out.below).sl
                have NB := hide (fun (W : World) (h : Below (wr.alloc (.cells #[.int .i64 x.u, .int .i64 x.n, .int .i64 x.k, .int .i64 x.a, .int .i64 x.b] 44)).heap.size (wr.alloc (.cells #[.int .i64 x.u, .int .i64 x.n, .int .i64 x.k, .int .i64 x.a, .int .i64 x.b] 44)) W) => (Turn.of (F := Non) h).owns (own_oneD wr x) (fun _ _ h => h))
                skip
                have hgw : g < wr.heap.size := Nat.lt_of_lt_of_le (HO.out.blk g ⟨0, none, rfl⟩).2 Z.out.below.size
                have ST := hide (fun (W : World) (h : Turn (Blk (some ⟨wr.heap.size, 0, none⟩)) wr W) => rdD ((SLX.out.turn h (fun _ k hk hk' => by rw [blk_some] at hk hk'; omega)).toD (Nat.le_of_eq HNQ.out)) rfl)
                have LD := hide (show (flatE eD (U.drop at_)).length = (0) * 5 by rw [flatE_len, List.length_drop, HN.out, HNQ.out, Nat.sub_self]; rfl)
                have LT := hide (show (flatE eD (U.take at_)).length = at_ * 5 by rw [flatE_len, List.length_take, HN.out, Nat.min_eq_left (Nat.le_of_eq HNQ.out)]; rfl)
                have LX := hide (show (eD.enc x ++ flatE eD (U.drop at_)).length = (1 + (0)) * 5 by rw [List.length_append, LD.out, Nat.add_mul]; rfl)
                have hcl := HO.out.le.1
                have hcm := HO.out.le.2
                have b1 := hcc
                have b2_ : (at_ : Int) ≤ (N : Int) := by omega
                have b3 : (at_ : Int) ≤ (c' : Int) := by omega
                have b7 : N - at_ = 0 := by have := HNQ.out; omega
                have b4 : 1 + (0) ≤ 1000000 := by omega
                have b5 : at_ + (1 + (0)) ≤ 1000000 := by omega
                have b6 : at_ < at_ + (1 + (0)) := by omega
                unfold maxLen at hcm
                have mixed : Tryz.prog.follows Departure.mixedOrders = true := by kernel_rfl
                go_wp2_with fail
                go_region_law (first
                  | (refine step_app_ow rfl _ _ 38 rfl wr.heap.size 44 _ 5 40 Tryz.underlying38 infoD rfl (by decide) (some ⟨wr.heap.size, 0, none⟩) 1 1 (eD.enc x) (by simp [Act.eval]) (NB.out _ (by ((repeat (first | (with_reducible assumption) | (with_reducible exact Below.refl _ _) | (with_reducible refine Below.drewS ?_) | (with_reducible refine Below.allocS ?_ _))); (first | done | fail)))) (some ⟨g, at_ * 5, none⟩) (0) (c' - at_) (flatE eD (U.drop at_)) (by simp [Act.eval]) LD.out (fun h => absurd h (by decide)) (flatE_one _) (by decide) b4 (by simp) ?_; intro A3 c3 w2 r1 r2 r3; obtain ⟨g3, hA3, hg3⟩ := own_some r1 (by omega); subst hA3; have t2 := (Turn.of (F := Blk (some ⟨wr.heap.size, 0, none⟩)) (w := wr) (by ((repeat (first | (with_reducible assumption) | (with_reducible exact Below.refl _ _) | (with_reducible refine Below.drewS ?_) | (with_reducible refine Below.allocS ?_ _))); (first | done | fail)))).trans r2)
                  | (refine step_app_gr rfl _ _ 38 rfl 44 _ 5 40 Tryz.underlying38 infoD rfl (by decide) ⟨g, 0, none⟩ at_ at_ (flatE eD (U.take at_)) (by simp [Act.eval]) LT.out (ST.out _ t2) ⟨g3, 0, none⟩ (1 + (0)) c3 (eD.enc x ++ flatE eD (U.drop at_)) (by simp [Act.eval]) LX.out (own_rd r1 LX.out) b6 b5 ?_; intro c4 w3 r4 r5))
                all_goals
                  have e2 : at_ + (1 + (0)) = (uni Dec.key a (b.take (i + 1))).length := by rw [HE.out, insA_len x (by have := HN.out; omega), HN.out]; have := HNQ.out; omega
                  have e3 : flatE eD (U.take at_) ++ (eD.enc x ++ flatE eD (U.drop at_)) = flatE eD (uni Dec.key a (b.take (i + 1))) := by rw [HE.out, insA_flat, List.append_assoc]
                  have R4 := hide (show Ow eD w3 w.heap.size (some ⟨w2.heap.size, 0, none⟩) (uni Dec.key a (b.take (i + 1))).length c4 (uni Dec.key a (b.take (i + 1))) from owns_low (by rw [← e3, ← e2]; exact r4) (Nat.le_trans HB.out.size (Nat.le_trans Z.out.below.size t2.size)))
                  have B4 := hide (Below.next (Turn.onto (Below.next HB.out Z.out.below) t2 fun k hk => by rw [blk_some] at hk; have := HB.out.size; have := Z.out.below.size; omega) r5)
                  have E2 := hide e2
                  clear r1 r2 r3 r4 r5 t2 e2 e3 SLX NB ST b1 b2_ b3 b4 b5 b6 hcl hcm hgw
                  go_wp2_with fail
                  go_roundw
                  case rel => exact ⟨i + 1, w2.heap.size, c4, by go_num, by omega, by rw [← E2.out], R4, B4, hide HM.out.1⟩
                  case measure => simp [RowKit.intOf]; omega
    · obtain rfl : i = m := by omega
      have d0 : decide ((i : Int) < (i : Int)) = false := decide_eq_false (by omega)
      have hbt : b.take i = b := List.take_of_length_le (by omega)
      rw [hbt] at HO HG ⊢
      exact absurd HG.out HYPG.out
end Go.Proofs.YtalbdclcappjpaaGreat
