/- The reference's journal: Bytes; append to an empty slice, and where the new one lies. -/
import Derived.Test.YtjmpnpflmdpdkaaJRa
namespace Go.Proofs.Ytjmpnpflmdpdkaa
open Go Go.RowKit FM

theorem szB {W wx : World} (h : Below W.heap.size W wx) : W.heap.size ≤ wx.heap.size := h.size
/-- 'append([]byte{}, xs...)': the new slice lies in a new block -/
theorem run_append_e2 (w : World) (ty : TypeId) (S : Addr) (A : Option Addr) (m c : Nat) (news : List Nat) (hr : BR w A m news) (hN : m ≤ 1000000) :
    ∃ A' c' w', (Builtin.append_ #[31, 31] ty #[.slice (some S) 0 0, .slice A m c]).run Try.prog w = .ok (.slice A' m c') w' ∧ BR w' A' m news ∧ Below w.heap.size w w' ∧ (0 < m → ∀ g, Blk A' g → w.heap.size ≤ g) := by
  obtain ⟨i, hi, hz, hs, hb⟩ := info_parts u8_info
  have ht := Try.underlying31
  by_cases hm : m = 0
  · subst hm
    have hn : news = [] := List.eq_nil_of_length_eq_zero hr.len
    subst hn
    cases A with
    | none => exact ⟨some S, 0, w, by simp [Builtin.append_, run_underlying ht, sizeOf, typeInfo, hi, Builtin.lenOf, Builtin.firstCells, storeCells], BR.nil_, Below.refl _ _, fun h => absurd h (by omega)⟩
    | some a =>
      have h2 := run_firstCells_some (P := Try.prog) w i.size 0 a 0 c ([] : List Value) (by simp) (fun j v e => by simp at e)
      exact ⟨some S, 0, w, by simp [Builtin.append_, run_underlying ht, sizeOf, typeInfo, hi, Builtin.lenOf, h2, storeCells], BR.nil_, Below.refl _ _, fun h => absurd h (by omega)⟩
  · obtain ⟨b, o, e', hc⟩ := hr.1.2 (by omega)
    subst e'
    have hnews : ∀ j u, (cells .u8 news)[j]? = some u → w.cell? ((⟨b, o, none⟩ : Addr).add j) = some u := by
      intro j u hu
      rw [cells_getElem?] at hu
      obtain ⟨x, hx, rfl⟩ := Option.map_eq_some_iff.1 hu
      have ea : (⟨b, o, none⟩ : Addr).add j = ⟨b, o + j, none⟩ := by unfold Addr.add; split <;> simp_all
      rw [ea]
      exact hc j x hx
    have hr2 := run_append_grow (P := Try.prog) w 31 ty 5 i (.int .u8 0) ht hi hz S 0 0 [] (by simp) (fun j v e => by simp at e) ⟨b, o, none⟩ m c (cells .u8 news) (by rw [cells_length, hr.len, hs]; omega) hnews (by omega) (by omega) (growslice_fits (by omega) (by rw [hb]; omega))
    simp only [Nat.zero_add] at hr2
    refine ⟨_, _, _, hr2, ⟨⟨hr.len, fun _ => ⟨w.heap.size, 0, rfl, fun j x hx => ?_⟩⟩, hr.2⟩, (Below.refl _ _).drew.alloc (Nat.le_refl _) _, fun _ g hg => by rw [blk_some.1 hg]; exact Nat.le_refl _⟩
    rw [Nat.zero_add, cell_of_row _ w.heap.size j _ _ (0, 0) (heap_alloc_new w.drew _)]
    have hj : j < news.length := (List.getElem?_eq_some_iff.1 hx).1
    rw [Array.getElem?_append_left (by simp [cells_length]; exact hj)]
    simp [cells_getElem?, hx]
theorem step_append_e2 {w : World} {ops : Array Oper} {o : Oper} {a : Act} {K : Act → World → Prop} {Q : Exit → Act → World → Prop} {E : Prop} (hgd : o.guard = none) (s x : Operand)
    (ho : o.op = .call { callee := .builtin .append, args := #[s, x], argTypes := #[31, 31] })
    (S : Addr) (hs : a.eval s = .slice (some S) 0 0) (A : Option Addr) (m c : Nat) (news : List Nat) (hx : a.eval x = .slice A m c) (hr : BR w A m news) (hN : m ≤ 1000000) (base : Nat) (hbase : base ≤ w.heap.size)
    (h : ∀ A' c' w', BR w' A' m news → Below w.heap.size w w' → (0 < m → ∀ g, Blk A' g → base ≤ g) → K (a.put o.dst (.slice A' m c')) w') :
    if Region.wanted o (yielded ops a.tmps) = true then Oper.wp Try.prog o a w K Q else E := by
  have hw : Region.wanted o (yielded ops a.tmps) = true := by simp [Region.wanted, hgd]
  rw [if_pos hw]
  obtain ⟨A', c', w', hrun, h3, h4, h5⟩ := run_append_e2 w o.type S A m c news hr hN
  unfold Oper.wp execOp
  simp only [ho, resolve, invoke, builtin, Sem.run_bind, Sem.run_pure, Result.andThen_ok, List.map_toArray, List.map_cons, List.map_nil, hs, hx, hrun]
  exact h A' c' w' h3 h4 (fun h0 g hg => Nat.le_trans hbase (h5 h0 g hg))
theorem owns_at {w : World} {A : Option Addr} {n c k : Nat} {hs : List Hd} {h : Hd} {T : TypeId} (ho : w.ownsRow 0 T 2 (.slice A n c) n (flatH hs)) (hk : hs[k]? = some h) :
    ∃ b, A = some ⟨b, 0, none⟩ ∧ w.cell? ⟨b, k * 2, none⟩ = some (.int .u8 (h.1 : Int)) ∧ w.cell? ⟨b, k * 2 + 1, none⟩ = some (.slice h.2.1 h.2.2.1 h.2.2.2) := by
  obtain ⟨e1, e2⟩ := flatH_get hk
  have hl : k < hs.length := (List.getElem?_eq_some_iff.1 hk).1
  have hn : 0 < n := by
    have := ho.1; rw [flatH_len] at this; omega
  rcases ho.2 with ⟨_, h0⟩ | ⟨g, cap, cur, hv, rest⟩
  · omega
  · injection hv with ea _ _
    subst ea
    refine ⟨g, rfl, ?_, ?_⟩
    · have := World.ownsRow.cells ho (g := g) rfl (k * 2) _ e1
      have ea : (⟨g, 0, none⟩ : Addr).add (k * 2) = ⟨g, k * 2, none⟩ := by unfold Addr.add; split <;> simp_all
      rwa [ea] at this
    · have := World.ownsRow.cells ho (g := g) rfl (k * 2 + 1) _ e2
      have ea : (⟨g, 0, none⟩ : Addr).add (k * 2 + 1) = ⟨g, k * 2 + 1, none⟩ := by unfold Addr.add; split <;> simp_all
      rwa [ea] at this
theorem rq_step {w wr w2 w3 : World} {A2 A3 : Option Addr} {m c2 p c3 : Nat} {xs ys : List Nat} (hb : Below w.heap.size w wr) (h2 : Below wr.heap.size wr w2) (q : RQ wr (Plus Non w wr) A2 m c2 xs) (q3 : RQ w3 (Plus (Plus Non w wr) w2 w3) A3 p c3 ys) (t3 : Turn (Blk A2) w2 w3) :
    RQ w3 (Plus Non w w3) A3 p c3 ys ∧ Below w.heap.size w w3 := by
  have s1 := hb.size
  have s2 := h2.size
  have s3 := t3.size
  refine ⟨q3.mono fun k hk => ?_, t3.onto (hb.trans (h2.mono s1)) fun k hk => ?_⟩
  · rcases hk with (hk | hk) | hk
    · exact hk.elim
    · exact .inr (by omega)
    · exact .inr (by omega)
  · rcases (q.2.2 k hk).1 with h | h
    · exact h.elim
    · exact h.1
theorem rq_lit {w W : World} (h1 : Below w.heap.size w W) (h2 : BR W (some ⟨w.heap.size, 0, none⟩) 5 coin) (h3 : W.heap.size = w.heap.size + 1) : RQ W (Plus Non w W) (some ⟨w.heap.size, 0, none⟩) 5 5 (jb (([] : List Ent).take 0)) := by
  have := h1.size
  refine ⟨.inr ⟨h2.1, rfl, rfl⟩, coin_by, fun g hg => ?_⟩
  have e := blk_some.1 hg
  subst e
  exact ⟨.inr (by omega), by omega⟩
theorem rbytes_nil (w : World) : Calls Try.prog 30 #[.pointer none] w fun e w' => e = .returned (.slice none 0 0) ∧ w = w' := by
  go_enter Try.func30, Try.ntmps30
  go_wp2_with fail
  go_ret
  exact ⟨rfl, rfl⟩
set_option maxHeartbeats 8000000 in
theorem rbytes_any (q B : Nat) (G : Nat → Prop) (es : List Ent) (w : World) (h : RJ w B G q es) (N : Nat) (hN : (jb es).length = N) : Calls Try.prog 30 #[.pointer (some ⟨q, 0, none⟩)] w fun e w' => ∃ A c, e = .returned (.slice A N c) ∧ BR w' A N (jb es) ∧ Below w.heap.size w w' := by
  obtain ⟨A, n, c, hv, D, h1, h2, h3, h4, h5, h6, h7, h8, h9, h10, h11⟩ := h
  have k0 : w.cell? ⟨q, 0, none⟩ = some (.slice A n c) := h1.at_ 0
  have kc := fun (w : World) (C : Array Value) (n c : Nat) => Lib.run_convert_bytes_const (P := Try.prog) w 31 5 C n c Try.underlying31 Try.underlying5
  have HB1 := hide h1
  have HRow := hide h4
  have HV := hide h7
  have HOk := hide h10
  have HN := hide hN
  have HL := hide h11
  have hcl := owns_le h4
  unfold maxLen at hcl
  subst h9
  have hes : es.length ≤ 65536 := by
    have e1 : ∀ l : List Ent, l.length ≤ (fr l).length := by
      intro l
      induction l with
      | nil => simp
      | cons x l ih => rw [fr_cons, List.length_append, frame_len, List.length_cons]; omega
    have := e1 es; rw [jb_len] at h11; omega
  clear h1 h2 h3 h4 h5 h6 h7 h8 h10 h11 hN
  go_enter Try.func30, Try.ntmps30
  go_wp2_with fail
  obtain ⟨a1, a2, a3⟩ := litC coin (rfl : w.alloc (.cells #[.int .u8 67, .int .u8 79, .int .u8 73, .int .u8 78, .int .u8 49] 5 (5, 6)) = _) rfl rfl coin_by
  have HQ0 := hide (rq_lit a1 a2 a3)
  have HA1 := hide a1
  clear a1 a2 a3 kc k0
  generalize hW : World.alloc w _ = W at *
  clear hW
  go_loopw [3, 4] (fun v3 v4 wr => ∃ (k m c2 : Nat) (A2 : Option Addr), v3 = .slice A2 m c2 ∧ v4 = .int .i64 (k : Int) ∧ k ≤ es.length ∧ RQ wr (Plus Non w wr) A2 m c2 (jb (es.take k)) ∧ Below w.heap.size w wr) (fun _ v4 _ => es.length - (intOf v4).toNat)
  case atStart => exact ⟨0, 5, 5, _, rfl, rfl, by omega, HQ0.out, HA1.out⟩
  case round =>
    clear HQ0 HA1
    obtain ⟨k, m, c2, A2, rfl, rfl, hk, hq, hb⟩ := hrel
    have HQ := hide hq
    have HB := hide hb
    have k0 : wr.cell? ⟨q, 0, none⟩ = some (.slice A es.length c) := (HB1.out.below' hb).at_ 0
    have hql := hq.len
    clear hq hb
    by_cases hlt : k < es.length
    · have he : es[k]? = some es[k] := List.getElem?_eq_getElem hlt
      generalize es[k] = e at he
      obtain ⟨hd, hhk, d1, d2, d3⟩ := HV.out.at_ he
      obtain ⟨b, rfl, c0, c1⟩ := owns_at HRow.out hhk
      obtain ⟨o1, o2, o3⟩ := HOk.out.get he
      obtain ⟨hk1, hA, hn1, hc1⟩ := hd
      dsimp only at d1 d2 c0 c1
      subst d1
      have HD := hide (d2.below HB.out)
      have HO1 := hide o1
      have hn8 : hn1 ≤ 8192 := by rw [← d2.len]; exact o3
      have HJ := hide (show jb (es.take k) ++ frame e.1 e.2 = jb (es.take (k + 1)) from by rw [take_snocE he, jb_snoc])
      have hjl : m + (hn1 + 9) ≤ 65536 := by
        have e1 := jl_le es (k + 1)
        have e2 := jl_succ he
        have e3 := HL.out
        have e4 := d2.len
        unfold jl at e1 e2
        omega
      have KS : Hid (∀ w', Below wr.heap.size wr w' → w'.cell? ⟨q, 0, none⟩ = some (.slice (some ⟨b, 0, none⟩) es.length c) ∧ w'.cell? ⟨b, k * 2, none⟩ = some (.int .u8 (e.1 : Int)) ∧ w'.cell? ⟨b, k * 2 + 1, none⟩ = some (.slice hA hn1 hc1)) := fun w' h => by
        have hb := HB.out.trans (h.mono HB.out.size)
        exact ⟨(HB1.out.below' hb).at_ 0, (hb.cell (p := ⟨b, k * 2, none⟩) (World.block_lt_of_cell? w _ c0)).trans c0, (hb.cell (p := ⟨b, k * 2 + 1, none⟩) (World.block_lt_of_cell? w _ c1)).trans c1⟩
      have i1 : (k : Int) < (es.length : Int) := by omega
      have i2 : (0 : Int) ≤ (k : Int) := by omega
      clear c0 c1 d2 d3 o1 o2 o3 he hhk
      go_wp2_with fail
      go_region_held3 (fun w' => w'.cell? ⟨q, 0, none⟩ = some (.slice (some ⟨b, 0, none⟩) es.length c) ∧ w'.cell? ⟨b, k * 2, none⟩ = some (.int .u8 (e.1 : Int)) ∧ w'.cell? ⟨b, k * 2 + 1, none⟩ = some (.slice hA hn1 hc1))
        (exact KS.out _ (by ((repeat (first | (with_reducible assumption) | (with_reducible exact Below.refl _ _) | (with_reducible refine Below.drewS ?_) | (with_reducible refine Below.allocS ?_ _))); (first | done | fail))))
        ((go_simp; go_at_call 29; (with_reducible refine (rseal_any e.1 hA hn1 hc1 e.2 _ (HD.out.below (by ((repeat (first | (with_reducible assumption) | (with_reducible exact Below.refl _ _) | (with_reducible refine Below.drewS ?_) | (with_reducible refine Below.allocS ?_ _))); (first | done | fail)))) HO1.out hn8 _ rfl).mono ?_); rintro e1 w2 ⟨A4, c4, rfl, hr4, hb4⟩; have E1 : Below wr.heap.size wr w2 := Below.next (by ((repeat (first | (with_reducible assumption) | (with_reducible exact Below.refl _ _) | (with_reducible refine Below.drewS ?_) | (with_reducible refine Below.allocS ?_ _))); (first | done | fail))) hb4))
      all_goals
        have HR4 := hide (RB.br hr4 (frame_by HO1.out HD.out.2))
        have HQ2 := hide (HQ.out.turn (Turn.of (F := Non) E1) (fun _ _ => id))
        have HE1 := hide E1
        clear hr4 hb4 E1 k0
        go_wp2_with (at_builtin; refine wpList_append_rq rfl _ _ 31 rfl Try.underlying31 u8_info (Plus Non w wr) A2 m c2 (jb (es.take k)) rfl HQ2.out A4 (hn1 + 9) c4 (frame e.1 e.2) rfl HR4.out (by omega) (m + (hn1 + 9)) rfl (by omega) ?_; intro A5 c5 w5 q5 t5 _)
        have g1 := rq_step HB.out HE1.out HQ.out q5 t5
        rw [HJ.out] at g1
        go_roundw
        case measure => simp [intOf]; omega
        case rel => exact ⟨k + 1, _, c5, A5, rfl, by go_num, by omega, g1.1, g1.2⟩
    · obtain rfl : k = es.length := by omega
      have HQ3 := hide (show RQ wr (Plus Non w wr) A2 m c2 (jb es) from by have := HQ.out; rwa [List.take_length] at this)
      obtain rfl : m = N := by rw [← HQ3.out.len]; exact HN.out
      clear HQ
      go_wp2_with fail
      go_ret
      exact ⟨A2, c2, rfl, HQ3.out.br, HB.out⟩
end Go.Proofs.Ytjmpnpflmdpdkaa
