/- The order of a digraph. -/
import Derived.Test.YtgmdfaamheblmaaPRow
import Derived.Test.YtgmdfaamheblmaaPRes
namespace Go.Proofs.Ytgmdfaamheblmaa
open Go Go.RowKit PM

/-- the vertex i is not done, and all before it are -/
def pB (R : Nat → Nat → Bool) (D : Nat → Bool) (i : Nat) : Bool := !D i && decide (msk (fun j => R i j && !D j) = 0)
theorem least_ext {n : Nat} {p q : Nat → Bool} (h : ∀ i, i < n → p i = q i) : least n p = least n q := by
  rcases least_spec n p with ⟨h1, h2⟩ | ⟨h1, h2, h3⟩
  · rw [h1, least_none fun j hj => by rw [← h j hj]; exact h2 j hj]
  · exact (least_uniq h1 ((h _ h1).symm.trans h2) fun j hj => (h j (by omega)).symm.trans (h3 j hj)).symm
theorem leastF_hit {n : Nat} {p : Nat → Bool} {f i r : Nat} (h : leastF n p (f + 1) i = r) (hp : p i = true) : i = r := by
  unfold leastF at h
  rwa [if_pos hp] at h
theorem leastF_miss {n : Nat} {p : Nat → Bool} {f i r : Nat} (h : leastF n p (f + 1) i = r) (hp : p i = false) : leastF n p f (i + 1) = r := by
  unfold leastF at h
  rwa [if_neg (by rw [hp]; decide)] at h
set_option maxHeartbeats 4000000 in
theorem ready_any (n : Nat) (R : Nat → Nat → Bool) (D : Nat → Bool) (w : World) (hn : n ≤ 24) (r : Nat) (hr : least n (pB R D) = r) :
    Calls Try.prog 54 #[.int .i64 (n : Int), .agg (cR R), .int .u32 (msk D : Int)] w fun e w' => e = .returned (.int .i64 (r : Int)) ∧ Below w.heap.size w w' := by
  have HR := hide hr
  clear hr
  go_enter Try.func54, Try.ntmps54
  go_wp2_with fail
  generalize hW : w.alloc _ = W
  obtain ⟨B, o4⟩ := boxO1 hW R rfl
  clear hW
  go_loopw [9] (fun v9 wr => ∃ (i f : Nat), i + f = n ∧ v9 = .int .i64 ((i : Nat) : Int) ∧ wr = W ∧ Hid (leastF n (pB R D) f i = r)) (fun v9 _ => n - (RowKit.intOf v9).toNat)
  case atStart => exact ⟨0, n, by omega, rfl, rfl, hide HR.out⟩
  case round =>
    obtain ⟨i, f, hif, rfl, rfl, HL⟩ := hrel
    by_cases hlt : i < n
    · obtain ⟨f, rfl⟩ : ∃ g, f = g + 1 := ⟨f - 1, by omega⟩
      have hi24 : i < 24 := by omega
      have hin : (i : Int) < (n : Int) := by omega
      have i1 : (0 : Int) ≤ (i : Int) := by omega
      have i2 : (i : Int) < 24 := by omega
      have z2 := o4.cell hi24
      have HB := hide (b_not (R i) D)
      obtain ⟨d, hd⟩ : ∃ d, D i = d := ⟨_, rfl⟩
      have HD := hide hd
      clear hd
      go_wp2_with fail
      refine (has_any D i hi24 _ d HD.out).mono ?_
      rintro e w7 ⟨rfl, rfl⟩
      cases d with
      | true =>
        have HN := hide (leastF_miss HL.out (show pB R D i = false by unfold pB; rw [HD.out]; rfl))
        go_wp2_with fail
        go_roundw
        case measure => simp [RowKit.intOf]; omega
        case rel => exact ⟨i + 1, f, by omega, by go_num, (by first | rfl | trivial), HN⟩
      | false =>
        obtain ⟨z, hz⟩ : ∃ z, bits .andNot .u32 (msk (R i) : Int) (msk D : Int) = z := ⟨_, rfl⟩
        by_cases h0 : msk (fun j => R i j && !D j) = 0
        · have e0 : (z == 0) = true := by rw [← hz, HB.out, h0]; rfl
          obtain rfl := leastF_hit HL.out (show pB R D i = true by unfold pB; rw [HD.out, decide_eq_true h0]; rfl)
          clear h0 HL
          go_wp2_with fail
          go_ret
          exact ⟨rfl, B⟩
        · have e0 : (z == 0) = false := by rw [← hz, HB.out]; exact beq_eq_false_iff_ne.2 (by omega)
          have HN := hide (leastF_miss HL.out (show pB R D i = false by unfold pB; rw [decide_eq_false h0, Bool.and_false]))
          clear h0 HL
          go_wp2_with fail
          go_roundw
          case measure => simp [RowKit.intOf]; omega
          case rel => exact ⟨i + 1, f, by omega, by go_num, (by first | rfl | trivial), HN⟩
    · obtain rfl : f = 0 := by omega
      obtain rfl : i = n := by omega
      obtain rfl : i = r := HL.out
      have d2 : decide ((i : Int) < (i : Int)) = false := decide_eq_false (by omega)
      clear hlt
      go_wp2_with fail
      go_ret
      exact ⟨rfl, B⟩
/-- the vertices of a list -/
def dn (d : List Nat) (j : Nat) : Bool := d.contains j
/-- the program's test is the mathematics' -/
theorem pB_rdy {n : Nat} {T : Nat → Nat → Bool} (hT : Fits n T) (hn : n ≤ 24) (d : List Nat) (i : Nat) : pB (fun a b => T b a) (dn d) i = rdyB n T d i := by
  unfold pB rdyB
  congr 1
  rw [Bool.eq_iff_iff, decide_eq_true_iff, msk_zero, List.all_eq_true]
  constructor
  · intro h p hp
    have := h p (by have := List.mem_range.1 hp; omega)
    simp only at this
    cases h1 : T p i
    · rfl
    · rw [h1] at this
      cases h2 : d.contains p
      · rw [show dn d p = false from h2] at this; cases this
      · rfl
  · intro h j hj
    show (T j i && !dn d j) = false
    cases ht : T j i
    · rfl
    · have := h j (List.mem_range.2 (hT _ _ ht).1)
      rw [ht] at this
      rw [show dn d j = true from this]; rfl
theorem nxt_pB {n : Nat} {T : Nat → Nat → Bool} (hT : Fits n T) (hn : n ≤ 24) (d : List Nat) : least n (pB (fun a b => T b a) (dn d)) = nxt n T d := least_ext fun i _ => pB_rdy hT hn d i
theorem contains_snoc (d : List Nat) (i j : Nat) : (d ++ [i]).contains j = (d.contains j || (j == i)) := by
  rw [Bool.eq_iff_iff, List.contains_iff_mem, Bool.or_eq_true, List.contains_iff_mem, List.mem_append, beq_iff_eq]
  simp
def slen : Value → Nat
  | .slice _ n _ => n
  | _ => 0
set_option maxHeartbeats 8000000 in
theorem sorted_any (A : Option Addr) (m c : Nat) (n : Nat) (bs : List (Nat × Nat)) (w : World) (hd : Dig n bs) (hx : YL w A m (bs.map zA)) (d : List Nat) (hdd : ord n (adj bs) = d) :
    Calls Try.prog 37 #[.int .i64 (n : Int), .slice A m c] w fun e w' => (∃ A' c', e = .returned (.slice A' d.length c') ∧ IR w' w.heap.size A' d.length c' d) ∧ Below w.heap.size w w' := by
  have HX := hide hx
  have HD := hide hd
  have hn := hd.le
  have HT := hide hd.adj
  have HDD := hide hdd
  clear hx hd hdd
  go_enter Try.func37, Try.ntmps37
  go_wp2_with fail
  refine (pre_any A m c n bs _ HD.out HX.out).mono ?_
  rintro e w1 ⟨rfl, B⟩
  obtain ⟨T, hTT⟩ : ∃ T, adj bs = T := ⟨_, rfl⟩
  rw [hTT] at HT HDD
  have HTT := hide (show (fun i j => adj bs j i) = fun i j => T j i from by rw [hTT])
  rw [HTT.out]
  clear hTT
  obtain ⟨hb5, o5⟩ := boxO1 (rfl : w1.alloc (.cells _ 54) = _) noR zeros24
  have o5s := o5.setRow (fun i j => T j i)
  have B5 := below_row (B.trans (hb5.mono B.size)) B.size (cR fun i j => T j i)
  go_wp2_with (first | (refine wpList_store_row rfl 54 _ _ rfl (w1.heap.size) _ rfl rfl 54 _ o5.row (cR_info _) (by rw [cR_size, cR_size]) (cR_one _) ?_) | (refine wpList_load_row rfl 54 _ rfl (w1.heap.size) rfl 54 _ (0, 0) _ o5s.row Try.underlying54 rfl (cR_info _) ?_))
  generalize World.setRow _ _ _ = W5 at *
  have hge : w.heap.size ≤ w1.heap.size := B.size
  generalize w1.heap.size = g5 at *
  clear o5 B hb5
  have B := B5
  have o5 := o5s
  clear B5 o5s
  refine (ready_any n (fun i j => T j i) (dn []) _ hn _ (nxt_pB HT.out hn [])).mono ?_
  rintro e w6 ⟨rfl, hb6⟩
  have B := B.trans (hb6.mono B.size)
  have hg5 := o5.lt
  have o5 := o5.below' hb6
  have hg6 : g5 < w6.heap.size := o5.lt
  have hw6 := B.size
  clear hb6 hg5
  obtain ⟨G, hG⟩ : ∃ G, w6.heap.size = G := ⟨_, rfl⟩
  rw [hG] at hg6 hw6
  have HG := hide hG
  clear hG
  go_wp2_with fail
  go_loopw [6, 7, 8] (fun v6 v7 v8 wr => ∃ (s : List Nat) (q : Nat) (As : Option Addr) (cs : Nat), v6 = .slice As q cs ∧ v7 = .int .u32 (msk (dn s) : Int) ∧ v8 = .int .i64 (nxt n T s : Int) ∧ IR wr G As q cs s ∧ Beg n T s ∧ q ≤ n ∧ Hid (ordF n T (n - q) s = d) ∧ Below w.heap.size w wr ∧ OR wr g5 (fun i j => T j i) ∧ G ≤ wr.heap.size) (fun v6 _ _ _ => n - slen v6)
  case atStart => exact ⟨[], 0, none, 0, rfl, rfl, rfl, IR.nil_, Beg.nil, Nat.zero_le _, HDD, B, o5, Nat.le_of_eq HG.out.symm⟩
  case round =>
    clear B o5 HG
    obtain ⟨s, q, As, cs, rfl, rfl, rfl, hr, hbeg, hqn, HO, B, o5, hGw⟩ := hrel
    obtain ⟨x, hx⟩ : ∃ x, nxt n T s = x := ⟨_, rfl⟩
    rw [hx]
    have hlen : s.length = q := hr.len
    by_cases hlt : x < n
    · have hq : q < n := by
        have hr2 : rdyB n T s x = true := by
          rcases nxt_spec n T s with ⟨h1, _⟩ | ⟨_, h2⟩
          · omega
          · rwa [hx] at h2
        have := (hbeg.snoc hlt hr2).len
        simp at this; omega
      have HBG := hide (show Beg n T (s ++ [x]) from hbeg.snoc hlt (by
        rcases nxt_spec n T s with ⟨h1, _⟩ | ⟨_, h2⟩
        · omega
        · rwa [hx] at h2))
      have HO2 := hide (show ordF n T (n - (q + 1)) (s ++ [x]) = d from by
        have h1 := HO.out
        rw [show n - q = (n - (q + 1)) + 1 by omega] at h1
        unfold ordF at h1
        rwa [hx, if_pos hlt] at h1)
      have hx24 : x < 24 := by omega
      have hxn : (x : Int) < (n : Int) := by omega
      have HM := hide (show (msk fun j => dn s j || (j == x)) = msk (dn (s ++ [x])) from msk_ext fun j _ => (contains_snoc s x j).symm)
      have HBF := hide hGw
      have F : Below wr.heap.size wr (wr.alloc (.cells #[.int .i64 (x : Int)] 3)) := (Below.refl _ _).alloc (Nat.le_refl _) _
      have HNX := hide hx
      clear hx hbeg HO
      go_wp2_with (at_builtin; refine wpList_append_ir rfl _ _ 33 rfl 8 Try.underlying33 int_info G _ q cs s rfl (hr.below F) wr.heap.size 0 1 x rfl (Box.new wr #[.int .i64 (x : Int)] 3).cell (by omega) (q + 1) rfl (by omega) (by have := HBF.out; simp; omega) ?_; intro A9 c9 w9 hr9 hG9)
      have o9 := hG9.or (o5.below' F) (fun b o e => by have := (hr.lt b o e).1; omega)
      have B9 := (B.trans (F.mono B.size)).trans (hG9.1.mono hw6)
      have hs9 : G ≤ w9.heap.size := Nat.le_trans HBF.out (Nat.le_trans F.size hG9.2.1)
      clear o5 hr F hG9 B
      refine (with_any (dn s) x hx24 _ _ HM.out).mono ?_
      rintro e w7 ⟨rfl, rfl⟩
      go_wp2_with (first | (refine wpList_load_row rfl 54 _ rfl (g5) rfl 54 _ (0, 0) _ o9.row Try.underlying54 rfl (cR_info _) ?_))
      refine (ready_any n (fun i j => T j i) (dn (s ++ [x])) _ hn _ (nxt_pB HT.out hn (s ++ [x]))).mono ?_
      rintro e w10 ⟨rfl, hb⟩
      go_wp2_with fail
      go_roundw
      case measure => simp [slen]; omega
      case rel => exact ⟨s ++ [x], q + 1, A9, c9, rfl, rfl, rfl, hr9.below hb, HBG.out, by omega, HO2, B9.trans (hb.mono B9.size), o9.below' hb, Nat.le_trans hs9 hb.size⟩
    · have hxx : x = n := by have := least_le n (rdyB n T s); unfold nxt at hx; omega
      obtain rfl : s = d := by
        have h1 := HO.out
        rcases h2 : n - q with _ | f
        · rw [h2] at h1; exact h1
        · rw [h2] at h1
          unfold ordF at h1
          rwa [hx, if_neg hlt] at h1
      subst hlen
      have d2 : decide ((x : Int) < (n : Int)) = false := decide_eq_false (by omega)
      have d3 : decide (x < n) = false := decide_eq_false (by omega)
      clear hx HO HDD hlt hxx
      go_wp2_with fail
      go_ret
      exact ⟨⟨As, cs, rfl, hr.low hw6⟩, B⟩
end Go.Proofs.Ytgmdfaamheblmaa
