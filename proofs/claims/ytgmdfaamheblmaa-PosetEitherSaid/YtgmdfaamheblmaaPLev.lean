/- Levels. -/
import Derived.Test.YtgmdfaamheblmaaPOrd
namespace Go.Proofs.Ytgmdfaamheblmaa
open Go Go.RowKit PM

/-- the levels of n vertices -/
def lvL (n : Nat) (L : Nat → Nat) : List Nat := (List.range n).map L
theorem lvL_len (n L) : (lvL n L).length = n := by simp [lvL]
theorem lvL_at {n : Nat} (L : Nat → Nat) {i : Nat} (hi : i < n) : (lvL n L)[i]? = some (L i) := by simp [lvL, hi]
theorem lvL_ext {n : Nat} {L M : Nat → Nat} (h : ∀ i, i < n → L i = M i) : lvL n L = lvL n M := by
  unfold lvL
  exact List.map_congr_left fun i hi => h i (List.mem_range.1 hi)
theorem lvL_set {n : Nat} {L M : Nat → Nat} {i v : Nat} (hv : M i = v) (h : ∀ j, j ≠ i → L j = M j) : (lvL n L).set i v = lvL n M := by
  apply List.ext_getElem?
  intro k
  rw [List.getElem?_set]
  by_cases hk : k < n
  · rw [lvL_at M hk, lvL_at L hk]
    by_cases e : i = k
    · subst e; simp [lvL_len, hk, hv]
    · rw [if_neg e, h k (fun e2 => e e2.symm)]
  · rw [List.getElem?_eq_none (by rw [lvL_len]; omega), List.getElem?_eq_none (by rw [lvL_len]; omega)]
    split
    · rw [if_neg (by rw [lvL_len]; omega)]
    · rfl
theorem lvL_zero (n : Nat) : List.replicate n 0 = lvL n fun _ => 0 := by
  unfold lvL
  rw [List.map_const', List.length_range]
theorem push_le {n T L i c} (h : ∀ j, L j ≤ c) : ∀ j, push n T L i j ≤ c + 1 := fun j => by
  have h1 := h j
  have h2 := h i
  unfold push
  split <;> omega
theorem lvS_le (n T) (d : List Nat) : ∀ j, lvS n T d j ≤ d.length := by
  induction d using snocRec with
  | h0 => exact fun _ => Nat.le_refl _
  | h1 l a ih =>
    intro j
    rw [lvS_snoc, List.length_append]
    exact push_le ih j
/-- within a vertex's turn, those below j done -/
def LI (n : Nat) (T : Nat → Nat → Bool) (L : Nat → Nat) (i j : Nat) : Nat → Nat := fun a => if a < j then push n T L i a else L a
theorem LI_zero (n T L i) : LI n T L i 0 = L := by funext a; exact if_neg (by omega)
theorem LI_at (n T L i j) : LI n T L i j j = L j := if_neg (by omega)
theorem LI_self {n T L i} (h : T i i = false) (j : Nat) : LI n T L i j i = L i := by
  unfold LI push
  rw [h]
  split
  · rw [if_neg (by simp)]
  · rfl
theorem LI_next {n T L i j a} (h : a ≠ j) : LI n T L i j a = LI n T L i (j + 1) a := by
  unfold LI
  by_cases h1 : a < j
  · rw [if_pos h1, if_pos (by omega)]
  · rw [if_neg h1, if_neg (by omega)]
theorem LI_yes {n T L i j} (hj : j < n) (h : T i j = true) : LI n T L i (j + 1) j = max (L j) (L i + 1) := by
  unfold LI push
  rw [if_pos (by omega), if_pos ⟨hj, h⟩]
theorem LI_no {n T L i j} (h : T i j = false) : LI n T L i (j + 1) j = L j := by
  unfold LI push
  rw [if_pos (by omega), if_neg (by rw [h]; simp)]
theorem LI_end {n T L i a} (ha : a < n) : LI n T L i n a = push n T L i a := if_pos ha
theorem LI_le {n T L i j c} (h : ∀ j, L j ≤ c) (a : Nat) : LI n T L i j a ≤ c + 1 := by
  unfold LI
  split
  · exact push_le h a
  · have := h a; omega
theorem max_cast (a b : Nat) : max (a : Int) ((b : Int) + 1) = ((max a (b + 1) : Nat) : Int) := by omega
set_option maxHeartbeats 2000000 in
theorem lev_e (n : Int) (A : Option Addr) (m c : Nat) (l : List (Int × Int)) (w : World) (hx : YL w A m l) (hm : m ≤ maxLen) (er : Int) (he : er ≠ 0) (hr : resO n l = ([], er)) :
    Calls Try.prog 25 #[.int .i64 n, .slice A m c] w (GivesL [] er w) := by
  have HX := hide hx
  have HM := hide hm
  have HR := hide hr
  have e0 : (er == 0) = false := beq_eq_false_iff_ne.2 he
  clear hx hm hr
  go_enter Try.func25, Try.ntmps25
  go_wp2_with fail
  refine (order_any n A m c l _ HX.out HM.out [] er HR.out).mono ?_
  rintro e w1 ⟨⟨A1, c1, rfl, -, -, -⟩, B⟩
  go_wp2_with fail
  refine bodyPost_ret (v := .tuple #[.slice none 0 0, .int .i64 er]) (by simp [results, Try.results25, go_sem]) rfl ?_
  exact GivesL.nil B
set_option maxHeartbeats 8000000 in
theorem lev_y (n : Nat) (A : Option Addr) (m c : Nat) (bs : List (Nat × Nat)) (w : World) (hx : YL w A m (bs.map zA)) (hd : Dig n bs) (d : List Nat) (hdd : ord n (adj bs) = d) (hl : d.length = n) (S : Nat → Nat) (hS : lvS n (adj bs) d = S) :
    Calls Try.prog 25 #[.int .i64 (n : Int), .slice A m c] w (GivesL (lvL n S) 0 w) := by
  have HX := hide hx
  have HM := hide (dig_max hd hx)
  have HR := hide (show resO n (bs.map zA) = (d, 0) from by
    unfold resO
    rw [vB_of hd, if_pos rfl, nA_zA, Int.toNat_natCast, hdd, if_neg (by omega)])
  have HD := hide hd
  have hn := hd.le
  have HB := hide (show ∀ i ∈ d, i < n from by rw [← hdd]; exact (ord_beg n _).lt)
  obtain ⟨T, hT⟩ : ∃ T, adj bs = T := ⟨_, rfl⟩
  have HI := hide (show ∀ i, T i i = false from by rw [← hT]; exact hd.irr)
  rw [hT] at hS
  have HT := hide hT
  have HS := hide hS
  have hdl : d.length ≤ 24 := by omega
  have HL := hide hl
  clear hx hd hdd hT hS hl
  go_enter Try.func25, Try.ntmps25
  go_wp2_with fail
  refine (order_any n A m c _ _ HX.out HM.out d 0 HR.out).mono ?_
  rintro e w1 ⟨⟨A1, c1, rfl, r1, -, -⟩, B⟩
  go_wp2_with fail
  refine (suc_any A m c n bs _ HD.out (HX.out.keep B)).mono ?_
  rintro e w2 ⟨rfl, hb⟩
  rw [HT.out]
  have B := B.trans (hb.mono B.size)
  have r1 := r1.below hb
  clear hb
  obtain ⟨hb5, o5⟩ := boxO1 (rfl : w2.alloc (.cells _ 54) = _) noR zeros24
  have o5s := o5.setRow T
  have E5 := below_row hb5 (Nat.le_refl _) (cR T)
  have r5 := r1.below E5
  have B5 := B.trans (E5.mono B.size)
  have hge : w.heap.size ≤ w2.heap.size := B.size
  clear r1 B
  go_wp2_with (first | (refine wpList_store_row rfl 54 _ _ rfl (w2.heap.size) _ rfl rfl 54 _ o5.row (cR_info _) (by rw [cR_size, cR_size]) (cR_one _) ?_) | (at_make; refine wpList_make_zero _ rfl _ _ 33 rfl 3 .i64 8 Try.underlying33 int_info .i64 .i64 _ _ n rfl rfl rfl rfl (by omega) (by omega) ?_; intro g9 w9 hg9 ho9 hb9))
  generalize World.setRow _ _ _ = W5 at *
  generalize w2.heap.size = g5 at *
  rw [lvL_zero] at ho9
  clear o5 hb5 E5
  have h5 := o5s.lt
  have hne : g5 ≠ g9 := by omega
  go_loopw [28] (fun v28 wr => ∃ (k : Nat), k ≤ d.length ∧ v28 = .int .i64 ((k : Nat) : Int) ∧ Below W5.heap.size W5 wr ∧ Own wr g9 .i64 3 (lvL n (lvS n T (d.take k)))) (fun v28 _ => d.length - (RowKit.intOf v28).toNat)
  case atStart => exact ⟨0, by omega, rfl, hb9, ho9⟩
  case round =>
    clear hb9 ho9
    obtain ⟨k, hk, rfl, hb, ho⟩ := hrel
    by_cases hlt : k < d.length
    · obtain ⟨b, o, i, rfl, hi, k0⟩ := (r5.below hb).at_ hlt
      have hin : i < n := HB.out i (List.mem_of_getElem? hi)
      obtain ⟨L, hL⟩ : ∃ L, lvS n T (d.take k) = L := ⟨_, rfl⟩
      have HLE := hide (show ∀ j, L j ≤ k from fun j => by
        have := lvS_le n T (d.take k) j
        rw [List.length_take] at this
        rw [← hL]; omega)
      have HE := hide (show ∀ a, a < n → LI n T L i n a = lvS n T (d.take (k + 1)) a from fun a ha => by
        rw [List.take_add_one, hi]
        show _ = lvS n T (d.take k ++ [i]) a
        rw [lvS_snoc, hL]; exact LI_end ha)
      have HII := hide (HI.out i)
      rw [hL] at ho
      rw [← LI_zero n T L i] at ho
      have hi24 : i < 24 := by omega
      have hinn : (i : Int) < (n : Int) := by omega
      have i1 : (0 : Int) ≤ (i : Int) := by omega
      have i2 : (i : Int) < 24 := by omega
      have j1 : (0 : Int) ≤ (k : Int) := by omega
      have j2 : (k : Int) < (d.length : Int) := by omega
      clear hL hi
      go_wp2_with fail
      go_loopw [33] (fun v33 wr => ∃ (j : Nat), j ≤ n ∧ v33 = .int .i64 ((j : Nat) : Int) ∧ Below W5.heap.size W5 wr ∧ Own wr g9 .i64 3 (lvL n (LI n T L i j))) (fun v33 _ => n - (RowKit.intOf v33).toNat)
      case atStart => exact ⟨0, by omega, rfl, hb, ho⟩
      case round =>
        clear hb ho k0
        obtain ⟨j, hj, rfl, hb, ho⟩ := hrel
        by_cases hlt2 : j < n
        · have hj24 : j < 24 := by omega
          have hjn : (j : Int) < (n : Int) := by omega
          have l1 : (0 : Int) ≤ (j : Int) := by omega
          have o5 := o5s.below' hb
          have z2 := o5.cell hi24
          have y0 : wr.cell? ⟨g9, j, none⟩ = some (.int .i64 ((L j : Nat) : Int)) := by rw [← LI_at n T L i j]; exact ho.cell (lvL_at _ hlt2)
          have y1 : wr.cell? ⟨g9, i, none⟩ = some (.int .i64 ((L i : Nat) : Int)) := by rw [← LI_self (n := n) (L := L) HII.out j]; exact ho.cell (lvL_at _ hin)
          have y2 := ho.frozen j
          have q1 := HLE.out i
          have q2 := HLE.out j
          obtain ⟨r, hr⟩ : ∃ r, T i j = r := ⟨_, rfl⟩
          have HQ := hide hr
          clear hr
          go_wp2_with fail
          refine (has_any _ j hj24 _ r HQ.out).mono ?_
          rintro e w7 ⟨rfl, rfl⟩
          cases r with
          | true =>
            have HV := hide (LI_yes (L := L) hlt2 HQ.out)
            obtain ⟨x, hx⟩ : ∃ x, L i = x := ⟨_, rfl⟩
            obtain ⟨y, hy⟩ : ∃ y, L j = y := ⟨_, rfl⟩
            rw [hx] at y1 q1 HV
            rw [hy] at y0 q2 HV
            clear hx hy
            go_wp2_with fail
            refine wp_region_still_tail 13 (by kernel_rfl) (by kernel_rfl) ?_
            simp only [List.take_succ_cons, List.take_zero, List.drop_succ_cons, List.drop_zero]
            iterate 13 still_step
            refine wpStill_nil ?_
            change wpList _ _ _ _ _ wr.drew
            go_wp2_with fail
            go_roundw
            case measure => simp [RowKit.intOf]; omega
            case rel =>
              refine ⟨j + 1, by omega, by go_num, (hb.setCell hg9 _).drew, ?_⟩
              have hp := ho.put j (max_cast y x)
              rw [lvL_set (M := LI n T L i (j + 1)) (HV.out) (fun a h => LI_next h)] at hp
              exact hp
          | false =>
            go_wp2_with fail
            go_roundw
            case measure => simp [RowKit.intOf]; omega
            case rel =>
              exact ⟨j + 1, by omega, by go_num, hb, ho.cast (lvL_ext fun a _ => by
                by_cases h : a = j
                · subst h
                  rw [LI_at, LI_no HQ.out]
                · exact LI_next h)⟩
        · obtain rfl : j = n := by omega
          have d2 : decide ((j : Int) < (j : Int)) = false := decide_eq_false (by omega)
          go_wp2_with fail
          go_roundw
          case measure => simp [RowKit.intOf]; omega
          case rel => exact ⟨k + 1, by omega, by go_num, hb, ho.cast (lvL_ext HE.out)⟩
    · obtain rfl : k = d.length := by omega
      have HF := hide (show lvL n (lvS n T (d.take d.length)) = lvL n S from by rw [List.take_length, HS.out])
      have ho := ho.cast HF.out
      have d2 : decide ((d.length : Int) < (d.length : Int)) = false := decide_eq_false (by omega)
      clear hlt
      go_wp2_with fail
      refine bodyPost_ret (v := .tuple #[.slice (some ⟨g9, 0, none⟩) n n, .int .i64 0]) (by simp [results, Try.results25, go_sem]) rfl ?_
      have hr9 := ho.rl (lvL_len n S)
      exact ⟨⟨some ⟨g9, 0, none⟩, n, by rw [lvL_len], by rw [lvL_len]; exact hr9, by rw [lvL_len]; exact Nat.le_refl _, by unfold maxLen; omega⟩, B5.trans (hb.mono B5.size)⟩
end Go.Proofs.Ytgmdfaamheblmaa
