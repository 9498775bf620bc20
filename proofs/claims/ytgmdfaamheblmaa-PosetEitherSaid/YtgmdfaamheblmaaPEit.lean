/- The body of PosetEither. -/
import Derived.Test.YtgmdfaamheblmaaPEiM
import Derived.Test.YtgmdfaamheblmaaPCyc
import Derived.Test.YtgmdfaamheblmaaPAwk
import Derived.Test.YtgmdfaamheblmaaPRef
namespace Go.Proofs.Ytgmdfaamheblmaa
open Go Go.RowKit PM

theorem drop_atL {l : List Nat} {i : Nat} {s : Nat} (h : l[i]? = some s) : l.drop i = s :: l.drop (i + 1) := by
  obtain ⟨hj, e⟩ := List.getElem?_eq_some_iff.1 h
  rw [List.drop_eq_getElem_cons hj, e]
set_option maxHeartbeats 2000000 in
theorem index_any (A : Option Addr) (n c : Nat) (xs : List Nat) (x : Nat) (w : World) (hx : RL w .i64 A n xs) (hn : n ≤ 100000) (r : Int) (hr : idxN x xs 0 = r) :
    Calls Try.prog 33 #[.slice A n c, .int .i64 (x : Int)] w fun e w' => e = .returned (.int .i64 r) ∧ w = w' := by
  have HX := hide hx
  have HR := hide hr
  clear hx hr
  go_enter Try.func33, Try.ntmps33
  go_wp2_with fail
  go_loop [5] (fun v5 => ∃ (k : Nat), k ≤ n ∧ v5 = .int .i64 ((k : Nat) : Int) ∧ Hid (idxN x (xs.drop k) k = r)) (fun v5 => n - (RowKit.intOf v5).toNat)
  case atStart => exact ⟨0, by omega, rfl, hide (by rw [List.drop_zero]; exact HR.out)⟩
  case round =>
    obtain ⟨k, hk, rfl, HS⟩ := hrel
    by_cases hlt : k < n
    · obtain ⟨b, o, y, rfl, hy, k0⟩ := HX.out.at_ hlt
      have HD := hide (show (if y = x then (k : Int) else idxN x (xs.drop (k + 1)) (k + 1)) = r from by rw [← HS.out, drop_atL hy]; rfl)
      have i1 : (0 : Int) ≤ (k : Int) := by omega
      have i2 : (k : Int) < (n : Int) := by omega
      clear hy HS
      by_cases h : y = x
      · have e1 : ((y : Int) == (x : Int)) = true := beq_iff_eq.2 (by omega)
        have e2 : (y : Int) = (x : Int) := by omega
        obtain rfl : r = (k : Int) := by rw [← HD.out, if_pos h]
        subst h
        go_wp2_with fail
        go_ret
        exact ⟨rfl, rfl⟩
      · have e1 : ((y : Int) == (x : Int)) = false := beq_eq_false_iff_ne.2 (by omega)
        have e2 : ¬ (y : Int) = (x : Int) := by omega
        have H2 := hide (show idxN x (xs.drop (k + 1)) (k + 1) = r from by rw [← HD.out, if_neg h])
        clear h HD
        go_wp2_with fail
        go_round
        case rel => exact ⟨k + 1, by omega, by go_num, H2⟩
        case measure => simp [RowKit.intOf]; omega
    · obtain rfl : k = n := by omega
      obtain rfl : r = -1 := by
        rw [← HS.out, List.drop_of_length_le (by rw [HX.out.len]; exact Nat.le_refl _)]; rfl
      go_wp2_with fail
      go_ret
      exact ⟨rfl, rfl⟩
set_option maxHeartbeats 8000000 in
set_option maxRecDepth 100000 in
theorem eit_no (n : Int) (A : Option Addr) (m c : Nat) (l : List (Int × Int)) (w : World) (hx : YL w A m l) (hm : m ≤ maxLen) (hf : ¬ m ≤ 150) :
    Calls Try.prog 9 #[.int .i64 n, .slice A m c] w fun e w' => e = .returned (.bool true) ∧ Below w.heap.size w w' := by
  have HX := hide hx
  have HM := hide hm
  have HF := hide (show decide (m ≤ 150) = false from decide_eq_false hf)
  clear hf
  clear hx hm
  go_enter Try.func9, Try.ntmps9
  go_wp2_with fail
  refine (awake_yes _).mono ?_
  rintro e w1 ⟨rfl, B⟩
  go_wp2_with fail
  refine (few_any A m c _ HM.out false HF.out).mono ?_
  rintro e w2 ⟨rfl, rfl⟩
  go_wp2_with fail
  refine (awake_yes _).mono ?_
  rintro e w2 ⟨rfl, hb⟩
  have B := B.trans (hb.mono B.size)
  go_wp2_with fail
  go_ret
  exact ⟨rfl, B⟩
set_option maxHeartbeats 8000000 in
set_option maxRecDepth 100000 in
theorem eit_v (n : Int) (A : Option Addr) (m c : Nat) (l : List (Int × Int)) (w : World) (hx : YL w A m l) (hm : m ≤ maxLen) (hf : m ≤ 150) (hv : vB n l = false) :
    Calls Try.prog 9 #[.int .i64 n, .slice A m c] w fun e w' => e = .returned (.bool true) ∧ Below w.heap.size w w' := by
  have HX := hide hx
  have HM := hide hm
  have HF := hide (show decide (m ≤ 150) = true from decide_eq_true hf)
  have HV := hide hv
  have HO := hide (show resO n l = ([], 1) from by unfold resO; rw [hv, if_neg (by decide)])
  have HK := hide (show resK n l = ([], 1) from by unfold resK; rw [hv, if_neg (by decide)])
  clear hf hv
  clear hx hm
  go_enter Try.func9, Try.ntmps9
  go_wp2_with fail
  refine (awake_yes _).mono ?_
  rintro e w1 ⟨rfl, B⟩
  go_wp2_with fail
  refine (few_any A m c _ HM.out true HF.out).mono ?_
  rintro e w2 ⟨rfl, rfl⟩
  go_wp2_with fail
  refine (order_any n A m c l _ (HX.out.keep B) HM.out [] 1 HO.out).mono ?_
  rintro e w3 ⟨⟨A3, c3, rfl, r3, -, -⟩, hb⟩
  have B := B.trans (hb.mono B.size)
  clear hb
  go_wp2_with fail
  refine (cycle_any n A m c l _ (HX.out.keep B) HM.out [] 1 HK.out).mono ?_
  rintro e w4 ⟨⟨A4, c4, rfl, r4, -, -⟩, hb⟩
  have B := B.trans (hb.mono B.size)
  have r3 := r3.below hb
  clear hb
  go_wp2_with fail
  refine (valid_any n A m c l _ (HX.out.keep B) HM.out false HV.out).mono ?_
  rintro e w5 ⟨rfl, hb⟩
  have B := B.trans (hb.mono B.size)
  clear hb
  go_wp2_with fail
  go_ret
  exact ⟨rfl, B⟩
set_option maxHeartbeats 8000000 in
set_option maxRecDepth 100000 in
theorem eit_o (N : Nat) (A : Option Addr) (m c : Nat) (bs : List (Nat × Nat)) (w : World) (hx : YL w A m (bs.map zA)) (hm : m ≤ maxLen) (hf : m ≤ 150) (hd : Dig N bs) (hl : (ord N (adj bs)).length = N) :
    Calls Try.prog 9 #[.int .i64 (N : Int), .slice A m c] w fun e w' => e = .returned (.bool true) ∧ Below w.heap.size w w' := by
  have HX := hide hx
  have HM := hide hm
  have HF := hide (show decide (m ≤ 150) = true from decide_eq_true hf)
  have HV := hide (vB_of hd)
  have hn := hd.le
  have HT := hide hd.adj
  have HO := hide (show resO N (bs.map zA) = (ord N (adj bs), 0) from by unfold resO; rw [vB_of hd, if_pos rfl, nA_zA, Int.toNat_natCast, if_neg (by omega)])
  have HL := hide (show resV N (bs.map zA) = (lvL N (lvS N (adj bs) (ord N (adj bs))), 0) from by unfold resV; rw [HO.out, if_pos rfl, nA_zA, Int.toNat_natCast])
  have HA := hide (show acB N (bs.map zA) = true from by unfold acB; rw [vB_of hd, nA_zA, Int.toNat_natCast, Bool.true_and]; exact decide_eq_true hl)
  have HK := hide (show resK N (bs.map zA) = ([], 7) from by
    unfold resK
    rw [vB_of hd, if_pos rfl, nA_zA, Int.toNat_natCast]
    unfold resK'
    rw [if_neg]
    exact fun h => (lenP_acy hd.adj).1 h ((ord_acy hd.adj).1 hl))
  have HFA := hide (fun (p q : Nat) (h : (p, q) ∈ bs) => ord_facts hd.adj hl (adj_iff.2 h))
  have HFT := hide hd.fits
  clear hd
  obtain ⟨d, hdd⟩ : ∃ d, ord N (adj bs) = d := ⟨_, rfl⟩
  rw [hdd] at hl HO HL HFA
  clear hdd
  obtain ⟨L, hLL⟩ : ∃ L, lvS N (adj bs) d = L := ⟨_, rfl⟩
  rw [hLL] at HL HFA
  clear hLL
  have HDN := hide hl
  clear hl
  clear hx hm
  go_enter Try.func9, Try.ntmps9
  go_wp2_with fail
  refine (awake_yes _).mono ?_
  rintro e w1 ⟨rfl, B⟩
  go_wp2_with fail
  refine (few_any A m c _ HM.out true HF.out).mono ?_
  rintro e w2 ⟨rfl, rfl⟩
  go_wp2_with fail
  refine (order_any N A m c _ _ (HX.out.keep B) HM.out d 0 HO.out).mono ?_
  rintro e w3 ⟨⟨A3, c3, rfl, r3, -, -⟩, hb⟩
  have B := B.trans (hb.mono B.size)
  clear hb
  rw [HDN.out] at r3 ⊢
  go_wp2_with fail
  refine (cycle_any N A m c _ _ (HX.out.keep B) HM.out [] 7 HK.out).mono ?_
  rintro e w4 ⟨⟨A4, c4, rfl, r4, -, -⟩, hb⟩
  have B := B.trans (hb.mono B.size)
  have r3 := r3.below hb
  clear hb r4
  go_wp2_with fail
  refine (levels_any N A m c _ _ (HX.out.keep B) HM.out _ 0 HL.out).mono ?_
  rintro e w5 ⟨⟨A5, c5, rfl, r5, -, -⟩, hb⟩
  have B := B.trans (hb.mono B.size)
  have r3 := r3.below hb
  clear hb
  rw [lvL_len] at r5 ⊢
  go_wp2_with fail
  refine (rvalid_any N A m c _ _ (HX.out.keep B) true HV.out).mono ?_
  rintro e w6 ⟨rfl, hb⟩
  have B := B.trans (hb.mono B.size)
  have r3 := r3.below hb
  have r5 := r5.below hb
  clear hb
  have z1 : ((N : Int) == (N : Int)) = true := beq_iff_eq.2 rfl
  have z2 : ((N : Int) != (N : Int)) = false := by simp
  have z3 : (N == N) = true := beq_iff_eq.2 rfl
  have z4 : (N != N) = false := by simp
  go_wp2_with fail
  refine (acyclic_any N A m c _ _ (HX.out.keep B) HM.out true HA.out).mono ?_
  rintro e w7 ⟨rfl, hb⟩
  have B := B.trans (hb.mono B.size)
  have r3 := r3.below hb
  have r5 := r5.below hb
  clear hb z1 z2 z3 z4
  have HR3 := hide r3
  have HR5 := hide r5
  clear r3 r5
  go_wp2_with fail
  go_loopw [11] (fun v11 wr => ∃ k q : Nat, k ≤ m ∧ v11 = .int .i64 ((k : Nat) : Int) ∧ wr = w7.drewN q) (fun v11 _ => m - (RowKit.intOf v11).toNat)
  case atStart => exact ⟨0, 0, Nat.zero_le _, rfl, rfl⟩
  case round =>
    obtain ⟨k, q, hk, rfl, rfl⟩ := hrel
    have HB : Hid (Below w7.heap.size w7 (w7.drewN q)) := below_drewN (Below.refl _ _) q
    have HQ : Hid (∀ z, (w7.drewN q).drewN z = w7.drewN (q + z)) := fun z => World.drewN_drewN _ _ _
    have HBW := hide (B.trans (HB.out.mono B.size))
    by_cases hlt : k < m
    · have r3 := HR3.out.drewN q
      have r5 := HR5.out.drewN q
      obtain ⟨b, o, y, rfl, hbl, hy, k0, k1⟩ := ((HX.out.keep B).keep HB.out).at_ hlt
      obtain ⟨⟨p, u⟩, hp, rfl⟩ := zA_at hy
      have hf := HFT.out _ (List.mem_of_getElem? hp)
      obtain ⟨ip, iu, f1, f2, f3, f4, f5, f6⟩ := HFA.out p u (List.mem_of_getElem? hp)
      simp only at hf
      obtain ⟨hpn, hqn, -⟩ := hf
      simp only [zA] at k0 k1
      obtain ⟨b5, o5, x, rfl, hx1, c1⟩ := r5.at_ hpn
      obtain ⟨y5, hy5, c2⟩ := r5.cell hqn
      obtain rfl : L p = x := by rw [lvL_at L hpn] at hx1; exact Option.some.inj hx1
      obtain rfl : L u = y5 := by rw [lvL_at L hqn] at hy5; exact Option.some.inj hy5
      have HP := hide f1
      have HU := hide f2
      have HR := hide r3
      clear hx1 hy5 hy hp f1 f2 r3 r5
      obtain ⟨x, hx⟩ : ∃ x, L p = x := ⟨_, rfl⟩
      obtain ⟨y5, hy5⟩ : ∃ x, L u = x := ⟨_, rfl⟩
      rw [hx] at f5 c1
      rw [hy5] at f5 f6 c2
      clear hx hy5
      have i1 : (0 : Int) ≤ (k : Int) := by omega
      have i2 : (k : Int) < (m : Int) := by omega
      have i3 : (0 : Int) ≤ (p : Int) := by omega
      have i4 : (p : Int) < (N : Int) := by omega
      have i5 : (0 : Int) ≤ (u : Int) := by omega
      have i6 : (u : Int) < (N : Int) := by omega
      have d1 : decide ((ip : Int) < 0) = false := decide_eq_false (by omega)
      have d2 : decide ((iu : Int) ≤ (ip : Int)) = false := decide_eq_false (by omega)
      have d2' : decide (iu ≤ ip) = false := decide_eq_false (by omega)
      have d3 : decide ((N : Int) ≤ (p : Int)) = false := decide_eq_false (by omega)
      have d3' : decide (N ≤ p) = false := decide_eq_false (by omega)
      have d4 : decide ((N : Int) ≤ (u : Int)) = false := decide_eq_false (by omega)
      have d4' : decide (N ≤ u) = false := decide_eq_false (by omega)
      have d5 : decide ((y5 : Int) ≤ (x : Int)) = false := decide_eq_false (by omega)
      have d5' : decide (y5 ≤ x) = false := decide_eq_false (by omega)
      generalize w7.drewN q = W at *
      go_wp2_with fail
      go_quiet ((go_at_call 33; exact (index_any A3 N c3 d _ _ (HR.out.drewN _) (by omega) _ rfl).mono fun _ _ h => ⟨h.1, _, h.2.symm⟩))
      rw [HP.out, HU.out]
      go_wp2_with fail
      go_quiet (fail)
      go_wp2_with fail
      go_roundw
      case rel => exact ⟨k + 1, _, hlt, by go_num, by first | exact HQ.out _ | (rw [World.drewN_drewN]; exact HQ.out _)⟩
      case measure => simp [RowKit.intOf]; omega
    · obtain rfl : k = m := by omega
      have d7 : decide ((k : Int) < (k : Int)) = false := decide_eq_false (by omega)
      go_wp2_with fail
      go_ret
      exact ⟨rfl, HBW.out⟩
set_option maxHeartbeats 8000000 in
set_option maxRecDepth 100000 in
theorem eit_c (N : Nat) (A : Option Addr) (m c : Nat) (bs : List (Nat × Nat)) (w : World) (hx : YL w A m (bs.map zA)) (hm : m ≤ maxLen) (hf : m ≤ 150) (hd : Dig N bs) (hl : ¬ (ord N (adj bs)).length = N) :
    Calls Try.prog 9 #[.int .i64 (N : Int), .slice A m c] w fun e w' => e = .returned (.bool true) ∧ Below w.heap.size w w' := by
  have HX := hide hx
  have HM := hide hm
  have HF := hide (show decide (m ≤ 150) = true from decide_eq_true hf)
  have hn := hd.le
  have hlt := (ord_beg N (adj bs)).len
  have HO := hide (show resO N (bs.map zA) = ([], 11) from by unfold resO; rw [vB_of hd, if_pos rfl, nA_zA, Int.toNat_natCast, if_pos (by omega)])
  have HA := hide (show acB N (bs.map zA) = false from by unfold acB; rw [vB_of hd, nA_zA, Int.toNat_natCast, Bool.true_and]; exact decide_eq_false hl)
  have hlen : lenP N (adj bs) < N := (lenP_acy hd.adj).2 fun h => hl ((ord_acy hd.adj).2 h)
  have HK := hide (show resK N (bs.map zA) = (cycP N (adj bs), 0) from by
    unfold resK
    rw [vB_of hd, if_pos rfl, nA_zA, Int.toNat_natCast]
    unfold resK'
    rw [if_pos hlen])
  obtain ⟨g1, g2, g3, g4⟩ := cyc_facts hd.adj hd.irr hlen
  have HFT := hide hd.fits
  clear hd hlt hlen hl
  obtain ⟨xs, hxs⟩ : ∃ d, cycP N (adj bs) = d := ⟨_, rfl⟩
  rw [hxs] at HK g1 g2 g3 g4
  clear hxs
  obtain ⟨M, hM⟩ : ∃ M, xs.length = M := ⟨_, rfl⟩
  rw [hM] at g1 g2 g3
  have HMM := hide hM
  have HG3 := hide g3
  have HG4 := hide g4
  clear hM g3 g4
  clear hx hm
  go_enter Try.func9, Try.ntmps9
  go_wp2_with fail
  refine (awake_yes _).mono ?_
  rintro e w1 ⟨rfl, B⟩
  go_wp2_with fail
  refine (few_any A m c _ HM.out true HF.out).mono ?_
  rintro e w2 ⟨rfl, rfl⟩
  go_wp2_with fail
  refine (order_any N A m c _ _ (HX.out.keep B) HM.out [] 11 HO.out).mono ?_
  rintro e w3 ⟨⟨A3, c3, rfl, r3, -, -⟩, hb⟩
  have B := B.trans (hb.mono B.size)
  clear hb r3
  go_wp2_with fail
  refine (cycle_any N A m c _ _ (HX.out.keep B) HM.out xs 0 HK.out).mono ?_
  rintro e w4 ⟨⟨A4, c4, rfl, r4, -, -⟩, hb⟩
  have B := B.trans (hb.mono B.size)
  clear hb
  rw [HMM.out] at r4 ⊢
  have d1 : decide ((M : Int) < 2) = false := decide_eq_false (by omega)
  have d1' : decide (M < 2) = false := decide_eq_false (by omega)
  go_wp2_with fail
  refine (acyclic_any N A m c _ _ (HX.out.keep B) HM.out false HA.out).mono ?_
  rintro e w7 ⟨rfl, hb⟩
  have B := B.trans (hb.mono B.size)
  have r4 := r4.below hb
  clear hb d1 d1'
  have HR := hide r4
  clear r4
  go_wp2_with fail
  go_loopw [14] (fun v14 wr => ∃ k q : Nat, k ≤ M ∧ v14 = .int .i64 ((k : Nat) : Int) ∧ wr = w7.drewN q) (fun v14 _ => M - (RowKit.intOf v14).toNat)
  case atStart => exact ⟨0, 0, Nat.zero_le _, rfl, rfl⟩
  case round =>
    obtain ⟨i, q, hi, rfl, rfl⟩ := hrel
    have HB : Hid (Below w7.heap.size w7 (w7.drewN q)) := below_drewN (Below.refl _ _) q
    have HQ : Hid (∀ z, (w7.drewN q).drewN z = w7.drewN (q + z)) := fun z => World.drewN_drewN _ _ _
    have HBW := hide (B.trans (HB.out.mono B.size))
    by_cases hlt : i < M
    · have hjM : (i + 1) % M < M := Nat.mod_lt _ (by omega)
      obtain ⟨j, hj⟩ : ∃ j, (i + 1) % M = j := ⟨_, rfl⟩
      rw [hj] at hjM
      obtain ⟨b4, o4, x, rfl, hx1, c1⟩ := (HR.out.drewN q).at_ hlt
      obtain ⟨y, hy1, c2⟩ := (HR.out.drewN q).cell hjM
      obtain ⟨s0, hs0, c3⟩ := (HR.out.drewN q).cell (show 0 < M by omega)
      have hxy : (x, y) ∈ bs := adj_iff.1 (HG3.out i x y hx1 (by rw [hj]; exact hy1))
      have HXY := hide hxy
      have HLT := hide (fun h : 0 < i => HG4.out i x s0 h hx1 hs0)
      have HE := hide (show ((i : Int) + 1).tmod (M : Int) = (j : Int) from by
        rw [← hj, show ((i : Int) + 1) = ((i + 1 : Nat) : Int) by omega]; rfl)
      have HE2 := hide (show ((i : Int) + 1) % (M : Int) = (j : Int) from by
        rw [← hj, show ((i : Int) + 1) = ((i + 1 : Nat) : Int) by omega]; rfl)
      clear hj hx1 hy1 hs0 hxy
      have i1 : (0 : Int) ≤ (i : Int) := by omega
      have i2 : (i : Int) < (M : Int) := by omega
      rw [Nat.add_zero] at c3
      go_wp2_with fail
      go_loopw [15, 16] (fun v15 v16 wr => ∃ (k q : Nat) (f : Bool), k ≤ m ∧ v15 = .bool f ∧ v16 = .int .i64 ((k : Nat) : Int) ∧ wr = w7.drewN q ∧ Hid ((bs.take k).contains (x, y) = f)) (fun _ v16 _ => m - (RowKit.intOf v16).toNat)
      case atStart => exact ⟨0, q, false, Nat.zero_le _, rfl, rfl, rfl, hide rfl⟩
      case round =>
        clear HQ HB
        obtain ⟨k, q2, f, hk, rfl, rfl, rfl, HC⟩ := hrel
        have HB : Hid (Below w7.heap.size w7 (w7.drewN q2)) := below_drewN (Below.refl _ _) q2
        have HQ : Hid (∀ z, (w7.drewN q2).drewN z = w7.drewN (q2 + z)) := fun z => World.drewN_drewN _ _ _
        have HBW := hide (B.trans (HB.out.mono B.size))
        have c1' : (w7.drewN q2).cell? ⟨b4, o4 + i, none⟩ = some (.int .i64 (x : Int)) := c1
        have c2' : (w7.drewN q2).cell? ⟨b4, o4 + j, none⟩ = some (.int .i64 (y : Int)) := c2
        have c3' : (w7.drewN q2).cell? ⟨b4, o4, none⟩ = some (.int .i64 (s0 : Int)) := c3
        clear c1 c2 c3
        by_cases hlt2 : k < m
        · obtain ⟨b, o, z, rfl, hbl, hz, k0, k1⟩ := ((HX.out.keep B).keep HB.out).at_ hlt2
          obtain ⟨⟨p, u⟩, hp, rfl⟩ := zA_at hz
          simp only [zA] at k0 k1
          have j1 : (0 : Int) ≤ (k : Int) := by omega
          have j2 : (k : Int) < (m : Int) := by omega
          have HN := hide (show (bs.take (k + 1)).contains (x, y) = (f || ((x, y) == (p, u))) from by
            rw [take_nextA hp, ← HC.out, Bool.eq_iff_iff, Bool.or_eq_true, List.contains_iff_mem, List.contains_iff_mem, List.mem_append, List.mem_singleton, beq_iff_eq])
          clear hz hp
          cases f with
          | true =>
            have HN2 := hide (show (bs.take (k + 1)).contains (x, y) = true from by rw [HN.out]; rfl)
            generalize w7.drewN q2 = W at *
            go_wp2_with fail
            go_quiet (fail)
            go_wp2_with fail
            go_roundw
            case rel => exact ⟨k + 1, _, true, hlt2, rfl, by go_num, HQ.out _, HN2⟩
            case measure => simp [RowKit.intOf]; omega
          | false =>
            have e8 : IntKind.i64.wrap ((i : Int) + 1) = (i : Int) + 1 := IntWalk.i64_in _ (by omega)
            have e9 : IntKind.i64.wrap (j : Int) = (j : Int) := IntWalk.i64_in _ (by omega)
            have n0 : ¬ (M : Int) = 0 := by omega
            have n1 : ((M : Int) == 0) = false := beq_eq_false_iff_ne.2 n0
            have n2 : (0 : Int) ≤ (i : Int) + 1 := by omega
            have n3 : (0 : Int) < (M : Int) := by omega
            have n4 : (0 : Int) ≤ (j : Int) := by omega
            have n5 : (j : Int) < (M : Int) := by omega
            have HNN := hide (show ¬(p = x ∧ u = y) → (bs.take (k + 1)).contains (x, y) = false from fun h => by
              rw [HN.out, Bool.false_or, beq_eq_false_iff_ne]; intro e; injection e with e1 e2; exact h ⟨e1.symm, e2.symm⟩)
            have HNY := hide (show p = x → u = y → (bs.take (k + 1)).contains (x, y) = true from fun h1 h2 => by
              rw [HN.out, Bool.false_or, beq_iff_eq, h1, h2])
            have t1 := HE.out
            have t2 := HE2.out
            clear HN
            generalize w7.drewN q2 = W at *
            by_cases h1 : p = x
            · have a1 : ((p : Int) == (x : Int)) = true := beq_iff_eq.2 (by omega)
              by_cases h2 : u = y
              · have a2 : ((u : Int) == (y : Int)) = true := beq_iff_eq.2 (by omega)
                have HN2 := hide (HNY.out h1 h2)
                subst h1
                subst h2
                clear HNN HNY
                go_wp2_with fail
                go_quiet (fail)
                go_wp2_with fail
                go_roundw
                case rel => exact ⟨k + 1, _, true, hlt2, rfl, by go_num, HQ.out _, HN2⟩
                case measure => simp [RowKit.intOf]; omega
              · have a2 : ((u : Int) == (y : Int)) = false := beq_eq_false_iff_ne.2 (by omega)
                have HN2 := hide (HNN.out fun h => h2 h.2)
                subst h1
                clear HNN HNY h2
                go_wp2_with fail
                go_quiet (fail)
                go_wp2_with fail
                go_roundw
                case rel => exact ⟨k + 1, _, false, hlt2, rfl, by go_num, HQ.out _, HN2⟩
                case measure => simp [RowKit.intOf]; omega
            · have a1 : ((p : Int) == (x : Int)) = false := beq_eq_false_iff_ne.2 (by omega)
              have HN2 := hide (HNN.out fun h => h1 h.1)
              clear HNN HNY h1
              go_wp2_with fail
              go_quiet (fail)
              go_wp2_with fail
              go_roundw
              case rel => exact ⟨k + 1, _, false, hlt2, rfl, by go_num, HQ.out _, HN2⟩
              case measure => simp [RowKit.intOf]; omega
        · obtain rfl : k = m := by omega
          have hkl : bs.length ≤ k := by have := HX.out.1; rw [List.length_map] at this; omega
          obtain rfl : f = true := by
            rw [← HC.out, List.take_of_length_le hkl]
            exact List.contains_iff_mem.2 HXY.out
          have d7 : decide ((k : Int) < (k : Int)) = false := decide_eq_false (by omega)
          have HLT2 := HLT
          rcases Nat.eq_zero_or_pos i with h0 | h0
          · have dk : decide (0 < (i : Int)) = false := by simp; omega
            have nk : ¬ 0 < i := by omega
            clear h0 HLT2 HLT hkl
            generalize w7.drewN q2 = W at *
            go_wp2_with fail
            go_quiet (fail)
            go_wp2_with fail
            go_roundw
            case rel => exact ⟨i + 1, _, hlt, by go_num, HQ.out _⟩
            case measure => simp [RowKit.intOf]; omega
          · have hlt9 := HLT.out h0
            have dk : decide (0 < (i : Int)) = true := by simp; omega
            have de : decide ((x : Int) ≤ (s0 : Int)) = false := decide_eq_false (by omega)
            have de' : decide (x ≤ s0) = false := decide_eq_false (by omega)
            have m1 : (0 : Int) < (M : Int) := by omega
            clear HLT2 HLT hkl
            generalize w7.drewN q2 = W at *
            go_wp2_with fail
            go_quiet (fail)
            go_wp2_with fail
            go_roundw
            case rel => exact ⟨i + 1, _, hlt, by go_num, HQ.out _⟩
            case measure => simp [RowKit.intOf]; omega
    · obtain rfl : i = M := by omega
      have d7 : decide ((i : Int) < (i : Int)) = false := decide_eq_false (by omega)
      go_wp2_with fail
      go_ret
      exact ⟨rfl, HBW.out⟩
theorem eit_all (n : Int) (A : Option Addr) (m c : Nat) (l : List (Int × Int)) (w : World) (hx : YL w A m l) (hm : m ≤ maxLen) :
    Calls Try.prog 9 #[.int .i64 n, .slice A m c] w fun e w' => e = .returned (.bool true) ∧ Below w.heap.size w w' := by
  by_cases hf : m ≤ 150
  · rcases hv : vB n l with _ | _
    · exact eit_v n A m c l w hx hm hf hv
    · obtain ⟨N, bs, rfl, rfl, hd⟩ := vB_true hv
      by_cases hl : (ord N (adj bs)).length = N
      · exact eit_o N A m c bs w hx hm hf hd hl
      · exact eit_c N A m c bs w hx hm hf hd hl
  · exact eit_no n A m c l w hx hm hf
end Go.Proofs.Ytgmdfaamheblmaa
