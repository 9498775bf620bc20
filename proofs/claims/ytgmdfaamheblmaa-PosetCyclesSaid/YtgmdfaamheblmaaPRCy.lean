/- The reference's Cycle. -/
import Derived.Test.YtgmdfaamheblmaaPFar
namespace Go.Proofs.Ytgmdfaamheblmaa
open Go Go.RowKit PM

set_option maxRecDepth 100000 in
set_option maxHeartbeats 2000000 in
theorem rcyc_v (n : Int) (A : Option Addr) (m c : Nat) (l : List (Int × Int)) (w : World) (hx : YL w A m l) (hv : vB n l = false) :
    Calls Try.prog 30 #[.int .i64 n, .slice A m c] w (GivesL [] 1 w) := by
  have HX := hide hx
  have HV := hide hv
  clear hx hv
  go_enter Try.func30, Try.ntmps30
  go_wp2_with fail
  refine (rvalid_any n A m c l _ HX.out false HV.out).mono ?_
  rintro e w1 ⟨rfl, B⟩
  go_wp2_with fail
  refine bodyPost_ret (v := .tuple #[.slice none 0 0, .int .i64 1]) (by simp [results, Try.results30, go_sem]) rfl ?_
  exact GivesL.nil B
/-- the search's test -/
def fdP (v : Nat) (d : Nat → Int) (left at_ : Nat) (p : Nat × Nat) : Bool := p.1 == at_ && decide (v < p.2) && (d p.2 == (left : Int))
theorem find_hit {bs : List (Nat × Nat)} {v left at_ i p q : Nat} {d : Nat → Int} (h : (bs.take i).find? (fdP v d left at_) = none) (hp : bs[i]? = some (p, q)) (hf : fdP v d left at_ (p, q) = true) : stepR bs v d left at_ = q := by
  have e : bs.find? (fdP v d left at_) = some (p, q) := by
    have h1 : bs = bs.take i ++ bs.drop i := (List.take_append_drop i bs).symm
    have hi : i < bs.length := (List.getElem?_eq_some_iff.1 hp).1
    have h2 : bs.drop i = (p, q) :: bs.drop (i + 1) := by
      rw [List.drop_eq_getElem_cons hi]
      rw [(List.getElem?_eq_some_iff.1 hp).2]
    rw [h1, List.find?_append, h, h2, List.find?_cons_of_pos hf]; rfl
  unfold stepR
  rw [show bs.find? (fun p => p.1 == at_ && decide (v < p.2) && (d p.2 == (left : Int))) = some (p, q) from e]
theorem find_miss {bs : List (Nat × Nat)} {v left at_ m : Nat} {d : Nat → Int} (h : (bs.take m).find? (fdP v d left at_) = none) (hm : bs.length ≤ m) : stepR bs v d left at_ = at_ := by
  rw [List.take_of_length_le hm] at h
  unfold stepR
  rw [show bs.find? (fun p => p.1 == at_ && decide (v < p.2) && (d p.2 == (left : Int))) = none from h]
theorem find_snoc {bs : List (Nat × Nat)} {v left at_ i p q : Nat} {d : Nat → Int} (h : (bs.take i).find? (fdP v d left at_) = none) (hp : bs[i]? = some (p, q)) (hf : fdP v d left at_ (p, q) = false) : (bs.take (i + 1)).find? (fdP v d left at_) = none := by
  rw [take_nextA hp, List.find?_append, h, List.find?_cons_of_neg (by rw [hf]; decide)]; rfl
/-- no distance is more than n -/
theorem far_le {n v : Nat} {bs : List (Nat × Nat)} (i : Nat) : -1 ≤ far bs v n i ∧ far bs v n i ≤ (n : Int) := by
  rcases far_cases (T := adj bs) (fun p => adj_iff.symm) (s := v) n i with e | ⟨l, hl, e, _⟩
  · omega
  · omega
theorem leastR_le {n v : Nat} {bs : List (Nat × Nat)} (h : ¬leastR bs v (far bs v n) < 0) : ∃ l : Nat, leastR bs v (far bs v n) = (l : Int) + 2 ∧ l ≤ n := by
  rcases leastR_walk (n := n) (v := v) (T := adj bs) (fun p => adj_iff.symm) with e | ⟨l, e, _⟩
  · omega
  · refine ⟨l, e, ?_⟩
    rcases leastR_ok bs v (far bs v n) with ⟨e2, _⟩ | ⟨⟨p, _, _, _, _, e3⟩, _⟩
    · omega
    · have := (far_le (bs := bs) (n := n) (v := v) p.2).2
      omega
theorem best_old {bs : List (Nat × Nat)} {n v : Nat} (h : leastR bs v (far bs v n) < 0 ∨ (0 < (bestTo bs n v).length ∧ ((bestTo bs n v).length : Int) ≤ leastR bs v (far bs v n))) : bestTo bs n (v + 1) = bestTo bs n v := if_pos h
theorem best_new {bs : List (Nat × Nat)} {n v l : Nat} (e : leastR bs v (far bs v n) = (l : Int) + 2) (h : ¬(0 < (bestTo bs n v).length ∧ ((bestTo bs n v).length : Int) ≤ leastR bs v (far bs v n))) : bestTo bs n (v + 1) = v :: pathR bs v (far bs v n) (l + 1) v := by
  have h2 : ¬(leastR bs v (far bs v n) < 0 ∨ (0 < (bestTo bs n v).length ∧ ((bestTo bs n v).length : Int) ≤ leastR bs v (far bs v n))) := fun hc => by
    rcases hc with hc | hc
    · omega
    · exact h hc
  show bstep bs n (bestTo bs n v) v = _
  unfold bstep
  simp only
  rw [if_neg h2, e, show ((l : Int) + 2).toNat - 1 = l + 1 by omega]
set_option maxRecDepth 100000 in
set_option maxHeartbeats 16000000 in
theorem rcyc_y (N : Nat) (A : Option Addr) (m c : Nat) (bs : List (Nat × Nat)) (w : World) (hx : YL w A m (bs.map zA)) (hd : Dig N bs) (xs : List Nat) (hxs : bestTo bs N N = xs) (er : Int) (her : (if xs.length = 0 then (7 : Int) else 0) = er) :
    Calls Try.prog 30 #[.int .i64 (N : Int), .slice A m c] w (GivesL xs er w) := by
  have HX := hide hx
  have HV := hide (vB_of hd)
  have HD := hide hd
  have hn := hd.le
  have hml : m ≤ 576 := by have := hd.len576; have := hx.1; simp at this; omega
  have HLB := hide (show bs.length ≤ m from by have := hx.1; simp at this; omega)
  have HXS := hide hxs
  have HER := hide her
  clear hx hd hxs her
  go_enter Try.func30, Try.ntmps30
  go_wp2_with fail
  refine (rvalid_any N A m c _ _ HX.out true HV.out).mono ?_
  rintro e w0 ⟨rfl, B0⟩
  go_wp2_with fail
  go_loopw [6, 7] (fun v6 v7 wr => ∃ (v q : Nat) (Ab : Option Addr) (cb : Nat), v6 = .slice Ab q cb ∧ v7 = .int .i64 (v : Int) ∧ v ≤ N ∧ IR wr w.heap.size Ab q cb (bestTo bs N v) ∧ Below w.heap.size w wr ∧ Hid (q ≤ 100)) (fun _ v7 _ => N - (RowKit.intOf v7).toNat)
  case atStart => exact ⟨0, 0, none, 0, rfl, rfl, by omega, IR.nil_, B0, hide (by omega)⟩
  case round =>
    clear B0
    obtain ⟨v, qb, Ab, cb, rfl, rfl, hvn, hb, B1, HQB⟩ := hrel
    have hlb := hb.len
    by_cases hlt : v < N
    · have hvi : (v : Int) < (N : Int) := by omega
      go_wp2_with fail
      refine (rfar_any N A m c v bs _ (HX.out.keep B1) HD.out hlt).mono ?_
      rintro e w1 ⟨⟨g9, rfl, hg9, fD⟩, hb1⟩
      have hb := hb.below hb1
      have B1 := B1.trans (hb1.mono B1.size)
      have hg1 := fD.lt
      have HDL := hide (fun j => far_le (bs := bs) (n := N) (v := v) j)
      have HWK := hide (fun h => leastR_le (bs := bs) (n := N) (v := v) h)
      have HBO := hide (fun h => best_old (bs := bs) (n := N) (v := v) h)
      have HBN := hide (fun (l : Nat) (h1 : leastR bs v (far bs v N) = (l : Int) + 2) h => best_new (bs := bs) (n := N) (v := v) h1 h)
      rw [hlb] at HBO HBN
      obtain ⟨D, hD⟩ : ∃ D, far bs v N = D := ⟨_, rfl⟩
      rw [hD] at fD HDL HWK HBO HBN
      clear hb1 hg9 hD
      go_wp2_with fail
      go_loopw [9, 10] (fun v9 v10 wr => ∃ (i : Nat) (y : Int), i ≤ m ∧ v9 = .int .i64 y ∧ v10 = .int .i64 (i : Int) ∧ w1 = wr ∧ Hid ((bs.take i).foldl (lstep v D) (-1) = y)) (fun _ v10 _ => m - (RowKit.intOf v10).toNat)
      case atStart => exact ⟨0, -1, by omega, rfl, rfl, rfl, hide rfl⟩
      case round =>
        obtain ⟨i, y, hi, rfl, rfl, rfl, HY⟩ := hrel
        by_cases hlt2 : i < m
        · obtain ⟨b, o, y0, rfl, hbl, hy, k0, k1⟩ := (HX.out.keep B1).at_ hlt2
          obtain ⟨⟨p, q⟩, hp, rfl⟩ := zA_at hy
          have hf := HD.out.fits _ (List.mem_of_getElem? hp)
          simp only at hf
          obtain ⟨hpn, hqn, -⟩ := hf
          simp only [zA] at k0 k1
          have HN := hide (show (bs.take (i + 1)).foldl (lstep v D) (-1) = lstep v D y (p, q) from by rw [foldl_nextF _ _ hp, HY.out])
          have y1 := fD.cell hqn
          have i3 : (0 : Int) ≤ (q : Int) := by omega
          have i4 : (q : Int) < (N : Int) := by omega
          have j1 : (0 : Int) ≤ (i : Int) := by omega
          have j2 : (i : Int) < (m : Int) := by omega
          obtain ⟨x, hx⟩ : ∃ x, D q = x := ⟨_, rfl⟩
          rw [hx] at y1
          have x1 : -1 ≤ x := by rw [← hx]; exact (HDL.out q).1
          have x2 : x ≤ 24 := by rw [← hx]; have := (HDL.out q).2; omega
          have HK := hide (show ¬(p = v ∧ v < q ∧ 0 < x ∧ (y < 0 ∨ x + 1 < y)) → lstep v D y (p, q) = y from fun h => by
            unfold lstep
            exact if_neg (by simp only [hx]; exact h))
          have HS := hide (fun (h : p = v ∧ v < q ∧ 0 < x ∧ (y < 0 ∨ x + 1 < y)) => show lstep v D y (p, q) = x + 1 from by
            unfold lstep
            rw [if_pos (by simp only [hx]; exact h)]
            simp only [hx])
          clear hx hy hp HY
          by_cases c1 : p = v
          · subst c1
            by_cases c2 : p < q
            · have e2 : (p : Int) < (q : Int) := by omega
              by_cases c3 : 0 < x
              · by_cases c4 : y < 0
                · have HS := hide (HS.out ⟨rfl, c2, c3, .inl c4⟩)
                  have HU := hide (HS.out)
                  clear HK HS
                  go_wp2_with fail
                  go_roundw
                  case measure => simp [RowKit.intOf]; omega
                  case rel => exact ⟨i + 1, x + 1, by omega, rfl, by go_num, (by first | rfl | trivial), hide (HN.out.trans HU.out)⟩
                · have e4 : decide (y < 0) = false := decide_eq_false c4
                  by_cases c5 : x + 1 < y
                  · have HS := hide (HS.out ⟨rfl, c2, c3, .inr c5⟩)
                    have HU := hide (HS.out)
                    clear HK HS
                    go_wp2_with fail
                    go_roundw
                    case measure => simp [RowKit.intOf]; omega
                    case rel => exact ⟨i + 1, x + 1, by omega, rfl, by go_num, (by first | rfl | trivial), hide (HN.out.trans HU.out)⟩
                  · have e5 : decide (x + 1 < y) = false := decide_eq_false c5
                    have HU := hide (HK.out fun h => by omega)
                    clear HK HS
                    go_wp2_with fail
                    go_roundw
                    case measure => simp [RowKit.intOf]; omega
                    case rel => exact ⟨i + 1, y, by omega, rfl, by go_num, (by first | rfl | trivial), hide (HN.out.trans HU.out)⟩
              · have e3 : decide (0 < x) = false := decide_eq_false c3
                have HU := hide (HK.out fun h => c3 h.2.2.1)
                clear HK HS
                go_wp2_with fail
                go_roundw
                case measure => simp [RowKit.intOf]; omega
                case rel => exact ⟨i + 1, y, by omega, rfl, by go_num, (by first | rfl | trivial), hide (HN.out.trans HU.out)⟩
            · have e2 : decide ((p : Int) < (q : Int)) = false := decide_eq_false (by omega)
              have HU := hide (HK.out fun h => c2 h.2.1)
              clear HK HS
              go_wp2_with fail
              go_roundw
              case measure => simp [RowKit.intOf]; omega
              case rel => exact ⟨i + 1, y, by omega, rfl, by go_num, (by first | rfl | trivial), hide (HN.out.trans HU.out)⟩
          · have e1 : ¬(p : Int) = (v : Int) := by omega
            have e1' : ((p : Int) == (v : Int)) = false := beq_eq_false_iff_ne.2 e1
            have HU := hide (HK.out fun h => c1 h.1)
            clear HK HS
            go_wp2_with fail
            go_roundw
            case measure => simp [RowKit.intOf]; omega
            case rel => exact ⟨i + 1, y, by omega, rfl, by go_num, (by first | rfl | trivial), hide (HN.out.trans HU.out)⟩
        · obtain rfl : m = i := by omega
          have hyy : leastR bs v D = y := by have := HY.out; rwa [List.take_of_length_le HLB.out] at this
          rw [hyy] at HWK HBO HBN
          have d2 : decide ((m : Int) < (m : Int)) = false := decide_eq_false (by omega)
          clear hlt2 hyy HY HDL
          have hqb := HQB.out
          by_cases hneg : y < 0
          · have HE := hide (HBO.out (.inl hneg))
            clear HBO HBN HWK
            go_wp2_with fail
            go_roundw
            case measure => simp [RowKit.intOf]; omega
            case rel => exact ⟨v + 1, qb, Ab, cb, rfl, by go_num, by omega, (by rw [HE.out]; exact hb), B1, HQB⟩
          · have e0 : decide (y < 0) = false := decide_eq_false hneg
            by_cases hq0 : 0 < qb
            · have q1 : (0 : Int) < (qb : Int) := by omega
              by_cases hle : (qb : Int) ≤ y
              · have HE := hide (HBO.out (.inr ⟨hq0, hle⟩))
                clear HBO HBN HWK
                go_wp2_with fail
                go_roundw
                case measure => simp [RowKit.intOf]; omega
                case rel => exact ⟨v + 1, qb, Ab, cb, rfl, by go_num, by omega, (by rw [HE.out]; exact hb), B1, HQB⟩
              · have e3 : decide ((qb : Int) ≤ y) = false := decide_eq_false hle
                obtain ⟨l, rfl, hl24⟩ := HWK.out (by omega)
                have HWN := hide (HBN.out l rfl (by omega))
                have HBL := hide hl24
                clear HWK HBN HBO
                go_wp2_with fail
                have F1 : Below w1.heap.size w1 (w1.alloc (.cells #[.int .i64 (v : Int)] 3)) := (Below.refl _ _).alloc (Nat.le_refl _) _
                have r1 := ir_lit1 w1 w1.heap.size v (Nat.le_refl _)
                have f1 := fD.below' F1
                generalize w1.alloc _ = W1 at *
                go_loopw [6, 11, 12] (fun v6 v11 v12 wr => ∃ (k x qr : Nat) (Ar : Option Addr) (cr : Nat) (row : List Nat), v6 = .slice Ar qr cr ∧ v11 = .int .i64 (x : Int) ∧ v12 = .int .i64 (k : Int) ∧ IR wr w1.heap.size Ar qr cr row ∧ Hid (qr + k = l + 2) ∧ Hid (row ++ pathR bs v D k x = bestTo bs N (v + 1)) ∧ Below w1.heap.size w1 wr ∧ FI wr g9 N D) (fun _ _ v12 _ => (RowKit.intOf v12).toNat)
                case atStart => exact ⟨l + 1, v, 1, _, 1, [v], rfl, rfl, by go_num, r1, hide (by omega), hide HWN.out.symm, F1, f1⟩
                case round =>
                  clear F1 r1 f1 fD W1
                  obtain ⟨k, x, qr, Ar, cr, row, rfl, rfl, rfl, hr, HQ, HP, B, fD⟩ := hrel
                  rcases k with _ | k
                  · have d2 : decide ((0 : Int) < ((0 : Nat) : Int)) = false := rfl
                    have hl0 : row = bestTo bs N (v + 1) := by have := HP.out; rwa [show pathR bs v D 0 x = [] from rfl, List.append_nil] at this
                    have HQ2 := hide hl0
                    clear HP hl0
                    go_wp2_with fail
                    go_roundw
                    case measure => simp [RowKit.intOf]; omega
                    case rel => exact ⟨v + 1, qr, Ar, cr, rfl, by go_num, by omega, (by rw [← HQ2.out]; exact hr.low B1.size), B1.trans (B.mono B1.size), hide (by have := HQ.out; omega)⟩
                  · have k1 : (0 : Int) < (k : Int) + 1 := by omega
                    have kb : (k : Int) ≤ 1000 := by have := HQ.out; have := HBL.out; omega
                    have HPX := hide (fun (z : Nat) (hz : stepR bs v D (k + 1) x = z) => show (row ++ [z]) ++ pathR bs v D k z = bestTo bs N (v + 1) from by
                      have h1 := HP.out
                      rw [show pathR bs v D (k + 1) x = stepR bs v D (k + 1) x :: pathR bs v D k (stepR bs v D (k + 1) x) from rfl, hz] at h1
                      rw [List.append_assoc]; exact h1)
                    clear HP
                    go_wp2_with fail
                    go_loopw [11, 13] (fun v11 v13 wz => ∃ (i : Nat), i ≤ m ∧ v11 = .int .i64 (x : Int) ∧ v13 = .int .i64 (i : Int) ∧ wr = wz ∧ Hid ((bs.take i).find? (fdP v D (k + 1) x) = none)) (fun _ v13 _ => m - (RowKit.intOf v13).toNat)
                    case atStart => exact ⟨0, by omega, rfl, rfl, rfl, hide rfl⟩
                    case round =>
                      obtain ⟨i, hi, rfl, rfl, rfl, HF⟩ := hrel
                      by_cases hlt2 : i < m
                      · obtain ⟨b, o, y, rfl, hbl, hy, k0, k1⟩ := ((HX.out.keep B1).keep B).at_ hlt2
                        obtain ⟨⟨p, q⟩, hp, rfl⟩ := zA_at hy
                        have hf := HD.out.fits _ (List.mem_of_getElem? hp)
                        simp only at hf
                        obtain ⟨hpn, hqn, -⟩ := hf
                        simp only [zA] at k0 k1
                        have y1 := fD.cell hqn
                        have i3 : (0 : Int) ≤ (q : Int) := by omega
                        have i4 : (q : Int) < (N : Int) := by omega
                        have j1 : (0 : Int) ≤ (i : Int) := by omega
                        have j2 : (i : Int) < (m : Int) := by omega
                        obtain ⟨z, hz⟩ : ∃ z, D q = z := ⟨_, rfl⟩
                        rw [hz] at y1
                        have HZ0 := hide hz
                        clear hz hy
                        by_cases c1 : p = x
                        · subst c1
                          by_cases c2 : v < q
                          · have e2 : (v : Int) < (q : Int) := by omega
                            by_cases c3 : z = (k : Int) + 1
                            · have HPZ := hide (HPX.out q (find_hit HF.out hp (by unfold fdP; rw [HZ0.out, c3]; simp [c2])))
                              subst c3
                              clear hp HF HPX HZ0 hlt2
                              have F : Below wr.heap.size wr (wr.alloc (.cells #[.int .i64 (q : Int)] 3)) := (Below.refl _ _).alloc (Nat.le_refl _) _
                              go_wp2_with (at_builtin; refine wpList_append_ir rfl _ _ 33 rfl 8 Try.underlying33 int_info w1.heap.size _ qr cr row rfl (hr.below F) wr.heap.size 0 1 q rfl (Box.new wr #[.int .i64 (q : Int)] 3).cell (by omega) (qr + 1) rfl (by have := HQ.out; have := HBL.out; omega) (Nat.le_trans B.size F.size) ?_; intro A9 c9 w9 hr9 hG9)
                              have B9 := (B.trans (F.mono B.size)).trans hG9.1
                              have f9 : FI w9 g9 N D := hG9.2.2.2 g9 _ _ (fD.below' F).box (fun b o e => by have := (hr.lt b o e).1; omega)
                              clear F hG9
                              go_roundw
                              case measure => simp [RowKit.intOf]
                              case rel => exact ⟨k, q, qr + 1, A9, c9, row ++ [q], rfl, rfl, by go_num, hr9, hide (by have := HQ.out; omega), HPZ, B9, f9⟩
                            · have e3 : (z == (k : Int) + 1) = false := beq_eq_false_iff_ne.2 c3
                              have HZ := hide (find_snoc HF.out hp (by unfold fdP; rw [HZ0.out]; simp [c3]))
                              clear hp HF
                              go_wp2_with fail
                              go_roundw
                              case measure => simp [RowKit.intOf]; omega
                              case rel => exact ⟨i + 1, by omega, rfl, by go_num, (by first | rfl | trivial), HZ⟩
                          · have e2 : decide ((v : Int) < (q : Int)) = false := decide_eq_false (by omega)
                            have HZ := hide (find_snoc HF.out hp (by unfold fdP; simp [c2]))
                            clear hp HF
                            go_wp2_with fail
                            go_roundw
                            case measure => simp [RowKit.intOf]; omega
                            case rel => exact ⟨i + 1, by omega, rfl, by go_num, (by first | rfl | trivial), HZ⟩
                        · have e1 : ¬(p : Int) = (x : Int) := by omega
                          have e1' : ((p : Int) == (x : Int)) = false := beq_eq_false_iff_ne.2 e1
                          have HZ := hide (find_snoc HF.out hp (by unfold fdP; simp [c1]))
                          clear hp HF
                          go_wp2_with fail
                          go_roundw
                          case measure => simp [RowKit.intOf]; omega
                          case rel => exact ⟨i + 1, by omega, rfl, by go_num, (by first | rfl | trivial), HZ⟩
                      · obtain rfl : i = m := by omega
                        have HPZ := hide (HPX.out x (find_miss HF.out HLB.out))
                        have d2 : decide ((i : Int) < (i : Int)) = false := decide_eq_false (by omega)
                        clear HF HPX hlt2
                        have F : Below wr.heap.size wr (wr.alloc (.cells #[.int .i64 (x : Int)] 3)) := (Below.refl _ _).alloc (Nat.le_refl _) _
                        go_wp2_with (at_builtin; refine wpList_append_ir rfl _ _ 33 rfl 8 Try.underlying33 int_info w1.heap.size _ qr cr row rfl (hr.below F) wr.heap.size 0 1 x rfl (Box.new wr #[.int .i64 (x : Int)] 3).cell (by omega) (qr + 1) rfl (by have := HQ.out; have := HBL.out; omega) (Nat.le_trans B.size F.size) ?_; intro A9 c9 w9 hr9 hG9)
                        have B9 := (B.trans (F.mono B.size)).trans hG9.1
                        have f9 : FI w9 g9 N D := hG9.2.2.2 g9 _ _ (fD.below' F).box (fun b o e => by have := (hr.lt b o e).1; omega)
                        clear F hG9
                        go_roundw
                        case measure => simp [RowKit.intOf]
                        case rel => exact ⟨k, x, qr + 1, A9, c9, row ++ [x], rfl, rfl, by go_num, hr9, hide (by have := HQ.out; omega), HPZ, B9, f9⟩
            · obtain rfl : qb = 0 := by omega
              obtain ⟨l, rfl, hl24⟩ := HWK.out (by omega)
              have HWN := hide (HBN.out l rfl (by omega))
              have HBL := hide hl24
              clear HWK HBN HBO
              go_wp2_with fail
              have F1 : Below w1.heap.size w1 (w1.alloc (.cells #[.int .i64 (v : Int)] 3)) := (Below.refl _ _).alloc (Nat.le_refl _) _
              have r1 := ir_lit1 w1 w1.heap.size v (Nat.le_refl _)
              have f1 := fD.below' F1
              generalize w1.alloc _ = W1 at *
              go_loopw [6, 11, 12] (fun v6 v11 v12 wr => ∃ (k x qr : Nat) (Ar : Option Addr) (cr : Nat) (row : List Nat), v6 = .slice Ar qr cr ∧ v11 = .int .i64 (x : Int) ∧ v12 = .int .i64 (k : Int) ∧ IR wr w1.heap.size Ar qr cr row ∧ Hid (qr + k = l + 2) ∧ Hid (row ++ pathR bs v D k x = bestTo bs N (v + 1)) ∧ Below w1.heap.size w1 wr ∧ FI wr g9 N D) (fun _ _ v12 _ => (RowKit.intOf v12).toNat)
              case atStart => exact ⟨l + 1, v, 1, _, 1, [v], rfl, rfl, by go_num, r1, hide (by omega), hide HWN.out.symm, F1, f1⟩
              case round =>
                clear F1 r1 f1 fD W1
                obtain ⟨k, x, qr, Ar, cr, row, rfl, rfl, rfl, hr, HQ, HP, B, fD⟩ := hrel
                rcases k with _ | k
                · have d2 : decide ((0 : Int) < ((0 : Nat) : Int)) = false := rfl
                  have hl0 : row = bestTo bs N (v + 1) := by have := HP.out; rwa [show pathR bs v D 0 x = [] from rfl, List.append_nil] at this
                  have HQ2 := hide hl0
                  clear HP hl0
                  go_wp2_with fail
                  go_roundw
                  case measure => simp [RowKit.intOf]; omega
                  case rel => exact ⟨v + 1, qr, Ar, cr, rfl, by go_num, by omega, (by rw [← HQ2.out]; exact hr.low B1.size), B1.trans (B.mono B1.size), hide (by have := HQ.out; omega)⟩
                · have k1 : (0 : Int) < (k : Int) + 1 := by omega
                  have kb : (k : Int) ≤ 1000 := by have := HQ.out; have := HBL.out; omega
                  have HPX := hide (fun (z : Nat) (hz : stepR bs v D (k + 1) x = z) => show (row ++ [z]) ++ pathR bs v D k z = bestTo bs N (v + 1) from by
                    have h1 := HP.out
                    rw [show pathR bs v D (k + 1) x = stepR bs v D (k + 1) x :: pathR bs v D k (stepR bs v D (k + 1) x) from rfl, hz] at h1
                    rw [List.append_assoc]; exact h1)
                  clear HP
                  go_wp2_with fail
                  go_loopw [11, 13] (fun v11 v13 wz => ∃ (i : Nat), i ≤ m ∧ v11 = .int .i64 (x : Int) ∧ v13 = .int .i64 (i : Int) ∧ wr = wz ∧ Hid ((bs.take i).find? (fdP v D (k + 1) x) = none)) (fun _ v13 _ => m - (RowKit.intOf v13).toNat)
                  case atStart => exact ⟨0, by omega, rfl, rfl, rfl, hide rfl⟩
                  case round =>
                    obtain ⟨i, hi, rfl, rfl, rfl, HF⟩ := hrel
                    by_cases hlt2 : i < m
                    · obtain ⟨b, o, y, rfl, hbl, hy, k0, k1⟩ := ((HX.out.keep B1).keep B).at_ hlt2
                      obtain ⟨⟨p, q⟩, hp, rfl⟩ := zA_at hy
                      have hf := HD.out.fits _ (List.mem_of_getElem? hp)
                      simp only at hf
                      obtain ⟨hpn, hqn, -⟩ := hf
                      simp only [zA] at k0 k1
                      have y1 := fD.cell hqn
                      have i3 : (0 : Int) ≤ (q : Int) := by omega
                      have i4 : (q : Int) < (N : Int) := by omega
                      have j1 : (0 : Int) ≤ (i : Int) := by omega
                      have j2 : (i : Int) < (m : Int) := by omega
                      obtain ⟨z, hz⟩ : ∃ z, D q = z := ⟨_, rfl⟩
                      rw [hz] at y1
                      have HZ0 := hide hz
                      clear hz hy
                      by_cases c1 : p = x
                      · subst c1
                        by_cases c2 : v < q
                        · have e2 : (v : Int) < (q : Int) := by omega
                          by_cases c3 : z = (k : Int) + 1
                          · have HPZ := hide (HPX.out q (find_hit HF.out hp (by unfold fdP; rw [HZ0.out, c3]; simp [c2])))
                            subst c3
                            clear hp HF HPX HZ0 hlt2
                            have F : Below wr.heap.size wr (wr.alloc (.cells #[.int .i64 (q : Int)] 3)) := (Below.refl _ _).alloc (Nat.le_refl _) _
                            go_wp2_with (at_builtin; refine wpList_append_ir rfl _ _ 33 rfl 8 Try.underlying33 int_info w1.heap.size _ qr cr row rfl (hr.below F) wr.heap.size 0 1 q rfl (Box.new wr #[.int .i64 (q : Int)] 3).cell (by omega) (qr + 1) rfl (by have := HQ.out; have := HBL.out; omega) (Nat.le_trans B.size F.size) ?_; intro A9 c9 w9 hr9 hG9)
                            have B9 := (B.trans (F.mono B.size)).trans hG9.1
                            have f9 : FI w9 g9 N D := hG9.2.2.2 g9 _ _ (fD.below' F).box (fun b o e => by have := (hr.lt b o e).1; omega)
                            clear F hG9
                            go_roundw
                            case measure => simp [RowKit.intOf]
                            case rel => exact ⟨k, q, qr + 1, A9, c9, row ++ [q], rfl, rfl, by go_num, hr9, hide (by have := HQ.out; omega), HPZ, B9, f9⟩
                          · have e3 : (z == (k : Int) + 1) = false := beq_eq_false_iff_ne.2 c3
                            have HZ := hide (find_snoc HF.out hp (by unfold fdP; rw [HZ0.out]; simp [c3]))
                            clear hp HF
                            go_wp2_with fail
                            go_roundw
                            case measure => simp [RowKit.intOf]; omega
                            case rel => exact ⟨i + 1, by omega, rfl, by go_num, (by first | rfl | trivial), HZ⟩
                        · have e2 : decide ((v : Int) < (q : Int)) = false := decide_eq_false (by omega)
                          have HZ := hide (find_snoc HF.out hp (by unfold fdP; simp [c2]))
                          clear hp HF
                          go_wp2_with fail
                          go_roundw
                          case measure => simp [RowKit.intOf]; omega
                          case rel => exact ⟨i + 1, by omega, rfl, by go_num, (by first | rfl | trivial), HZ⟩
                      · have e1 : ¬(p : Int) = (x : Int) := by omega
                        have e1' : ((p : Int) == (x : Int)) = false := beq_eq_false_iff_ne.2 e1
                        have HZ := hide (find_snoc HF.out hp (by unfold fdP; simp [c1]))
                        clear hp HF
                        go_wp2_with fail
                        go_roundw
                        case measure => simp [RowKit.intOf]; omega
                        case rel => exact ⟨i + 1, by omega, rfl, by go_num, (by first | rfl | trivial), HZ⟩
                    · obtain rfl : i = m := by omega
                      have HPZ := hide (HPX.out x (find_miss HF.out HLB.out))
                      have d2 : decide ((i : Int) < (i : Int)) = false := decide_eq_false (by omega)
                      clear HF HPX hlt2
                      have F : Below wr.heap.size wr (wr.alloc (.cells #[.int .i64 (x : Int)] 3)) := (Below.refl _ _).alloc (Nat.le_refl _) _
                      go_wp2_with (at_builtin; refine wpList_append_ir rfl _ _ 33 rfl 8 Try.underlying33 int_info w1.heap.size _ qr cr row rfl (hr.below F) wr.heap.size 0 1 x rfl (Box.new wr #[.int .i64 (x : Int)] 3).cell (by omega) (qr + 1) rfl (by have := HQ.out; have := HBL.out; omega) (Nat.le_trans B.size F.size) ?_; intro A9 c9 w9 hr9 hG9)
                      have B9 := (B.trans (F.mono B.size)).trans hG9.1
                      have f9 : FI w9 g9 N D := hG9.2.2.2 g9 _ _ (fD.below' F).box (fun b o e => by have := (hr.lt b o e).1; omega)
                      clear F hG9
                      go_roundw
                      case measure => simp [RowKit.intOf]
                      case rel => exact ⟨k, x, qr + 1, A9, c9, row ++ [x], rfl, rfl, by go_num, hr9, hide (by have := HQ.out; omega), HPZ, B9, f9⟩
    · obtain rfl : v = N := by omega
      have d2 : decide ((v : Int) < (v : Int)) = false := decide_eq_false (by omega)
      have hrow := hb
      rw [HXS.out] at hrow hlb
      subst hlb
      clear hlt hb
      rcases xs with _ | ⟨x0, xs⟩
      · obtain rfl : (7 : Int) = er := HER.out
        go_wp2_with fail
        refine bodyPost_ret (v := .tuple #[.slice none 0 0, .int .i64 7]) (by simp [results, Try.results30, go_sem]) rfl ?_
        exact GivesL.nil B1
      · obtain rfl : (0 : Int) = er := HER.out
        have hz : ((((x0 :: xs).length : Nat) : Int) == 0) = false := beq_eq_false_iff_ne.2 (by simp; omega)
        go_wp2_with fail
        refine bodyPost_ret (v := .tuple #[.slice Ab (x0 :: xs).length cb, .int .i64 0]) (by simp [results, Try.results30, go_sem]) rfl ?_
        exact ⟨⟨Ab, cb, rfl, hrow.rl, hrow.le.1, hrow.le.2⟩, B1⟩
end Go.Proofs.Ytgmdfaamheblmaa
