/- Induced. -/
import Derived.Test.YtgmdfaamheblmaaPAsc
import Derived.Test.YtgmdfaamheblmaaPInM
import Derived.Test.YtgmdfaamheblmaaPClo
import Derived.Test.YtgmdfaamheblmaaShelf2
namespace Go.Proofs.Ytgmdfaamheblmaa
open Go Go.RowKit PM

/-- what the search gives -/
def BS (xs : List Int) (x : Int) (w : World) (e : Ending) (w' : World) : Prop := e = .returned (.tuple #[.int .i64 (xs.countP (· < x) : Nat), .bool (xs.contains x)]) ∧ Below w.heap.size w w'
theorem bs_any (S : Option Addr) (k d : Nat) (xs : List Int) (x : Int) (w : World) (hs : IL w S k xs) (hk : k ≤ 1000) (hp : xs.Pairwise (· < ·)) :
    Calls Try.prog 49 #[.slice S k d, .int .i64 x] w (BS xs x w) := by
  rcases Nat.eq_zero_or_pos k with h0 | h0
  · subst h0
    obtain rfl : xs = [] := List.eq_nil_of_length_eq_zero hs.len
    exact (Try.slices_BinarySearch_int_empty S d x w).mono fun e w' ⟨h1, h2⟩ => ⟨h1, h2 ▸ Below.refl _ _⟩
  · obtain ⟨b, o, e, hc⟩ := hs.2 h0
    subst e
    have ht : xs.take k = xs := List.take_of_length_le (by rw [hs.len]; exact Nat.le_refl _)
    have := Try.slices_BinarySearch_int b o k d xs x w (by rw [hs.len]; exact Nat.le_refl _) (by omega) (fun j hj => by
      have := hc j xs[j] (List.getElem?_eq_getElem hj)
      rw [this, List.getD_eq_getElem?_getD, List.getElem?_eq_getElem hj]; rfl) (by rw [ht]; exact hp.imp fun h => Int.le_of_lt h)
    rw [ht] at this
    exact this.mono fun e w' ⟨h1, q, h2⟩ => ⟨h1, by subst h2; exact below_drewN (Below.refl _ _) q⟩
set_option maxHeartbeats 2000000 in
theorem ind_v (n : Int) (A : Option Addr) (m c : Nat) (l : List (Int × Int)) (v : Value) (w : World) (hx : YL w A m l) (hm : m ≤ maxLen) (hv : vB n l = false) :
    Calls Try.prog 31 #[.int .i64 n, .slice A m c, v] w (GivesA [] 1 w) := by
  have HX := hide hx
  have HM := hide hm
  have HV := hide hv
  clear hx hm hv
  go_enter Try.func31, Try.ntmps31
  go_wp2_with fail
  refine (valid_any n A m c l _ HX.out HM.out false HV.out).mono ?_
  rintro e w1 ⟨rfl, B⟩
  go_wp2_with fail
  refine bodyPost_ret (v := .tuple #[.slice none 0 0, .int .i64 1]) (by simp [results, Try.results31, go_sem]) rfl ?_
  exact GivesA.nil B
set_option maxHeartbeats 2000000 in
theorem ind_s (N : Nat) (A : Option Addr) (m c : Nat) (bs : List (Nat × Nat)) (S : Option Addr) (k d : Nat) (xs : List Int) (w : World) (hx : YL w A m (bs.map zA)) (hd : Dig N bs) (hs : IL w S k xs) (hk : k ≤ maxLen) (hv : setB N 0 xs = false) :
    Calls Try.prog 31 #[.int .i64 (N : Int), .slice A m c, .slice S k d] w (GivesA [] 1 w) := by
  have HX := hide hx
  have HM := hide (dig_max hd hx)
  have HV := hide (vB_of hd)
  have HS := hide hs
  have HK := hide hk
  have HB := hide hv
  have hn := hd.le
  clear hx hs hk hv hd
  go_enter Try.func31, Try.ntmps31
  go_wp2_with fail
  refine (valid_any N A m c _ _ HX.out HM.out true HV.out).mono ?_
  rintro e w1 ⟨rfl, B⟩
  go_wp2_with fail
  refine (issub_any N S k d xs _ (HS.out.below B) (by omega) HK.out false HB.out).mono ?_
  rintro e w2 ⟨rfl, rfl⟩
  go_wp2_with fail
  refine bodyPost_ret (v := .tuple #[.slice none 0 0, .int .i64 1]) (by simp [results, Try.results31, go_sem]) rfl ?_
  exact GivesA.nil B
set_option maxHeartbeats 8000000 in
theorem ind_y (N : Nat) (A : Option Addr) (m c : Nat) (bs : List (Nat × Nat)) (S : Option Addr) (K d : Nat) (xs : List Int) (w : World) (hx : YL w A m (bs.map zA)) (hd : Dig N bs) (hs : IL w S K xs) (hk : K ≤ 60) (hv : setB N 0 xs = true) (ls : List (Nat × Nat)) (hl : indTo xs bs m = ls) :
    Calls Try.prog 31 #[.int .i64 (N : Int), .slice A m c, .slice S K d] w (GivesA ls 0 w) := by
  have HX := hide hx
  have HM := hide (dig_max hd hx)
  have HV := hide (vB_of hd)
  have HS := hide hs
  have HB := hide hv
  have HP := hide (setB_pw N xs 0 hv).1
  have hn := hd.le
  have HL := hide hl
  have hml : m ≤ 576 := by have := hd.len576; have := hx.1; simp at this; omega
  clear hx hs hv hd hl
  go_enter Try.func31, Try.ntmps31
  go_wp2_with fail
  refine (valid_any N A m c _ _ HX.out HM.out true HV.out).mono ?_
  rintro e w1 ⟨rfl, B⟩
  go_wp2_with fail
  refine (issub_any N S K d xs _ (HS.out.below B) (by omega) (by unfold maxLen; omega) true HB.out).mono ?_
  rintro e w2 ⟨rfl, rfl⟩
  go_wp2_with fail
  obtain ⟨G, hG⟩ : ∃ G, w1.heap.size = G := ⟨_, rfl⟩
  have HG := hide (show w.heap.size ≤ G from by rw [← hG]; exact B.size)
  have HG1 := hide (Nat.le_of_eq hG.symm)
  clear hG
  go_loopw [8, 27] (fun v8 v27 wr => ∃ (j n : Nat) (As : Option Addr) (cs : Nat), j ≤ m ∧ v27 = .int .i64 ((j : Nat) : Int) ∧ v8 = .slice As n cs ∧ AR wr G As n cs ((indTo xs bs j).map zA) ∧ Below w.heap.size w wr ∧ G ≤ wr.heap.size) (fun _ v27 _ => m - (RowKit.intOf v27).toNat)
  case atStart => exact ⟨0, 0, none, 0, by omega, rfl, rfl, AR.nil_, B, HG1.out⟩
  case round =>
    clear B HG1
    obtain ⟨j, n, As, cs, hj, rfl, rfl, hr, B, hGw⟩ := hrel
    by_cases hlt : j < m
    · obtain ⟨b, o, y, rfl, hbl, hy, k0, k1⟩ := (HX.out.keep B).at_ hlt
      obtain ⟨⟨p, q⟩, hp, rfl⟩ := zA_at hy
      simp only [zA] at k0 k1
      have HPQ := hide hp
      have j1 : (0 : Int) ≤ (j : Int) := by omega
      have j2 : (j : Int) < (m : Int) := by omega
      clear hy hp
      go_wp2_with fail
      generalize hW : wr.alloc _ = W'
      obtain ⟨hb, bx, -⟩ := boxC hW
      clear hW
      replace B := B.trans (hb.mono B.size)
      replace hr := hr.below hb
      replace hGw := Nat.le_trans hGw hb.size
      generalize wr.heap.size = g0 at *
      have z0 : W'.cell? ⟨g0, 0, none⟩ = some (.int .i64 (p : Int)) := bx.at_ 0
      have z1 : W'.cell? ⟨g0, 1, none⟩ = some (.int .i64 (q : Int)) := bx.at_ 1
      have lx := bx.lt
      clear k0 k1 hb
      refine (bs_any S K d xs (p : Int) _ (HS.out.below B) (by omega) HP.out).mono ?_
      rintro e w3 ⟨rfl, hb⟩
      replace B := B.trans (hb.mono B.size)
      replace hr := hr.below hb
      replace hGw := Nat.le_trans hGw hb.size
      replace bx := bx.below' hb
      replace lx := bx.lt
      clear hb z0 z1
      have z0 : w3.cell? ⟨g0, 0, none⟩ = some (.int .i64 (p : Int)) := bx.at_ 0
      have z1 : w3.cell? ⟨g0, 1, none⟩ = some (.int .i64 (q : Int)) := bx.at_ 1
      obtain ⟨cp, hcp⟩ : ∃ cp, xs.countP (· < (p : Int)) = cp := ⟨_, rfl⟩
      obtain ⟨bp, hbp⟩ : ∃ bp, xs.contains (p : Int) = bp := ⟨_, rfl⟩
      rw [hcp, hbp]
      have H1 := hide (show xs.countP (· < (p : Int)) = cp ∧ xs.contains (p : Int) = bp from ⟨hcp, hbp⟩)
      have cpK : cp ≤ K := by rw [← hcp, ← HS.out.len]; exact List.countP_le_length
      clear hcp hbp
      go_wp2_with fail
      refine (bs_any S K d xs (q : Int) _ (HS.out.below B) (by omega) HP.out).mono ?_
      rintro e w4 ⟨rfl, hb⟩
      replace B := B.trans (hb.mono B.size)
      replace hr := hr.below hb
      replace hGw := Nat.le_trans hGw hb.size
      replace bx := bx.below' hb
      replace lx := bx.lt
      clear hb z0 z1
      have z0 : w4.cell? ⟨g0, 0, none⟩ = some (.int .i64 (p : Int)) := bx.at_ 0
      have z1 : w4.cell? ⟨g0, 1, none⟩ = some (.int .i64 (q : Int)) := bx.at_ 1
      obtain ⟨cq, hcq⟩ : ∃ cq, xs.countP (· < (q : Int)) = cq := ⟨_, rfl⟩
      obtain ⟨bq, hbq⟩ : ∃ bq, xs.contains (q : Int) = bq := ⟨_, rfl⟩
      rw [hcq, hbq]
      have H2 := hide (show xs.countP (· < (q : Int)) = cq ∧ xs.contains (q : Int) = bq from ⟨hcq, hbq⟩)
      have cqK : cq ≤ K := by rw [← hcq, ← HS.out.len]; exact List.countP_le_length
      clear hcq hbq
      clear z0 z1
      cases bp with
      | false =>
        have HN := hide (show indTo xs bs (j + 1) = indTo xs bs j from by
          rw [indTo_next HPQ.out]; unfold indP; rw [if_neg (by rw [H1.out.2]; simp), List.append_nil])
        go_wp2_with fail
        go_roundw
        case measure => simp [RowKit.intOf]; omega
        case rel => exact ⟨j + 1, n, As, cs, by omega, by go_num, rfl, by rw [HN.out]; exact hr, B, hGw⟩
      | true =>
        cases bq with
        | false =>
          have HN := hide (show indTo xs bs (j + 1) = indTo xs bs j from by
            rw [indTo_next HPQ.out]; unfold indP; rw [if_neg (by rw [H2.out.2]; simp), List.append_nil])
          go_wp2_with fail
          go_roundw
          case measure => simp [RowKit.intOf]; omega
          case rel => exact ⟨j + 1, n, As, cs, by omega, by go_num, rfl, by rw [HN.out]; exact hr, B, hGw⟩
        | true =>
          have HN := hide (show (indTo xs bs (j + 1)).map zA = (indTo xs bs j).map zA ++ [((cp : Int), (cq : Int))] from by
            rw [indTo_next HPQ.out]; unfold indP; rw [if_pos ⟨H1.out.2, H2.out.2⟩, H1.out.1, H2.out.1, List.map_append]; rfl)
          have hq : n ≤ 576 := by
            have h1 := indTo_len xs bs j
            have h2 := hr.len
            rw [List.length_map] at h2; omega
          have HBF := hide hGw
          have F : Below w4.heap.size w4 (w4.alloc (.cells #[.int .i64 (cp : Int), .int .i64 (cq : Int)] 42)) := (Below.refl _ _).alloc (Nat.le_refl _) _
          go_wp2_with (at_builtin; refine wpList_append_ar rfl _ _ 22 rfl Try.underlying22 arc_info G _ n cs _ rfl (hr.below F) (some ⟨w4.heap.size, 0, none⟩) 1 1 [((cp : Int), (cq : Int))] rfl (yl_one w4 42 (cp : Int) (cq : Int)) (n + 1) rfl (by omega) (by have := HBF.out; simp; omega) ?_; intro A9 c9 w9 hr9 hG9)
          have B9 := (B.trans (F.mono B.size)).trans (hG9.1.mono HG.out)
          have hs9 : G ≤ w9.heap.size := Nat.le_trans HBF.out (Nat.le_trans F.size hG9.2.1)
          clear hr F hG9 B hGw
          go_roundw
          case measure => simp [RowKit.intOf]; omega
          case rel => exact ⟨j + 1, n + 1, A9, c9, by omega, by go_num, rfl, by rw [HN.out]; exact hr9, B9, hs9⟩
    · obtain rfl : j = m := by omega
      have d7 : decide ((j : Int) < (j : Int)) = false := decide_eq_false (by omega)
      have hq : ls.length = n := by have := hr.len; rw [List.length_map, HL.out] at this; exact this
      have HR := hide (show AR wr G As n cs (ls.map zA) from by rw [← HL.out]; exact hr)
      subst hq
      clear hr hlt
      go_wp2_with fail
      refine bodyPost_ret (v := .tuple #[.slice As ls.length cs, .int .i64 0]) (by simp [results, Try.results31, go_sem]) rfl ?_
      exact ⟨⟨As, cs, rfl, HR.out.yl, HR.out.le.1, HR.out.le.2⟩, B⟩
/-- what Induced gives -/
def resI (n : Int) (l : List (Int × Int)) (xs : List Int) : List (Nat × Nat) × Int := if vB n l = true then (if setB n 0 xs = true then (indTo xs (l.map nA) l.length, 0) else ([], 1)) else ([], 1)
theorem resI_cases (n : Int) (l : List (Int × Int)) (xs : List Int) : (vB n l = false ∧ resI n l xs = ([], 1)) ∨ ∃ (N : Nat) (bs : List (Nat × Nat)), n = (N : Int) ∧ l = bs.map zA ∧ Dig N bs ∧ ((setB N 0 xs = false ∧ resI n l xs = ([], 1)) ∨ (setB N 0 xs = true ∧ resI n l xs = (indTo xs bs bs.length, 0))) := by
  unfold resI
  rcases hv : vB n l with _ | _
  · exact .inl ⟨rfl, by rw [if_neg (by decide)]⟩
  · obtain ⟨N, bs, rfl, rfl, hd⟩ := vB_true hv
    refine .inr ⟨N, bs, rfl, rfl, hd, ?_⟩
    rcases hs : setB (N : Int) 0 xs with _ | _
    · exact .inl ⟨rfl, by rw [if_pos rfl, if_neg (by decide)]⟩
    · exact .inr ⟨rfl, by rw [if_pos rfl, if_pos rfl, nA_zA, List.length_map]⟩
theorem induced_any (n : Int) (A : Option Addr) (m c : Nat) (l : List (Int × Int)) (S : Option Addr) (k d : Nat) (xs : List Int) (w : World) (hx : YL w A m l) (hm : m ≤ maxLen) (hs : IL w S k xs) (hk : k ≤ 60) (ls : List (Nat × Nat)) (er : Int) (hr : resI n l xs = (ls, er)) :
    Calls Try.prog 31 #[.int .i64 n, .slice A m c, .slice S k d] w (GivesA ls er w) := by
  rcases resI_cases n l xs with ⟨hv, h⟩ | ⟨N, bs, rfl, rfl, hd, ⟨hb, h⟩ | ⟨hb, h⟩⟩
  · rw [h] at hr; cases hr
    exact ind_v n A m c l _ w hx hm hv
  · rw [h] at hr; cases hr
    exact ind_s N A m c bs S k d xs w hx hd hs (by unfold maxLen; omega) hb
  · rw [h] at hr; cases hr
    refine ind_y N A m c bs S k d xs w hx hd hs hk hb _ ?_
    have := hx.1
    rw [List.length_map] at this
    rw [this]
end Go.Proofs.Ytgmdfaamheblmaa
