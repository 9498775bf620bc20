/- The reference's Open. -/
import Derived.Test.YtjmpnpflmdpdkaaJRo
import Derived.Test.YtjmpnpflmdpdkaaJRc
namespace Go.Proofs.Ytjmpnpflmdpdkaa
open Go Go.RowKit FM

theorem bs_coin : (bs coin).toList = [67, 79, 73, 78, 49] := by rw [Lib.toList_data]; decide
theorem ropen_no (A : Option Addr) (n c : Nat) (xs : List Nat) (w : World) (hx : BR w A n xs) (h : oE xs = 6 ∨ oE xs = 4) :
    Calls Try.prog 20 #[.slice A n c] w (OpR RJ xs w) := by
  have hl := hx.len
  by_cases h1 : 65536 < n
  · have e := oE_6 (xs := xs) (by omega)
    clear hx hl h
    go_enter Try.func20, Try.ntmps20
    go_wp2_with fail
    refine bodyPost_ret (v := .tuple #[.pointer none, .int .i64 0, .int .i64 6]) (by simp [results, Try.results20, go_sem]) rfl ?_
    exact ⟨Below.refl _ _, .inl ⟨by omega, by rw [e]; rfl⟩⟩
  · have h2 : n < 5 := by
      by_cases h2 : n < 5
      · exact h2
      · exfalso
        unfold oE at h
        rw [if_neg (by omega), if_neg (by omega)] at h
        split at h <;> omega
    have e := oE_4 (xs := xs) (by omega)
    clear hx hl h
    go_enter Try.func20, Try.ntmps20
    go_wp2_with fail
    refine bodyPost_ret (v := .tuple #[.pointer none, .int .i64 0, .int .i64 4]) (by simp [results, Try.results20, go_sem]) rfl ?_
    exact ⟨Below.refl _ _, .inl ⟨by omega, by rw [e]; rfl⟩⟩
set_option maxHeartbeats 1000000 in
theorem ropen_form (A : Option Addr) (n c : Nat) (xs : List Nat) (w : World) (hx : BR w A n xs) (hc : n ≤ c) (hm : c ≤ maxLen) (h1 : ¬ 65536 < n) (h2 : 5 ≤ n) (h : xs.take 5 ≠ coin) :
    Calls Try.prog 20 #[.slice A n c] w (OpR RJ xs w) := by
  have HE := hide (oE_3 (xs := xs) (by rw [hx.len]; omega) (by rw [hx.len]; omega) h)
  have kt := run_text w A 5 c (xs.take 5) (hx.take_ h2)
  have HD := bs_dec (hx.2.take 5) coin_by
  rw [bs_coin, decide_eq_false h] at HD
  have hm2 := hm
  unfold maxLen at hm2
  have i1 : ¬ n < 5 := by omega
  have i2 : (5 : Int) ≤ (n : Int) := by omega
  have i3 : (5 : Int) ≤ (c : Int) := by omega
  clear hx h
  generalize bs (xs.take 5) = S at *
  go_enter Try.func20, Try.ntmps20
  go_wp2_with fail
  refine bodyPost_ret (v := .tuple #[.pointer none, .int .i64 0, .int .i64 3]) (by simp [results, Try.results20, go_sem]) rfl ?_
  exact ⟨Below.refl _ _, .inl ⟨by rw [HE.out]; omega, by rw [HE.out]; rfl⟩⟩
theorem rj_first {w W w1 : World} {p : Nat} {es : List Ent} (hb : Below w.heap.size w W) (h : RJ w1 W.heap.size (Plus Non W w1) p es) (h2 : Below W.heap.size W w1) : RJ w1 w.heap.size (Plus Non w w1) p es ∧ Below w.heap.size w w1 := by
  have s1 := hb.size
  refine ⟨(h.low s1).mono (fun k hk => ?_) (fun k hk => ?_), hb.trans (h2.mono s1)⟩
  · rcases hk with hk | hk
    · exact hk.elim
    · exact .inr (by omega)
  · rcases hk with hk | hk
    · exact hk.elim
    · exact hk
theorem rj_carry {w w1 w2 : World} {p : Nat} {es : List Ent} (h : RJ w1 w.heap.size (Plus Non w w1) p es) (hb : Below w.heap.size w w1) (h2 : Below w1.heap.size w1 w2) : RJ w2 w.heap.size (Plus Non w w2) p es ∧ Below w.heap.size w w2 := by
  have s1 := hb.size
  have s2 := h2.size
  refine ⟨(h.below h2).mono (fun k hk => ?_) (fun k hk => ?_), hb.trans (h2.mono s1)⟩
  · rcases hk with hk | hk
    · exact hk.elim
    · exact .inr (by omega)
  · rcases hk with hk | hk
    · exact hk.elim
    · exact hk
theorem rj_add {w w1 w2 : World} {p : Nat} {es : List Ent} (h1 : RJ w2 w.heap.size (Plus (Plus Non w w1) w1 w2) p es) (hb : Below w.heap.size w w1) (ht : Turn (Plus Non w w1) w1 w2) : RJ w2 w.heap.size (Plus Non w w2) p es ∧ Below w.heap.size w w2 := by
  have s1 := hb.size
  have s2 := ht.size
  refine ⟨h1.mono (fun k hk => ?_) (fun k hk => ?_), ht.onto hb (fun k hk => ?_)⟩
  · rcases hk with (hk | hk) | hk
    · exact hk.elim
    · exact .inr (by omega)
    · exact .inr (by omega)
  · rcases hk with hk | hk
    · exact hk.elim
    · exact hk
  · rcases hk with hk | hk
    · exact hk.elim
    · exact hk.1
theorem rnew_two (w : World) : Calls Try.prog 13 #[] w fun e w' => ∃ q, e = .returned (.pointer (some ⟨q, 0, none⟩)) ∧ RJ w' w.heap.size (Plus Non w w') q [] ∧ Below w.heap.size w w' ∧ (w'.cell? ⟨q, 0, none⟩ = some (.slice none 0 0) ∧ w.heap.size ≤ q) := by
  go_enter Try.func13, Try.ntmps13
  go_wp2_with fail
  go_ret
  obtain ⟨a1, a2⟩ := rj_new (w := w) rfl
  exact ⟨_, rfl, a1, a2, (Box.new w #[.slice none 0 0] 59).at_ 0, Nat.le_refl _⟩
/-- the rest lies apart from what is written -/
def Off (Al : Option Addr) (m q : Nat) (A : Option Addr) : Prop := 0 < m → ∀ g, Blk Al g → g ≠ q ∧ ¬ Blk A g
set_option maxHeartbeats 8000000 in
theorem ropen_eq5 (b o n c : Nat) (xs : List Nat) (w : World) (hx : BR w (some ⟨b, o, none⟩) n xs) (hc : n ≤ c) (hm : c ≤ maxLen) (h1 : n ≤ 65536) (h2 : 5 ≤ n) (h : xs.take 5 = coin) (hc5 : c = 5) :
    Calls Try.prog 20 #[.slice (some ⟨b, o, none⟩) n c] w (OpR RJ xs w) := by
  subst hc5
  obtain rfl : n = 5 := by omega
  have HE := hide (oE_0 (xs := xs) (by rw [hx.len]; omega) (by rw [hx.len]; omega) h)
  have HXL := hide hx.len
  have HBY := hide hx.2
  have kt := run_text w (some ⟨b, o, none⟩) 5 5 (xs.take 5) (hx.take_ h2)
  have HD := bs_dec (hx.2.take 5) coin_by
  rw [bs_coin, decide_eq_true h] at HD
  have HRST := hide (show BR w (some ⟨b, o, none⟩) 0 (xs.drop 5) from by
    have := rest_br hx h2 hc
    simpa using this)
  have hbw : b < w.heap.size := hx.1.lt (by omega) b o rfl
  have hm2 := hm
  unfold maxLen at hm2
  have i1 : ¬ 5 < 5 := by omega
  have i2 : (5 : Int) ≤ (5 : Int) := by omega
  have i3 : ¬ 65536 < 5 := by omega
  have i4 : (5 : Int) ≤ (5 : Int) := by omega
  clear hx h
  generalize bs (xs.take 5) = S at *
  go_enter Try.func20, Try.ntmps20
  go_wp2_with fail
  (with_reducible refine (rnew_two _).mono ?_)
  rintro e w1 ⟨q, rfl, hj, hb, hq0⟩
  have HJ1 := hide hj
  have HB1 := hide hb
  have HQ := hide hq0
  clear hj hb kt HD hq0
  go_wp2_with fail
  go_loopw [6] (fun v6 wr => ∃ (Al : Option Addr) (m c' : Nat) (es : List Ent) (r : List Nat) (A : Option Addr) (na ca : Nat), v6 = .slice Al m c' ∧ BR wr Al m r ∧ m ≤ c' ∧ c' ≤ maxLen ∧ Hid (xs.drop 5 = fr es ++ r ∧ OkE es) ∧ RJ wr w.heap.size (Plus Non w wr) q es ∧ Below w.heap.size w wr ∧ Hid (wr.cell? ⟨q, 0, none⟩ = some (.slice A na ca)) ∧ Off Al m q A) (fun v6 _ => sln v6)
  case atStart => exact ⟨(some ⟨b, o, none⟩), 0, 0, [], xs.drop 5, none, 0, 0, rfl, HRST.out.below HB1.out, by omega, by unfold maxLen; omega, hide ⟨rfl, OkE.nil⟩, HJ1.out, HB1.out, hide HQ.out.1, fun _ g hg => ⟨by rw [blk_some.1 hg]; have := HQ.out.2; omega, blk_none⟩⟩
  case round =>
    clear HJ1 HB1 HRST HQ
    obtain ⟨Al, m, c', es, r, A, na, ca, rfl, hr, hmc, hcm, HF, hj, hb, HC, HO⟩ := hrel
    have HJ := hide hj
    have HB := hide hb
    have HR := hide hr
    have HRB := hide hr.2
    have hml := coin_fr HXL.out h2 HF.out.1
    have hrl := hr.len
    have hje := jb_ge es
    have hm5 : m ≤ 100000 := by omega
    have HN := hide hml
    obtain ⟨E, hE⟩ : ∃ E, opE r = E := ⟨_, rfl⟩
    have hcases := opE_cases r
    rw [hE] at hcases
    have HE2 := hide hE
    clear hj hb hr hml hje hE
    go_wp2_with fail
    (with_reducible refine (ropenq_any Al m c' r _ HR.out hmc hcm hm5 _ _ _ E rfl rfl rfl HE2.out).mono ?_)
    rintro e w2 ⟨A1, n1, c1, A2, n2, c2, rfl, hr1, hr2, hb2, hnew, hnew2, hcap⟩
    obtain ⟨hj3, hb3⟩ := rj_carry HJ.out HB.out hb2
    have HJ3 := hide hj3
    have HB3 := hide hb3
    clear hj3 hb3
    have hx0 : E = 0 ∨ E ≠ 0 := by omega
    rcases hx0 with h0 | h0
    · subst h0
      have HM := hide (reads_more HF.out.1 HF.out.2 HRB.out HE2.out)
      have e1 : oK r = opK r := by unfold oK; rw [if_pos HE2.out]
      have e2 : oD r = opD r := by unfold oD; rw [if_pos HE2.out]
      have e3 : oR r = opR r := by unfold oR; rw [if_pos HE2.out]
      rw [e2] at hr1
      rw [e3] at hr2
      rw [e1]
      clear e1 e2 e3 hcases
      have hjl : (jb es).length + (opD r).length + 9 ≤ 65536 := by
        have e1 := HM.out.2.2.2.1
        have e2 := HN.out
        omega
      have hdec : n2 < m := by
        have e1 := HM.out.2.2.2.1
        have e2 := hr2.len
        omega
      obtain ⟨A0, na0, ca0, hs, D, g1, g2, g3, g4, g5, g6, g7, g8, g9, g10, g11⟩ := HJ.out
      have HWS := HB.out.size
      have ea : A0 = A ∧ na0 = na ∧ ca0 = ca := by
        have t1 := g1.at_ 0
        rw [HC.out] at t1
        simp at t1
        exact ⟨t1.1.symm, t1.2.1.symm, t1.2.2.symm⟩
      obtain ⟨rfl, rfl, rfl⟩ := ea
      have F2 : Below w2.heap.size w2 (w2.alloc (.cells #[.int .u8 (opK r : Int), .slice A1 n1 c1] 33)) := (Below.refl _ _).alloc (Nat.le_refl _) _
      have FW := Below.next hb2 F2
      have HP := hide (fun (w3 : World) (A3 : Option Addr) (c3 : Nat) => put_rj (WA := w2.alloc (.cells #[.int .u8 (opK r : Int), .slice A1 n1 c1] 33)) (w3 := w3) (A3 := A3) (Ad := A1) (c3 := c3) (k := opK r) (nd := n1) (cd := c1) (d := opD r) g1 g2 g3 g5 g6 g7 g8 g9 g10 HWS HM.out.2.2.2.2.2.1 HM.out.2.2.2.2.2.2 HM.out.2.2.2.2.1 hjl FW (hr1.below F2) hnew)
      have HA := hide (show na0 ≤ 65536 from by
        have e1 : ∀ l : List Ent, l.length ≤ (fr l).length := by
          intro l
          induction l with
          | nil => simp
          | cons x l ih => rw [fr_cons, List.length_append, frame_len, List.length_cons]; omega
        have := e1 es; rw [jb_len] at g11; omega)
      have HRow := hide ((Turn.of (F := Non) FW).owns g4 (fun _ _ => id))
      have HBx := hide (g1.below' FW)
      have HG6 := hide g6
      have HLT := hide (show (0 < n2 → ∀ g, Blk A2 g → g < w2.heap.size) ∧ (∀ g, Blk A0 g → g < w2.heap.size) ∧ q < w2.heap.size from ⟨fun h g hg => by
          obtain ⟨o', s', e⟩ := hg
          obtain ⟨b', o'', e', _⟩ := hr2.1.2 h
          have hlt := hr2.1.lt h b' o'' e'
          rw [e] at e'; injection e' with e'; injection e' with e' _ _; subst e'; exact hlt, fun g hg => by have := (g3 g (g5 g hg)).2; have := hb2.size; omega, by have := g1.lt; have := hb2.size; omega⟩)
      have HR2 := hide (hr2.below F2)
      have HCAP := hide (hcap rfl)
      have HN2 := hide (show ∀ g, 0 < n2 → Blk A2 g → g ≠ q ∧ ¬ Blk A0 g ∧ g < w2.heap.size from fun g h hg => ⟨by have := hnew2 h g hg; have := g1.lt; omega, fun hg' => by have := hnew2 h g hg; have := (g3 g (g5 g hg')).2; omega, HLT.out.1 h g hg⟩)
      have k0 := (g1.below' hb2).at_ 0
      have k0' : w2.cell? ⟨q, 0, none⟩ = some (.slice A0 na0 ca0) := k0
      have ka : (w2.alloc (.cells #[.int .u8 (opK r : Int), .slice A1 n1 c1] 33)).cell? ⟨q, 0, none⟩ = some (.slice A0 na0 ca0) := (g1.below' FW).at_ 0
      clear g1 g2 g3 g4 g5 g6 g7 g8 g9 g10 g11 hnew hnew2 hcap HLT hr1 hr2 hjl k0
      go_wp2_with (at_builtin; refine wpList_append_one rfl _ _ 22 rfl 33 (.agg #[.int .u8 0, .slice none 0 0]) 2 32 Try.underlying22 ent_info rfl (by decide) (by decide) A0 na0 ca0 (flatH hs) rfl HRow.out _ 1 33 (cellsH (opK r, A1, n1, c1)) rfl (Box.new _ _ _) rfl (cellsH_one _) (na0 + 1) rfl (by have := HA.out; omega) ?_; intro A5 c5 w3 q3 t3 s3; have HP3 := hide (t3.box HBx.out HG6.out); have f3 := HP3.out.frozen 0; have c3f : w3.cell? ⟨q, 0, none⟩ = some (.slice A0 na0 ca0) := HP3.out.at_ 0)
      have R := hide (HP.out _ _ _ q3 t3 s3)
      have hra := rj_add R.out.1 HB.out R.out.2
      have HJ5 := hide hra.1
      have HB5 := hide hra.2
      have tset : Turn (Is q) w3 (w3.setCell ⟨q, 0, none⟩ (.slice A5 (na0 + 1) c5)) := (Turn.refl (Is q) w3).set 0 _ rfl
      have HR5 := hide (tset.br (t3.br HR2.out (fun h g hg => (HN2.out g h hg).2.1)) (fun h g hg e => (HN2.out g h hg).1 e))
      have HC5 := hide (show (w3.setCell ⟨q, 0, none⟩ (.slice A5 (na0 + 1) c5)).cell? ⟨q, 0, none⟩ = some (.slice A5 (na0 + 1) c5) from (HP3.out.put _).at_ 0)
      have HO5 := hide (show Off A2 n2 q A5 from fun h g hg => ⟨(HN2.out g h hg).1, fun hg' => by
        rcases s3 g hg' with h' | h'
        · exact (HN2.out g h hg).2.1 h'
        · have := (HN2.out g h hg).2.2; have := F2.size; omega⟩)
      clear q3 t3 s3 R hra tset HP HN2 HP3
      go_wp2_with fail
      go_roundw
      case measure => simp [sln]; omega
      case rel => exact ⟨A2, n2, c2, es ++ [(opK r, opD r)], opR r, A5, na0 + 1, c5, rfl, HR5.out, HCAP.out.1, HCAP.out.2, hide ⟨HM.out.1, HM.out.2.1⟩, HJ5.out, HB5.out, HC5, HO5.out⟩
    · have HO3 := hide (show opE r ≠ 0 from by rw [HE2.out]; exact h0)
      obtain rfl := hrl
      have hE4 : E = 3 ∨ E = 4 ∨ E = 5 ∨ E = 6 := by omega
      clear hcases hr1 hr2 hb2 hnew hnew2 hcap HE2
      rcases hE4 with rfl | rfl | rfl | rfl
      all_goals
        go_wp2_with fail
        refine bodyPost_ret (v := .tuple #[.pointer (some ⟨q, 0, none⟩), .int .i64 (r.length : Int), .int .i64 0]) (by simp [results, Try.results20, go_sem]) rfl ?_
        exact ⟨HB3.out, .inr ⟨HE.out, q, es, r, rfl, ⟨HF.out.1, HF.out.2, HO3.out⟩, HJ3.out⟩⟩
set_option maxHeartbeats 8000000 in
theorem ropen_gt5 (b o n c : Nat) (xs : List Nat) (w : World) (hx : BR w (some ⟨b, o, none⟩) n xs) (hc : n ≤ c) (hm : c ≤ maxLen) (h1 : n ≤ 65536) (h2 : 5 ≤ n) (h : xs.take 5 = coin) (hc5 : 5 < c) :
    Calls Try.prog 20 #[.slice (some ⟨b, o, none⟩) n c] w (OpR RJ xs w) := by
  have hc6 : ¬ c = 5 := by omega
  have HE := hide (oE_0 (xs := xs) (by rw [hx.len]; omega) (by rw [hx.len]; omega) h)
  have HXL := hide hx.len
  have HBY := hide hx.2
  have kt := run_text w (some ⟨b, o, none⟩) 5 c (xs.take 5) (hx.take_ h2)
  have HD := bs_dec (hx.2.take 5) coin_by
  rw [bs_coin, decide_eq_true h] at HD
  have HRST := hide (show BR w (some ⟨b, o + 5, none⟩) (n - 5) (xs.drop 5) from by
    have := rest_br hx h2 hc
    simpa [hc6] using this)
  have hbw : b < w.heap.size := hx.1.lt (by omega) b o rfl
  have hm2 := hm
  unfold maxLen at hm2
  have i1 : ¬ n < 5 := by omega
  have i2 : (5 : Int) ≤ (n : Int) := by omega
  have i3 : ¬ 65536 < n := by omega
  have i4 : (5 : Int) ≤ (c : Int) := by omega
  clear hx h
  generalize bs (xs.take 5) = S at *
  go_enter Try.func20, Try.ntmps20
  go_wp2_with fail
  (with_reducible refine (rnew_two _).mono ?_)
  rintro e w1 ⟨q, rfl, hj, hb, hq0⟩
  have HJ1 := hide hj
  have HB1 := hide hb
  have HQ := hide hq0
  clear hj hb kt HD hq0
  go_wp2_with fail
  go_loopw [6] (fun v6 wr => ∃ (Al : Option Addr) (m c' : Nat) (es : List Ent) (r : List Nat) (A : Option Addr) (na ca : Nat), v6 = .slice Al m c' ∧ BR wr Al m r ∧ m ≤ c' ∧ c' ≤ maxLen ∧ Hid (xs.drop 5 = fr es ++ r ∧ OkE es) ∧ RJ wr w.heap.size (Plus Non w wr) q es ∧ Below w.heap.size w wr ∧ Hid (wr.cell? ⟨q, 0, none⟩ = some (.slice A na ca)) ∧ Off Al m q A) (fun v6 _ => sln v6)
  case atStart => exact ⟨(some ⟨b, o + 5, none⟩), (n - 5), (c - 5), [], xs.drop 5, none, 0, 0, rfl, HRST.out.below HB1.out, by omega, by unfold maxLen; omega, hide ⟨rfl, OkE.nil⟩, HJ1.out, HB1.out, hide HQ.out.1, fun _ g hg => ⟨by rw [blk_some.1 hg]; have := HQ.out.2; omega, blk_none⟩⟩
  case round =>
    clear HJ1 HB1 HRST HQ
    obtain ⟨Al, m, c', es, r, A, na, ca, rfl, hr, hmc, hcm, HF, hj, hb, HC, HO⟩ := hrel
    have HJ := hide hj
    have HB := hide hb
    have HR := hide hr
    have HRB := hide hr.2
    have hml := coin_fr HXL.out h2 HF.out.1
    have hrl := hr.len
    have hje := jb_ge es
    have hm5 : m ≤ 100000 := by omega
    have HN := hide hml
    obtain ⟨E, hE⟩ : ∃ E, opE r = E := ⟨_, rfl⟩
    have hcases := opE_cases r
    rw [hE] at hcases
    have HE2 := hide hE
    clear hj hb hr hml hje hE
    go_wp2_with fail
    (with_reducible refine (ropenq_any Al m c' r _ HR.out hmc hcm hm5 _ _ _ E rfl rfl rfl HE2.out).mono ?_)
    rintro e w2 ⟨A1, n1, c1, A2, n2, c2, rfl, hr1, hr2, hb2, hnew, hnew2, hcap⟩
    obtain ⟨hj3, hb3⟩ := rj_carry HJ.out HB.out hb2
    have HJ3 := hide hj3
    have HB3 := hide hb3
    clear hj3 hb3
    have hx0 : E = 0 ∨ E ≠ 0 := by omega
    rcases hx0 with h0 | h0
    · subst h0
      have HM := hide (reads_more HF.out.1 HF.out.2 HRB.out HE2.out)
      have e1 : oK r = opK r := by unfold oK; rw [if_pos HE2.out]
      have e2 : oD r = opD r := by unfold oD; rw [if_pos HE2.out]
      have e3 : oR r = opR r := by unfold oR; rw [if_pos HE2.out]
      rw [e2] at hr1
      rw [e3] at hr2
      rw [e1]
      clear e1 e2 e3 hcases
      have hjl : (jb es).length + (opD r).length + 9 ≤ 65536 := by
        have e1 := HM.out.2.2.2.1
        have e2 := HN.out
        omega
      have hdec : n2 < m := by
        have e1 := HM.out.2.2.2.1
        have e2 := hr2.len
        omega
      obtain ⟨A0, na0, ca0, hs, D, g1, g2, g3, g4, g5, g6, g7, g8, g9, g10, g11⟩ := HJ.out
      have HWS := HB.out.size
      have ea : A0 = A ∧ na0 = na ∧ ca0 = ca := by
        have t1 := g1.at_ 0
        rw [HC.out] at t1
        simp at t1
        exact ⟨t1.1.symm, t1.2.1.symm, t1.2.2.symm⟩
      obtain ⟨rfl, rfl, rfl⟩ := ea
      have F2 : Below w2.heap.size w2 (w2.alloc (.cells #[.int .u8 (opK r : Int), .slice A1 n1 c1] 33)) := (Below.refl _ _).alloc (Nat.le_refl _) _
      have FW := Below.next hb2 F2
      have HP := hide (fun (w3 : World) (A3 : Option Addr) (c3 : Nat) => put_rj (WA := w2.alloc (.cells #[.int .u8 (opK r : Int), .slice A1 n1 c1] 33)) (w3 := w3) (A3 := A3) (Ad := A1) (c3 := c3) (k := opK r) (nd := n1) (cd := c1) (d := opD r) g1 g2 g3 g5 g6 g7 g8 g9 g10 HWS HM.out.2.2.2.2.2.1 HM.out.2.2.2.2.2.2 HM.out.2.2.2.2.1 hjl FW (hr1.below F2) hnew)
      have HA := hide (show na0 ≤ 65536 from by
        have e1 : ∀ l : List Ent, l.length ≤ (fr l).length := by
          intro l
          induction l with
          | nil => simp
          | cons x l ih => rw [fr_cons, List.length_append, frame_len, List.length_cons]; omega
        have := e1 es; rw [jb_len] at g11; omega)
      have HRow := hide ((Turn.of (F := Non) FW).owns g4 (fun _ _ => id))
      have HBx := hide (g1.below' FW)
      have HG6 := hide g6
      have HLT := hide (show (0 < n2 → ∀ g, Blk A2 g → g < w2.heap.size) ∧ (∀ g, Blk A0 g → g < w2.heap.size) ∧ q < w2.heap.size from ⟨fun h g hg => by
          obtain ⟨o', s', e⟩ := hg
          obtain ⟨b', o'', e', _⟩ := hr2.1.2 h
          have hlt := hr2.1.lt h b' o'' e'
          rw [e] at e'; injection e' with e'; injection e' with e' _ _; subst e'; exact hlt, fun g hg => by have := (g3 g (g5 g hg)).2; have := hb2.size; omega, by have := g1.lt; have := hb2.size; omega⟩)
      have HR2 := hide (hr2.below F2)
      have HCAP := hide (hcap rfl)
      have HN2 := hide (show ∀ g, 0 < n2 → Blk A2 g → g ≠ q ∧ ¬ Blk A0 g ∧ g < w2.heap.size from fun g h hg => ⟨by have := hnew2 h g hg; have := g1.lt; omega, fun hg' => by have := hnew2 h g hg; have := (g3 g (g5 g hg')).2; omega, HLT.out.1 h g hg⟩)
      have k0 := (g1.below' hb2).at_ 0
      have k0' : w2.cell? ⟨q, 0, none⟩ = some (.slice A0 na0 ca0) := k0
      have ka : (w2.alloc (.cells #[.int .u8 (opK r : Int), .slice A1 n1 c1] 33)).cell? ⟨q, 0, none⟩ = some (.slice A0 na0 ca0) := (g1.below' FW).at_ 0
      clear g1 g2 g3 g4 g5 g6 g7 g8 g9 g10 g11 hnew hnew2 hcap HLT hr1 hr2 hjl k0
      go_wp2_with (at_builtin; refine wpList_append_one rfl _ _ 22 rfl 33 (.agg #[.int .u8 0, .slice none 0 0]) 2 32 Try.underlying22 ent_info rfl (by decide) (by decide) A0 na0 ca0 (flatH hs) rfl HRow.out _ 1 33 (cellsH (opK r, A1, n1, c1)) rfl (Box.new _ _ _) rfl (cellsH_one _) (na0 + 1) rfl (by have := HA.out; omega) ?_; intro A5 c5 w3 q3 t3 s3; have HP3 := hide (t3.box HBx.out HG6.out); have f3 := HP3.out.frozen 0; have c3f : w3.cell? ⟨q, 0, none⟩ = some (.slice A0 na0 ca0) := HP3.out.at_ 0)
      have R := hide (HP.out _ _ _ q3 t3 s3)
      have hra := rj_add R.out.1 HB.out R.out.2
      have HJ5 := hide hra.1
      have HB5 := hide hra.2
      have tset : Turn (Is q) w3 (w3.setCell ⟨q, 0, none⟩ (.slice A5 (na0 + 1) c5)) := (Turn.refl (Is q) w3).set 0 _ rfl
      have HR5 := hide (tset.br (t3.br HR2.out (fun h g hg => (HN2.out g h hg).2.1)) (fun h g hg e => (HN2.out g h hg).1 e))
      have HC5 := hide (show (w3.setCell ⟨q, 0, none⟩ (.slice A5 (na0 + 1) c5)).cell? ⟨q, 0, none⟩ = some (.slice A5 (na0 + 1) c5) from (HP3.out.put _).at_ 0)
      have HO5 := hide (show Off A2 n2 q A5 from fun h g hg => ⟨(HN2.out g h hg).1, fun hg' => by
        rcases s3 g hg' with h' | h'
        · exact (HN2.out g h hg).2.1 h'
        · have := (HN2.out g h hg).2.2; have := F2.size; omega⟩)
      clear q3 t3 s3 R hra tset HP HN2 HP3
      go_wp2_with fail
      go_roundw
      case measure => simp [sln]; omega
      case rel => exact ⟨A2, n2, c2, es ++ [(opK r, opD r)], opR r, A5, na0 + 1, c5, rfl, HR5.out, HCAP.out.1, HCAP.out.2, hide ⟨HM.out.1, HM.out.2.1⟩, HJ5.out, HB5.out, HC5, HO5.out⟩
    · have HO3 := hide (show opE r ≠ 0 from by rw [HE2.out]; exact h0)
      obtain rfl := hrl
      have hE4 : E = 3 ∨ E = 4 ∨ E = 5 ∨ E = 6 := by omega
      clear hcases hr1 hr2 hb2 hnew hnew2 hcap HE2
      rcases hE4 with rfl | rfl | rfl | rfl
      all_goals
        go_wp2_with fail
        refine bodyPost_ret (v := .tuple #[.pointer (some ⟨q, 0, none⟩), .int .i64 (r.length : Int), .int .i64 0]) (by simp [results, Try.results20, go_sem]) rfl ?_
        exact ⟨HB3.out, .inr ⟨HE.out, q, es, r, rfl, ⟨HF.out.1, HF.out.2, HO3.out⟩, HJ3.out⟩⟩
theorem ropenj_any (A : Option Addr) (n c : Nat) (xs : List Nat) (w : World) (hx : BR w A n xs) (hc : n ≤ c) (hm : c ≤ maxLen) :
    Calls Try.prog 20 #[.slice A n c] w (OpR RJ xs w) := by
  have hl := hx.len
  by_cases h1 : 65536 < n
  · exact ropen_no A n c xs w hx (.inl (oE_6 (by omega)))
  by_cases h2 : n < 5
  · exact ropen_no A n c xs w hx (.inr (oE_4 (by omega)))
  by_cases h3 : xs.take 5 = coin
  · obtain ⟨b, o, x, rfl, -, -, -⟩ := hx.at_ (j := 0) (by omega)
    by_cases h5 : c = 5
    · exact ropen_eq5 b o n c xs w hx hc hm (by omega) (by omega) h3 h5
    · exact ropen_gt5 b o n c xs w hx hc hm (by omega) (by omega) h3 (by omega)
  · exact ropen_form A n c xs w hx hc hm h1 (by omega) h3
end Go.Proofs.Ytjmpnpflmdpdkaa
