/- The contract of the reference's Gcd. -/
import Derived.Test.YthkgiobemfnpmaaDoorRDivO
import Derived.Test.YthkgiobemfnpmaaDoorGcd
namespace Go.Proofs.YthkgiobemfnpmaaDoor
open Go Go.RowKit

theorem rdiv_nz (A : Option Addr) (n c : Nat) (A' : Option Addr) (m d : Nat) (w : World) (u v : Nat) (hr : RL w .u32 A n (dig B9 u)) (hn : n ≤ c) (hc : c ≤ maxLen) (hN : n ≤ 50000)
    (hr' : RL w .u32 A' m (dig B9 v)) (hm : m ≤ d) (hd : d ≤ maxLen) (hM : m ≤ 50000) (h0 : v ≠ 0) :
    Calls Tryd.prog 52 #[.agg #[.slice A n c], .agg #[.slice A' m d]] w (GivesDM (u / v) (u % v) 0 w) := by
  rcases Nat.lt_or_ge u v with h | h
  · rw [Nat.div_eq_of_lt h, Nat.mod_eq_of_lt h]
    exact rdiv_less A n c _ A' m d _ w hr hn hc hN (dig_u32 u) hr' hm hd hM (dig_u32 v) u v (vd u) (vd v) h0 h
  · exact rdiv_ok A n c _ A' m d _ w hr hn hc hN (dig_u32 u) hr' hm hd hM (dig_u32 v) u v (vd u) (vd v) h0 h _ _ rfl rfl

set_option maxHeartbeats 2000000 in
theorem rgcd_any (A : Option Addr) (n c : Nat) (xs : List Nat) (A' : Option Addr) (m d : Nat) (ys : List Nat) (w : World) (hr : RL w .u32 A n xs) (hn : n ≤ c) (hc : c ≤ maxLen) (hN : n ≤ 40000) (hx : ∀ x ∈ xs, x < 4294967296)
    (hr' : RL w .u32 A' m ys) (hm : m ≤ d) (hd : d ≤ maxLen) (hM : m ≤ 40000) (hy : ∀ x ∈ ys, x < 4294967296) (u v : Nat) (hu : val B9 xs = u) (hv : val B9 ys = v) (G : Nat) (hG : Nat.gcd u v = G) :
    Calls Tryd.prog 33 #[.agg #[.slice A n c], .agg #[.slice A' m d]] w (GivesN G w) := by
  have HX := hide hx
  have HY := hide hy
  have HU := hide hu
  have HV := hide hv
  have HL := hide hr.len
  have HL' := hide hr'.len
  clear hx hy hu hv
  have HG := hide hG
  clear hG
  go_enter Tryd.func33, Tryd.ntmps33
  go_wp2_with fail
  generalize hW : ((w.alloc _).alloc _).alloc _ = W
  obtain ⟨hbW, b0, b1, b2, hz⟩ := boxes3 hW
  clear hW
  refine (rnorm_any A n c xs _ (hr.below hbW) hn hc (by omega) HX.out u HU.out).mono ?_
  rintro e w1 ⟨A1, n1, c1, rfl, r1, hn1, hc1, hb1⟩
  have hl1 : n1 ≤ n + 1 := dig_len_u32 (n := n1) (m := n) (xs := xs) (by rw [HU.out]; exact r1.len) HL.out HX.out
  have b0 := b0.below' hb1
  have b1 := b1.below' hb1
  have b2 := b2.below' hb1
  have hrB := hr'.below (hbW.trans (hb1.mono hbW.size))
  have hbA := hbW.trans (hb1.mono hbW.size)
  have f0 := b0.frozen 0
  have k0 := b0.cell
  have k1 := b1.cell
  clear hr hr' hb1 hbW
  go_wp2_with fail
  generalize hW2 : w1.setCell _ _ = w2
  have r2 : RL w2 .u32 A1 n1 (dig B9 u) := by rw [← hW2]; exact r1.put b0 _
  have rB2 : RL w2 .u32 A' m ys := by rw [← hW2]; exact hrB.put b0 _
  have c0 : Box w2 w.heap.size #[.slice A1 n1 c1] 24 := by rw [← hW2]; exact b0.put _
  have e1 := b1.far (p := ⟨w.heap.size, 0, none⟩) (by simp) (.slice A1 n1 c1)
  rw [hW2] at e1
  have e2 := b2.far (p := ⟨w.heap.size, 0, none⟩) (by simp) (.slice A1 n1 c1)
  rw [hW2] at e2
  have hb2 : Below w.heap.size w w2 := by rw [← hW2]; exact hbA.setCell (by simp) _
  clear hW2 r1 hrB b0 b1 hbA f0 k0 k1
  refine (rnorm_any A' m d ys _ rB2 hm hd (by omega) HY.out v HV.out).mono ?_
  rintro e w3 ⟨A3, n3, c3, rfl, r3, hn3, hc3, hb3⟩
  have hl3 : n3 ≤ m + 1 := dig_len_u32 (n := n3) (m := m) (xs := ys) (by rw [HV.out]; exact r3.len) HL'.out HY.out
  have b0 := c0.below' hb3
  have b1 := e1.below' hb3
  have b2 := e2.below' hb3
  have r2 := r2.below hb3
  have hbA := hb2.trans (hb3.mono hb2.size)
  have r4 : RL (w3.setCell ⟨w.heap.size + 1, 0, none⟩ (.slice A3 n3 c3)) .u32 A1 n1 (dig B9 u) := r2.put b1 _
  have r5 : RL (w3.setCell ⟨w.heap.size + 1, 0, none⟩ (.slice A3 n3 c3)) .u32 A3 n3 (dig B9 v) := r3.put b1 _
  have d0 : Box (w3.setCell ⟨w.heap.size + 1, 0, none⟩ (.slice A3 n3 c3)) w.heap.size #[.slice A1 n1 c1] 24 := b0.far (by simp) _
  have d1 : Box (w3.setCell ⟨w.heap.size + 1, 0, none⟩ (.slice A3 n3 c3)) (w.heap.size + 1) #[.slice A3 n3 c3] 24 := b1.put _
  have d2 := b2.far (p := ⟨w.heap.size + 1, 0, none⟩) (by simp) (.slice A3 n3 c3)
  have hb4 : Below w.heap.size w (w3.setCell ⟨w.heap.size + 1, 0, none⟩ (.slice A3 n3 c3)) := hbA.setCell (by simp) _
  have f1 := b1.frozen 0
  have g0 := b0.cell
  have g1 := b1.cell
  clear r2 r3 b0 b1 hbA c0 e1 rB2 hb2 hb3 b2 e2
  have k0 := d0.cell
  have k1 := d1.cell
  have HR4 := hide r4.len
  have HR5 := hide r5.len
  have hc1' : n1 ≤ maxLen := Nat.le_trans hn1 hc1
  have hc3' : n3 ≤ maxLen := Nat.le_trans hn3 hc3
  unfold maxLen at hc1' hc3'
  go_wp2_with fail
  generalize w3.setCell (⟨w.heap.size + 1, 0, none⟩ : Addr) (.slice A3 n3 c3) = W4 at *
  clear f1 g0 g1 k0 k1
  go_loopg [5, 6, 7] v (fun K _ _ _ wr => ∃ (X : Nat) (Aa : Option Addr) (na ca : Nat) (Ab : Option Addr) (nb cb : Nat), Box wr w.heap.size #[.slice Aa na ca] 24 ∧ Box wr (w.heap.size + 1) #[.slice Ab nb cb] 24 ∧ Box wr (w.heap.size + 2) #[.slice none 0 0] 24 ∧
      RL wr .u32 Aa na (dig B9 X) ∧ na ≤ ca ∧ ca ≤ maxLen ∧ na ≤ 50000 ∧ RL wr .u32 Ab nb (dig B9 K) ∧ nb ≤ cb ∧ cb ≤ maxLen ∧ nb ≤ 50000 ∧ Nat.gcd X K = G ∧ Below w.heap.size w wr)
  case atStart => exact ⟨u, A1, n1, c1, A3, n3, c3, d0, d1, d2, r4, hn1, hc1, by omega, r5, hn3, hc3, by omega, HG.out, hb4⟩
  case round =>
    obtain ⟨X, Aa, na, ca, Ab, nb, cb, b0, b1, b2, ra, hna, hca, hla, rb, hnb, hcb, hlb, hg, hbw⟩ := hrel
    clear d0 d1 d2 r4 r5 hb4
    have HGG := hide hg
    have j0 := b0.cell
    have j1 := b1.cell
    have j2 := b2.cell
    have f2 := b2.frozen 0
    clear hg
    by_cases h0 : nb = 0
    · subst h0
      have hk0 := (dig_eq_nil B9 (by decide)).1 (List.eq_nil_of_length_eq_zero rb.len)
      have hX : X = G := by rw [← HGG.out, hk0, Nat.gcd_zero_right]
      subst hX
      have HF := hide (fin_box hbw b2 (by omega) ra hna hca)
      clear hk0
      go_wp2
      refine bodyPost_ret (v := .agg #[.slice Aa na ca]) (by simp [results, Tryd.results33, go_sem, j2]) rfl ?_
      exact HF.out
    · have hk0 : gk ≠ 0 := by
        intro h
        apply h0
        rw [← rb.len, h]; rfl
      have HN := hide (show Nat.gcd gk (X % gk) = G from by rw [gcd_step, HGG.out])
      have hlt : X % gk < gk := Nat.mod_lt _ (Nat.pos_of_ne_zero hk0)
      have hd0 : decide (0 < (nb : Int)) = true := by simp; omega
      have HLT := hide hlt
      have hml : (dig B9 (X % gk)).length ≤ 50000 := Nat.le_trans (dig_mono B9 (by decide) (Nat.le_of_lt hlt)) (by rw [rb.len]; exact hlb)
      have HML := hide hml
      clear hml hlt
      go_wp2_with fail
      refine (rdiv_nz Aa na ca Ab nb cb _ X gk ra hna hca hla rb hnb hcb hlb hk0).mono ?_
      rintro e w5 ⟨Aq, nq, cq, Ar, nr, cr, rfl, hq, hnq, hcq, hr3, hnr, hcr, hx⟩
      have b0 := b0.below' hx
      have b1 := b1.below' hx
      have b2 := b2.below' hx
      have rb := rb.below hx
      have hbw := hbw.trans (hx.mono hbw.size)
      clear hx ra j0 j1 j2 f2 hq
      have l0 := b0.lt
      have l1 := b1.lt
      have c0 := b0.put (Value.slice Ab nb cb)
      have c1' := b1.far (p := ⟨w.heap.size, 0, none⟩) (by simp) (Value.slice Ab nb cb)
      have c2' := b2.far (p := ⟨w.heap.size, 0, none⟩) (by simp) (Value.slice Ab nb cb)
      have crb := rb.put (i := 0) b0 (Value.slice Ab nb cb)
      have crr := hr3.put (i := 0) b0 (Value.slice Ab nb cb)
      have cbw := hbw.setCell (p := ⟨w.heap.size, 0, none⟩) (Nat.le_refl _) (Value.slice Ab nb cb)
      have hsz : (w5.setCell ⟨w.heap.size, 0, none⟩ (Value.slice Ab nb cb)).heap.size = w5.heap.size := by simp [World.setCell]
      obtain ⟨-, -, q1, -⟩ := boxes2 (w := w5.setCell ⟨w.heap.size, 0, none⟩ (Value.slice Ab nb cb)) (v0 := .slice Aq nq cq) (v1 := .slice Ar nr cr) (t0 := 24) (t1 := 24) rfl
      rw [hsz] at q1
      have e0 := c0.far (p := ⟨w.heap.size + 1, 0, none⟩) (by simp) (Value.slice Ar nr cr)
      have e1' := c1'.put (Value.slice Ar nr cr)
      have e2' := c2'.far (p := ⟨w.heap.size + 1, 0, none⟩) (by simp) (Value.slice Ar nr cr)
      have erb := crb.put (i := 0) c1' (Value.slice Ar nr cr)
      have err := crr.put (i := 0) c1' (Value.slice Ar nr cr)
      have ebw := cbw.setCell (p := ⟨w.heap.size + 1, 0, none⟩) (by simp) (Value.slice Ar nr cr)
      have j0 := ((b0.alloc (.cells #[.slice Aq nq cq] 24)).alloc (.cells #[.slice Ar nr cr] 24)).cell
      have j1 := ((b1.alloc (.cells #[.slice Aq nq cq] 24)).alloc (.cells #[.slice Ar nr cr] 24)).cell
      have f0 := ((b0.alloc (.cells #[.slice Aq nq cq] 24)).alloc (.cells #[.slice Ar nr cr] 24)).frozen 0
      have i1 := ((c1'.alloc (.cells #[.slice Aq nq cq] 24)).alloc (.cells #[.slice Ar nr cr] 24)).cell
      have if1 := ((c1'.alloc (.cells #[.slice Aq nq cq] 24)).alloc (.cells #[.slice Ar nr cr] 24)).frozen 0
      have ir := q1.cell
      generalize hS : (w5.setCell ⟨w.heap.size, 0, none⟩ (Value.slice Ab nb cb)).setCell ⟨w.heap.size + 1, 0, none⟩ (Value.slice Ar nr cr) = S1 at *
      have HS := hide hS
      obtain ⟨hbS, -, -, -⟩ := boxes2 (w := S1) (v0 := .slice Aq nq cq) (v1 := .slice Ar nr cr) (t0 := 24) (t1 := 24) rfl
      have E0 := e0.below' hbS
      have E1 := e1'.below' hbS
      have E2 := e2'.below' hbS
      have ERB := erb.below hbS
      have ERR := err.below hbS
      have EBW := ebw.trans (hbS.mono ebw.size)
      subst hS
      clear HS hbS e0 e1' e2' erb err ebw b0 b1 b2 rb hbw c0 c1' c2' crb crr cbw hr3 hsz q1
      go_wp2
      go_roundg (X % gk)
      case measure => exact HLT.out
      case rel => exact ⟨gk, Ab, nb, cb, Ar, nr, cr, E0, E1, E2, ERB, hnb, hcb, hlb, ERR, hnr, hcr, by rw [← ERR.len]; exact HML.out, HN.out, EBW⟩
end Go.Proofs.YthkgiobemfnpmaaDoor
