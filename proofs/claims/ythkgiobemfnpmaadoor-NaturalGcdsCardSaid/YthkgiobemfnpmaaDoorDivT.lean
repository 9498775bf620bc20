/- The contract of natural.takeMultiple. -/
import Derived.Test.YthkgiobemfnpmaaDoorDivG
namespace Go.Proofs.YthkgiobemfnpmaaDoor
open Go Go.RowKit

theorem no_neg {L' L M Bw t pv S : Nat} (h1 : L' + S = L + M * Bw) (hp : pv = L + M * t) (hL' : L' < M) (hS : S ≤ pv) (hr : pv - S < M) : ¬ t < Bw ∧ L' = pv - S := by
  rcases Nat.lt_trichotomy Bw t with h | h | h
  · have : M * (Bw + 1) ≤ M * t := Nat.mul_le_mul_left _ h
    rw [Nat.mul_add, Nat.mul_one] at this
    omega
  · subst h
    omega
  · have : M * (t + 1) ≤ M * Bw := Nat.mul_le_mul_left _ h
    rw [Nat.mul_add, Nat.mul_one] at this
    omega
theorem is_neg {L' L M Bw t pv S : Nat} (h1 : L' + S = L + M * Bw) (hp : pv = L + M * t) (hS : pv < S) : t < Bw := by
  rcases Nat.lt_or_ge t Bw with h | h
  · exact h
  · have : M * Bw ≤ M * t := Nat.mul_le_mul_left _ h
    omega
theorem back_end {L'' L' L M Bw C t pv S q dv : Nat} (h1 : L' + S = L + M * Bw) (h2 : L'' + M * C = L' + dv) (hp : pv = L + M * t) (hS : S = q * dv + dv) (hle : q * dv ≤ pv) (hr : pv - q * dv < M) (hL : L'' < M) : L'' = pv - q * dv := by
  have e : L'' + M * (C + t) = (pv - q * dv) + M * Bw := by rw [Nat.mul_add]; omega
  rcases Nat.lt_trichotomy (C + t) Bw with h | h | h
  · have : M * (C + t + 1) ≤ M * Bw := Nat.mul_le_mul_left _ h
    rw [Nat.mul_add, Nat.mul_one] at this
    omega
  · rw [h] at e; omega
  · have : M * (Bw + 1) ≤ M * (C + t) := Nat.mul_le_mul_left _ h
    rw [Nat.mul_add, Nat.mul_one] at this
    omega
theorem val_top3 {ps : List Nat} {n t2 t1 t0 : Nat} (hl : ps.length = n + 3) (h2 : ps[n + 2]? = some t2) (h1 : ps[n + 1]? = some t1) (h0 : ps[n]? = some t0) :
    val B9 ps = val B9 (ps.take n) + B9 ^ n * ((t2 * 1000000000 + t1) * 1000000000 + t0) := by
  rw [val_split B9 h0, val_drop_step B9 h1, val_drop_step B9 h2, List.drop_eq_nil_of_le (by omega)]
  simp only [val]
  congr 2
  show t0 + 1000000000 * (t1 + 1000000000 * (t2 + 1000000000 * 0)) = _
  omega
theorem val_top2 {ys : List Nat} {n d1 d0 : Nat} (hl : ys.length = n + 2) (h1 : ys[n + 1]? = some d1) (h0 : ys[n]? = some d0) :
    val B9 ys = val B9 (ys.take n) + B9 ^ n * (d1 * 1000000000 + d0) := by
  rw [val_split B9 h0, val_drop_step B9 h1, List.drop_eq_nil_of_le (by omega)]
  simp only [val]
  congr 2
  show d0 + 1000000000 * (d1 + 1000000000 * 0) = _
  omega
/-- the facts of one guess -/
theorem guess_facts {ps ys : List Nat} {n t2 t1 t0 d1 d0 Q : Nat} (hpl : ps.length = n + 3) (hyl : ys.length = n + 2) (hpb : ∀ x ∈ ps, x < B9) (hyb : ∀ x ∈ ys, x < B9)
    (ht2 : ps[n + 2]? = some t2) (ht1 : ps[n + 1]? = some t1) (ht0 : ps[n]? = some t0) (hd1 : ys[n + 1]? = some d1) (hd0 : ys[n]? = some d0) (hhalf : 500000000 ≤ d1) (hlt : val B9 ps < B9 * val B9 ys)
    (hQ : ((t2 * 1000000000 + t1) * 1000000000 + t0) / (d1 * 1000000000 + d0) = Q) :
    t2 ≤ d1 ∧ Q ≤ 1000000001 ∧ val B9 ps / val B9 ys < 1000000000 ∧ (Q = val B9 ps / val B9 ys ∨ Q = val B9 ps / val B9 ys + 1) ∧ val B9 ps = val B9 (ps.take (n + 2)) + B9 ^ (n + 2) * t2 := by
  have e3 := val_top3 hpl ht2 ht1 ht0
  have e2 := val_top2 hyl hd1 hd0
  have l3 := val_take_lt B9 (by decide) hpb n
  have l2 := val_take_lt B9 (by decide) hyb n
  have t1b : t1 < 1000000000 := hpb _ (List.mem_of_getElem? ht1)
  have t0b : t0 < 1000000000 := hpb _ (List.mem_of_getElem? ht0)
  have d0b : d0 < 1000000000 := hyb _ (List.mem_of_getElem? hd0)
  have hpow : 0 < B9 ^ n := Nat.pow_pos (by decide)
  have e4 : val B9 ps = val B9 (ps.take (n + 2)) + B9 ^ (n + 2) * t2 := by
    rw [val_split B9 ht2, List.drop_eq_nil_of_le (by omega)]; simp [val]
  have hy0 : 0 < val B9 ys := by
    rw [e2]
    have := Nat.mul_pos hpow (by omega : 0 < d1 * 1000000000 + d0)
    omega
  have ht2d : t2 ≤ d1 := by
    have h1 : t2 * 1000000000 * 1000000000 * B9 ^ n < (d1 + 1) * 1000000000 * 1000000000 * B9 ^ n := by
      have a1 : t2 * 1000000000 * 1000000000 * B9 ^ n ≤ B9 ^ n * ((t2 * 1000000000 + t1) * 1000000000 + t0) := by
        rw [Nat.mul_comm (B9 ^ n)]; exact Nat.mul_le_mul_right _ (by omega)
      have a2 : B9 * val B9 ys ≤ (d1 + 1) * 1000000000 * 1000000000 * B9 ^ n := by
        have b1 : val B9 ys ≤ (d1 * 1000000000 + d0 + 1) * B9 ^ n := by
          rw [e2, Nat.add_mul _ 1, Nat.one_mul, Nat.mul_comm (B9 ^ n)]; omega
        have b2 : (d1 * 1000000000 + d0 + 1) * B9 ^ n ≤ ((d1 + 1) * 1000000000) * B9 ^ n := Nat.mul_le_mul_right _ (by omega)
        have b3 : B9 * val B9 ys ≤ B9 * (((d1 + 1) * 1000000000) * B9 ^ n) := Nat.mul_le_mul_left _ (Nat.le_trans b1 b2)
        have b4 : B9 * (((d1 + 1) * 1000000000) * B9 ^ n) = (d1 + 1) * 1000000000 * 1000000000 * B9 ^ n := by
          rw [Nat.mul_left_comm, ← Nat.mul_assoc]
        omega
      omega
    have := Nat.lt_of_mul_lt_mul_right h1
    omega
  have hQb : Q ≤ 1000000001 := by
    rw [← hQ, ← Nat.lt_succ_iff, Nat.div_lt_iff_lt_mul (by omega)]
    show _ < 1000000002 * (d1 * 1000000000 + d0)
    omega
  have hgb := guess_bounds (b := B9) (m := n) e3 l3 e2 l2 (by omega) (by rw [hQ]; omega)
  rw [hQ] at hgb
  have hq : val B9 ps / val B9 ys < 1000000000 := (Nat.div_lt_iff_lt_mul hy0).2 hlt
  generalize val B9 ps / val B9 ys = q at *
  exact ⟨ht2d, hQb, hq, by omega, e4⟩

/-- what takeMultiple leaves -/
def Taken (w : World) (g : Nat) (zs : List Nat) (o n pv dv : Nat) (w' : World) : Prop :=
  w.grownBy w' (some g) ∧ ∃ zs', Own w' g .u32 49 zs' ∧ zs'.length = zs.length ∧ (∀ x ∈ zs', x < B9) ∧ zs'.take o = zs.take o ∧ zs'.drop (o + n) = zs.drop (o + n) ∧ val B9 ((zs'.drop o).take n) = pv % dv

set_option maxHeartbeats 1000000 in
theorem takeMultiple_any (g o n c : Nat) (zs : List Nat) (A : Option Addr) (d : Nat) (ys : List Nat) (w : World) (hz : Own w g .u32 49 zs) (hzb : ∀ x ∈ zs, x < B9) (ho : o + n + 3 ≤ zs.length) (hN : n ≤ 2000000)
    (hr : RL w .u32 A (n + 2) ys) (hy : ∀ x ∈ ys, x < B9) (hs : Sp A (n + 2) g) (d1 : Nat) (hd1 : ys[n + 1]? = some d1) (hhalf : 500000000 ≤ d1)
    (pv dv : Nat) (hpv : val B9 ((zs.drop o).take (n + 3)) = pv) (hdv : val B9 ys = dv) (hlt : pv < B9 * dv) (q : Nat) (hq : pv / dv = q) :
    Calls Tryd.prog 66 #[.slice (some ⟨g, o, none⟩) (n + 3) c, .slice A (n + 2) d] w fun e w' => e = .returned (.int .u32 (q : Int)) ∧ Taken w g zs o (n + 2) pv dv w' := by
  have hps : ∃ ps, ps = (zs.drop o).take (n + 3) := ⟨_, rfl⟩
  obtain ⟨ps, hps⟩ := hps
  have hpl : ps.length = n + 3 := by rw [hps, List.length_take, List.length_drop]; omega
  have hp : RL w .u32 (some ⟨g, o, none⟩) (n + 3) ps := by
    have h1 := (hz.rl (n := zs.length) rfl).drop_ (m := o) (by omega)
    rw [Nat.zero_add] at h1
    have h2 := h1.take_ (m := n + 3) (by omega)
    rwa [← hps] at h2
  have hpb : ∀ x ∈ ps, x < B9 := fun x hx => hzb x (by rw [hps] at hx; exact List.mem_of_mem_drop (List.mem_of_mem_take hx))
  have g2 : ps[n + 2]? = some ps[n + 2] := List.getElem?_eq_getElem (by omega)
  have g1 : ps[n + 1]? = some ps[n + 1] := List.getElem?_eq_getElem (by omega)
  have g0 : ps[n]? = some ps[n] := List.getElem?_eq_getElem (by omega)
  have hyl := hr.len
  have gd0 : ys[n]? = some ys[n] := List.getElem?_eq_getElem (by omega)
  generalize ps[n + 2] = t2 at *
  generalize ps[n + 1] = t1 at *
  generalize ps[n] = t0 at *
  generalize ys[n] = d0 at *
  obtain ⟨Q, hQ⟩ : ∃ Q, ((t2 * 1000000000 + t1) * 1000000000 + t0) / (d1 * 1000000000 + d0) = Q := ⟨_, rfl⟩
  obtain ⟨f1, f2, f3, f4, f5⟩ := guess_facts hpl hyl hpb hy g2 g1 g0 hd1 gd0 hhalf (by rw [← hps] at hpv; rw [hpv, hdv]; exact hlt) hQ
  rw [← hps] at hpv
  rw [hpv, hdv, hq] at f3 f4
  rw [hpv] at f5
  have hzt : zs[o + (n + 2)]? = some t2 := by
    rw [hps, List.getElem?_take, if_pos (by omega), List.getElem?_drop] at g2
    exact g2
  have hpt : ps.take (n + 2) = (zs.drop o).take (n + 2) := by rw [hps, List.take_take]; congr 1; omega
  rw [hpt] at f5
  have t2b := hpb _ (List.mem_of_getElem? g2)
  have t1b := hpb _ (List.mem_of_getElem? g1)
  have t0b := hpb _ (List.mem_of_getElem? g0)
  have d1b := hy _ (List.mem_of_getElem? hd1)
  have d0b := hy _ (List.mem_of_getElem? gd0)
  have hdv0 : 0 < dv := by
    rcases Nat.eq_zero_or_pos dv with h | h
    · rw [h, Nat.mul_zero] at hlt; omega
    · exact h
  have hq1 : q * dv ≤ pv := by rw [← hq]; exact Nat.div_mul_le_self _ _
  have hq2 : pv - q * dv = pv % dv := by rw [← hq, Nat.mod_eq_sub_mul_div, Nat.mul_comm]
  have hq3 : pv % dv < dv := Nat.mod_lt _ hdv0
  have hdM : dv < B9 ^ (n + 2) := by rw [← hdv, ← hyl]; exact val_lt B9 (by decide) ys hy
  have KG : Hid (∀ w', RL w' .u32 (some ⟨g, o, none⟩) (n + 3) ps → RL w' .u32 A (n + 2) ys → Calls Tryd.prog 71 #[.slice (some ⟨g, o, none⟩) (n + 3) c, .slice A (n + 2) d] w' fun e w'' => e = .returned (.int .u64 (Q : Int)) ∧ ∃ k, w'' = w'.drewN k) :=
    fun w' h1 h2 => guessLimb_any g o n c ps A d ys w' h1 h2 hN d1 d0 t2 t1 t0 hd1 gd0 g2 g1 g0 d1b d0b t2b t1b t0b hhalf f1 Q hQ
  have HZB := hide hzb
  have HY := hide hy
  have HZT := hide hzt
  have H4 := hide f4
  have H5 := hide f5
  have HDV := hide hdv
  have H1 := hide hq1
  have H2 := hide hq2
  have H3 := hide hq3
  have HM := hide hdM
  clear hzb hy hzt f4 f5 hdv hq1 hq2 hq3 hdM hq hpv hps hpt hyl hpl g2 g1 g0 gd0 hd1 hpb hQ t2b t1b t0b d1b d0b hlt f1
  go_enter Tryd.func66, Tryd.ntmps66
  go_wp2_with fail
  refine (KG.out _ hp hr).mono ?_
  rintro e w1 ⟨rfl, k1, rfl⟩
  have hz1 : Own (w.drewN k1) g .u32 49 zs := hz
  have hr1 := hr.drewN k1
  go_wp2_with fail
  refine (subtractMultiple_any g o (n + 3) c zs A (n + 2) d ys Q t2 _ hz1 HZB.out HZT.out (by omega) (by unfold maxLen; omega) hr1 HY.out hs (by unfold maxLen; omega) f2 (Q * dv) (by rw [HDV.out])).mono ?_
  rintro e w2 ⟨neg, rfl, hg2, zs2, Bw, hz2, hl2, hb2, ht2, hd2, hv2, hneg⟩
  have hlt2 : val B9 ((zs2.drop o).take (n + 2)) < B9 ^ (n + 2) := val_take_lt B9 (by decide) (fun x hx => hb2 x (List.mem_of_mem_drop hx)) _
  have hgw : w.grownBy w2 (some g) := only_trans (only_drewN (World.grownBy.refl w (some g)) k1) hg2
  rcases H4.out with hQq | hQq
  · subst hQq
    have h3 := H3.out
    have hM := HM.out
    have hfin := no_neg hv2 H5.out hlt2 H1.out (by rw [H2.out]; omega)
    have hng : neg = false := by rw [hneg]; simp; omega
    subst hng
    have HF := hide hfin.2
    have K1 := hide hl2
    have K2 := hide hb2
    have K3 := hide ht2
    have K4 := hide hd2
    clear hneg hfin hl2 hb2 ht2 hd2 hv2 hlt2 h3 hM hr1 hz1
    go_wp2
    go_ret
    exact ⟨rfl, hgw, zs2, hz2, K1.out, K2.out, K3.out, K4.out, by rw [HF.out, H2.out]⟩
  · have hS : Q * dv = q * dv + dv := by rw [hQq, Nat.add_mul, Nat.one_mul]
    have h3 := H3.out
    have h2 := H2.out
    have h1 := H1.out
    have hM := HM.out
    have hng : neg = true := by rw [hneg]; simp; exact is_neg hv2 H5.out (by omega)
    subst hng
    have HB := hide hv2
    have HS := hide hS
    have HQ := hide hQq
    have K2 := hide hb2
    have K1 := hide hl2
    have K3 := hide ht2
    have K4 := hide hd2
    have hlen : o + (n + 2) ≤ zs2.length := by omega
    have hr2 := hr.grown hgw hs
    have hq1 : 1 ≤ Q := by omega
    clear hneg hl2 hb2 ht2 hd2 hv2 hlt2 h3 h2 h1 hM hr1 hz1 hS hQq
    go_wp2_with fail
    refine (addBack_any g o (n + 3) c zs2 A (n + 2) d ys _ hz2 K2.out hlen (by omega) (by unfold maxLen; omega) hr2 HY.out hs (by unfold maxLen; omega)).mono ?_
    rintro e w3 ⟨rfl, hg3, zs3, C, hz3, hl3, hb3, ht3, hd3, hv3⟩
    have hlt3 : val B9 ((zs3.drop o).take (n + 2)) < B9 ^ (n + 2) := val_take_lt B9 (by decide) (fun x hx => hb3 x (List.mem_of_mem_drop hx)) _
    have HF := hide (back_end HB.out (by rw [← HDV.out]; exact hv3) H5.out HS.out H1.out (by rw [H2.out]; have := H3.out; have := HM.out; omega) hlt3)
    have L1 := hide hl3
    have L2 := hide hb3
    have L3 := hide ht3
    have L4 := hide hd3
    clear hl3 hb3 ht3 hd3 hv3 hlt3
    go_wp2
    go_ret
    refine ⟨ret_int (by have := HQ.out; omega), only_trans hgw hg3, zs3, hz3, by rw [L1.out]; exact K1.out, L2.out, by rw [L3.out]; exact K3.out, by rw [L4.out]; exact K4.out, by rw [HF.out, H2.out]⟩
end Go.Proofs.YthkgiobemfnpmaaDoor
