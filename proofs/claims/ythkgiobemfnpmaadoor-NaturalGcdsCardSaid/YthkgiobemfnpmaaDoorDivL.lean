/- The contract of natural.divideLong. -/
import Derived.Test.YthkgiobemfnpmaaDoorDivT
import Derived.Test.YthkgiobemfnpmaaDoorMul
namespace Go.Proofs.YthkgiobemfnpmaaDoor
open Go Go.RowKit

theorem scale_facts {t : Nat} (h1 : 1 ≤ t) (h2 : t < 1000000000) : 1 ≤ 1000000000 / (t + 1) ∧ 1000000000 / (t + 1) ≤ 500000000 ∧ 1000000000 / (t + 1) * (t + 1) ≤ 1000000000 ∧ 500000000 ≤ 1000000000 / (t + 1) * t := by
  have h3 : 1000000000 / (t + 1) * (t + 1) ≤ 1000000000 := Nat.div_mul_le_self _ _
  have h4 : 1 ≤ 1000000000 / (t + 1) := by rw [Nat.le_div_iff_mul_le (by omega)]; omega
  have h5 : 1000000000 < (1000000000 / (t + 1) + 1) * (t + 1) := by
    have := Nat.lt_mul_div_succ 1000000000 (show 0 < t + 1 by omega)
    rwa [Nat.mul_comm] at this
  generalize 1000000000 / (t + 1) = s at *
  have e1 : s * (t + 1) = s * t + s := by rw [Nat.mul_add, Nat.mul_one]
  have e2 : (s + 1) * (t + 1) = s * t + s + t + 1 := by rw [Nat.add_mul, Nat.one_mul, e1]; omega
  refine ⟨h4, ?_, h3, ?_⟩
  · have : s * 2 ≤ s * (t + 1) := Nat.mul_le_mul_left _ (by omega)
    omega
  · rcases Nat.lt_or_ge s 2 with h | h
    · obtain rfl : s = 1 := by omega
      omega
    · obtain ⟨p, rfl⟩ : ∃ p, s = p + 2 := ⟨s - 2, by omega⟩
      obtain ⟨r, rfl⟩ : ∃ r, t = r + 1 := ⟨t - 1, by omega⟩
      have e3 : (p + 2) * (r + 1) = p * r + p + 2 * r + 2 := by rw [Nat.add_mul, Nat.mul_add]; omega
      omega

/-- the divisor, scaled -/
theorem divisor_facts {zs : List Nat} {n v t s : Nat} (hl : zs.length = n + 3) (hz : ∀ x ∈ zs, x < B9) (hv : val B9 zs = s * v) (hvl : (dig B9 v).length = n + 2) (ht : (dig B9 v)[n + 1]? = some t) (hs : s = 1000000000 / (t + 1)) :
    val B9 (zs.take (n + 2)) = s * v ∧ ∃ d1, (zs.take (n + 2))[n + 1]? = some d1 ∧ 500000000 ≤ d1 := by
  have htb : t < 1000000000 := dig_lt B9 (by decide) v t (List.mem_of_getElem? ht)
  have hsp := val_split B9 ht
  rw [val_dig B9 (by decide), List.drop_eq_nil_of_le (by omega)] at hsp
  simp only [val, Nat.mul_zero, Nat.add_zero] at hsp
  have hlow := val_take_lt B9 (by decide) (dig_lt B9 (by decide) v) (n + 1)
  have hp : 0 < B9 ^ (n + 1) := Nat.pow_pos (by decide)
  have ht1 : 1 ≤ t := by
    rcases Nat.eq_zero_or_pos t with h | h
    · rw [h, Nat.mul_zero] at hsp
      have := (dig_length_le B9 (by decide) (n + 1) v).2 (by omega)
      omega
    · exact h
  obtain ⟨s1, s2, s3, s4⟩ := scale_facts ht1 htb
  rw [← hs] at s1 s2 s3 s4
  generalize val B9 ((dig B9 v).take (n + 1)) = lo at *
  -- s * v is below B9 ^ (n + 2)
  have hup : s * v < B9 ^ (n + 2) := by
    have e1 : v < B9 ^ (n + 1) * (t + 1) := by rw [Nat.mul_add, Nat.mul_one]; omega
    have e2 : s * v < s * (B9 ^ (n + 1) * (t + 1)) := Nat.mul_lt_mul_of_pos_left e1 (by omega)
    have e3 : s * (B9 ^ (n + 1) * (t + 1)) = B9 ^ (n + 1) * (s * (t + 1)) := Nat.mul_left_comm _ _ _
    have e4 : B9 ^ (n + 1) * (s * (t + 1)) ≤ B9 ^ (n + 1) * B9 := Nat.mul_le_mul_left _ s3
    rw [Nat.pow_succ B9 (n + 1)]
    omega
  have g2 : zs[n + 2]? = some zs[n + 2] := List.getElem?_eq_getElem (by omega)
  generalize zs[n + 2] = z2 at g2
  have hs2 := val_split B9 g2
  rw [List.drop_eq_nil_of_le (by omega)] at hs2
  simp only [val, Nat.mul_zero, Nat.add_zero] at hs2
  have hz2 : z2 = 0 := by
    rcases Nat.eq_zero_or_pos z2 with h | h
    · exact h
    · have : B9 ^ (n + 2) * 1 ≤ B9 ^ (n + 2) * z2 := Nat.mul_le_mul_left _ h
      omega
  rw [hz2, Nat.mul_zero, Nat.add_zero] at hs2
  refine ⟨by rw [← hs2, hv], ?_⟩
  have g1 : zs[n + 1]? = some zs[n + 1] := List.getElem?_eq_getElem (by omega)
  generalize zs[n + 1] = d1 at g1
  refine ⟨d1, by rw [List.getElem?_take, if_pos (by omega)]; exact g1, ?_⟩
  have g1' : (zs.take (n + 2))[n + 1]? = some d1 := by rw [List.getElem?_take, if_pos (by omega)]; exact g1
  have hs1 := val_split B9 g1'
  rw [List.drop_eq_nil_of_le (by rw [List.length_take]; omega), ← hs2, hv, List.take_take, Nat.min_eq_left (by omega)] at hs1
  simp only [val, Nat.mul_zero, Nat.add_zero] at hs1
  have hl1 := val_take_lt B9 (by decide) hz (n + 1)
  have h5 : s * t * B9 ^ (n + 1) < (d1 + 1) * B9 ^ (n + 1) := by
    have e1 : s * v = s * lo + s * t * B9 ^ (n + 1) := by rw [hsp, Nat.mul_add, Nat.mul_left_comm, Nat.mul_comm (B9 ^ (n + 1))]
    have e2 : (d1 + 1) * B9 ^ (n + 1) = B9 ^ (n + 1) * d1 + B9 ^ (n + 1) := by rw [Nat.add_mul, Nat.one_mul, Nat.mul_comm]
    omega
  have := Nat.lt_of_mul_lt_mul_right h5
  omega
/-- the first remainder is below the divisor -/
theorem first_rest {X : List Nat} {m n u v s : Nat} (hX : val B9 X = s * u) (hl : X.length = m + n + 3) (hu : (dig B9 u).length = m + n + 2) (hv : (dig B9 v).length = n + 2) (hs : 0 < s) : val B9 (X.drop (m + 1)) < s * v := by
  have h1 : u < B9 ^ (m + n + 2) := (dig_length_le B9 (by decide) _ u).1 (by omega)
  have h2 : B9 ^ (n + 1) ≤ v := by
    rcases Nat.lt_or_ge v (B9 ^ (n + 1)) with h | h
    · have := (dig_length_le B9 (by decide) (n + 1) v).2 h
      omega
    · exact h
  have h3 : val B9 X = val B9 (X.take (m + 1)) + B9 ^ (m + 1) * val B9 (X.drop (m + 1)) := by
    have := val_append B9 (X.take (m + 1)) (X.drop (m + 1))
    rwa [List.take_append_drop, List.length_take, Nat.min_eq_left (by omega)] at this
  have h4 : B9 ^ (m + 1) * val B9 (X.drop (m + 1)) < B9 ^ (m + 1) * (s * v) := by
    have a1 : s * u < s * B9 ^ (m + n + 2) := Nat.mul_lt_mul_of_pos_left h1 hs
    have a2 : B9 ^ (m + n + 2) = B9 ^ (m + 1) * B9 ^ (n + 1) := by rw [← Nat.pow_add]; congr 1; omega
    have a3 : s * (B9 ^ (m + 1) * B9 ^ (n + 1)) = B9 ^ (m + 1) * (s * B9 ^ (n + 1)) := Nat.mul_left_comm _ _ _
    have a4 : B9 ^ (m + 1) * (s * B9 ^ (n + 1)) ≤ B9 ^ (m + 1) * (s * v) := Nat.mul_le_mul_left _ (Nat.mul_le_mul_left _ h2)
    rw [a2, a3] at a1
    omega
  exact Nat.lt_of_mul_lt_mul_left h4

theorem zeros_lt {k : Nat} : ∀ x ∈ List.replicate k 0, x < B9 := fun x hx => by rw [List.eq_of_mem_replicate hx]; decide
/-- two slices of values -/
def GivesTwo (u v : Nat) (w : World) (e : Ending) (w' : World) : Prop :=
  ∃ A n c A' n' c', e = .returned (.tuple #[.slice A n c, .slice A' n' c']) ∧ RL w' .u32 A n (dig B9 u) ∧ n ≤ c ∧ c ≤ maxLen ∧ RL w' .u32 A' n' (dig B9 v) ∧ n' ≤ c' ∧ c' ≤ maxLen ∧ Below w.heap.size w w'

set_option maxHeartbeats 1000000 in
theorem divideLong_any (A : Option Addr) (m n c : Nat) (u : Nat) (A' : Option Addr) (d : Nat) (v : Nat) (w : World) (hr : RL w .u32 A (m + n + 2) (dig B9 u)) (hr' : RL w .u32 A' (n + 2) (dig B9 v)) (hN : m + n ≤ 1000000) :
    Calls Tryd.prog 63 #[.slice A (m + n + 2) c, .slice A' (n + 2) d] w (GivesTwo (u / v) (u % v) w) := by
  obtain ⟨b, o, t, rfl, ht, hcell⟩ := hr'.at_ (j := n + 1) (by omega)
  have hcell : w.cell? ⟨b, o + (n + 1), none⟩ = some (.int .u32 (t : Int)) := hcell
  have htb : t < 1000000000 := dig_lt B9 (by decide) v t (List.mem_of_getElem? ht)
  obtain ⟨s, hs⟩ : ∃ s, s = 1000000000 / (t + 1) := ⟨_, rfl⟩
  have hsI : (1000000000 : Int) / ((t : Int) + 1) = (s : Int) := by rw [hs]; exact (cast_div 1000000000 (t + 1))
  have HS := hide hs
  have HT := hide ht
  have ht1 : 1 ≤ t := (nd_top hr'.len (by omega) ht).2 |> Nat.pos_of_ne_zero
  obtain ⟨hs1, hs2, _, _⟩ := scale_facts ht1 htb
  rw [← hs] at hs1 hs2
  clear hs ht
  go_enter Tryd.func63, Tryd.ntmps63
  go_wp2_with (at_make; refine wpList_make_zero _ rfl _ _ 22 rfl 49 .u32 4 Tryd.underlying22 u32_info .i64 .i64 _ _ (m + n + 3) rfl rfl (by go_num) (by go_num) (by omega) (by omega) ?_; intro g1 w1 hg1 hown1 hbel1)
  have hgl1 := hown1.lt
  refine (addMultiple_any g1 0 (m + n + 3) (m + n + 3) _ A (m + n + 2) c (dig B9 u) s w1 hown1 zeros_lt (by rw [List.getElem?_replicate, if_pos (by omega)]) (by omega) (by unfold maxLen; omega) (hr.below hbel1) (dig_lt B9 (by decide) u) (hr.sp hg1) (by unfold maxLen; omega) (by omega)).mono ?_
  rintro e w2 ⟨rfl, hgr1, X, hX, hXl, hXb, _, hXv⟩
  have hb2 := below_only hbel1 hgr1 hbel1.size hg1
  have hXv2 : val B9 X = s * u := by rw [hXv, val_replicate_zero, val_dig B9 (by decide)]; simp
  have hXl2 : X.length = m + n + 3 := by rw [hXl]; simp
  have KX1 := hide hXv2
  have KX2 := hide hXl2
  have KX3 := hide hXb
  clear hXl hXv hXv2 hXl2 hXb hgr1 hown1 hbel1
  go_wp2_with (at_make; refine wpList_make_zero _ rfl _ _ 22 rfl 49 .u32 4 Tryd.underlying22 u32_info .i64 .i64 _ _ (n + 3) rfl rfl (by go_num) (by go_num) (by omega) (by omega) ?_; intro g2 w3 hg2 hown2 hbel2)
  have hX3 := hX.below' hbel2
  have hne12 : g1 < g2 := by have := hX.lt; omega
  have hb3 := hb2.trans (hbel2.mono hb2.size)
  refine (addMultiple_any g2 0 (n + 3) (n + 3) _ (some ⟨b, o, none⟩) (n + 2) d (dig B9 v) s w3 hown2 zeros_lt (by rw [List.getElem?_replicate, if_pos (by omega)]) (by omega) (by unfold maxLen; omega) (hr'.below hb3) (dig_lt B9 (by decide) v) (hr'.sp (by have := hb2.size; omega)) (by unfold maxLen; omega) (by omega)).mono ?_
  rintro e w4 ⟨rfl, hgr2, Y, hY, hYl, hYb, _, hYv⟩
  have hb4 := below_only hb3 hgr2 hb3.size (by have := hb2.size; omega)
  have hX4 := hX3.grown hgr2 (by omega)
  have hYv2 : val B9 Y = s * v := by rw [hYv, val_replicate_zero, val_dig B9 (by decide)]; simp
  have hYl2 : Y.length = n + 3 := by rw [hYl]; simp
  obtain ⟨hYt, d1, hd1, hhalf⟩ := divisor_facts hYl2 hYb hYv2 hr'.len HT.out HS.out
  have KY1 := hide hYt
  have KY2 := hide hYl2
  have KY3 := hide hYb
  have KY4 := hide hd1
  clear hYt hYl hYl2 hYb hYv hYv2 hd1 hgr2 hown2 hbel2 hX hX3 hb2 hb3
  go_wp2_with (at_make; refine wpList_make_zero _ rfl _ _ 22 rfl 49 .u32 4 Tryd.underlying22 u32_info .i64 .i64 _ _ (m + 1) rfl rfl (by go_num) (by go_num) (by omega) (by omega) ?_; intro g3 w5 hg3 hown3 hbel3)
  have hX5 := hX4.below' hbel3
  have hY5 := hY.below' hbel3
  have hne13 : g1 < g3 := by have := hX4.lt; omega
  have hne23 : g2 < g3 := by have := hY.lt; omega
  have hb5 := hb4.trans (hbel3.mono hb4.size)
  rw [show ((m : Int) + (n : Int) + 2 - ((n : Int) + 2)) = (m : Int) from by omega]
  have hlen : Hid ((dig B9 u).length = m + n + 2) := hr.len
  have hlen' : Hid ((dig B9 v).length = n + 2) := hr'.len
  clear hbel3 hX4 hY hr hr' hb4
  go_loopw [10] (fun i wr => ∃ (k : Nat) (Z q : List Nat), k ≤ m + 1 ∧ i = .int .i64 ((k : Int) - 1) ∧ Own wr g1 .u32 49 Z ∧ Own wr g2 .u32 49 Y ∧ Own wr g3 .u32 49 q ∧ Below w.heap.size w wr ∧ Z.length = m + n + 3 ∧ q.length = m + 1 ∧ (∀ x ∈ Z, x < B9) ∧ (∀ x ∈ q, x < B9) ∧
      Z.take k = X.take k ∧ val B9 ((Z.drop k).take (n + 2)) = val B9 (X.drop k) % (s * v) ∧ val B9 (q.drop k) = val B9 (X.drop k) / (s * v)) (fun i _ => (intOf i + 1).toNat)
  case atStart =>
    have h1 := first_rest KX1.out KX2.out hlen.out hlen'.out hs1
    have h2 : (X.drop (m + 1)).take (n + 2) = X.drop (m + 1) := List.take_of_length_le (by rw [List.length_drop, KX2.out]; omega)
    have h3 : (List.replicate (m + 1) 0).drop (m + 1) = [] := List.drop_eq_nil_of_le (by simp)
    exact ⟨m + 1, X, List.replicate (m + 1) 0, by omega, by go_num, hX5, hY5, hown3, hb5, KX2.out, by simp, KX3.out, zeros_lt, rfl, by rw [h2, Nat.mod_eq_of_lt h1], by rw [h3, Nat.div_eq_of_lt h1]; rfl⟩
  case round =>
    obtain ⟨k, Z, q, hk, rfl, hZ, hYr, hq, hbr, hZl, hql, hZb, hqb, htk, hR, hQ⟩ := hrel
    clear hX5 hY5 hb5 hown3
    have J1 := hide hZl
    have J2 := hide hql
    have J3 := hide hZb
    have J4 := hide hqb
    have J5 := hide htk
    have J6 := hide hR
    have J7 := hide hQ
    by_cases h0 : k = 0
    · subst h0
      have HT2 := hide (show trimL q = dig B9 (u / v) from by
        rw [trimL_dig B9 (by decide) q hqb]
        have h1 : val B9 q = val B9 X / (s * v) := hQ
        rw [h1, KX1.out, Nat.mul_div_mul_left _ _ hs1])
      have HR2 := hide (show val B9 (Z.take (n + 2)) = s * (u % v) from by
        have h1 : val B9 (Z.take (n + 2)) = val B9 X % (s * v) := hR
        rw [h1, KX1.out, Nat.mul_mod_mul_left])
      have hZt : RL wr .u32 (some ⟨g1, 0, none⟩) (n + 2) (Z.take (n + 2)) := (hZ.rl (n := m + n + 3) hZl).take_ (by omega)
      have hZtb : Hid (∀ x ∈ Z.take (n + 2), x < B9) := fun x hx => hZb x (List.mem_of_mem_take hx)
      clear hZl hql hZb hqb htk hR hQ
      go_wp2_with fail
      refine (divideShort_any _ (n + 2) _ (Z.take (n + 2)) s wr hZt (by omega) hZtb.out (by omega) (by omega)).mono ?_
      rintro e w6 ⟨A6, n6, c6, rfl, hr6, hn6, hc6, hb6⟩
      have hv6 : val B9 (Z.take (n + 2)) / s = u % v := by rw [HR2.out, Nat.mul_div_cancel_left _ hs1]
      rw [hv6] at hr6
      have hq6 := hq.below' hb6
      clear hv6
      go_wp2_with fail
      refine (trim_any _ (m + 1) (m + 1) q _ (hq6.rl J2.out) (Nat.le_refl _) (by unfold maxLen; omega)).mono ?_
      rintro e w' ⟨rfl, rfl⟩
      have h3 := hq6.trim (n := m + 1) HT2.out J2.out
      rw [HT2.out]
      go_wp2
      go_ret2
      exact ⟨_, _, _, _, _, _, rfl, h3.1, h3.2, by unfold maxLen; omega, hr6, hn6, hc6, hbr.trans (hb6.mono hbr.size)⟩
    · obtain ⟨k, rfl⟩ : ∃ j, k = j + 1 := ⟨k - 1, by omega⟩
      have hkX : k < X.length := by have := KX2.out; omega
      have gx : X[k]? = some X[k] := List.getElem?_eq_getElem hkX
      generalize X[k] = x at gx
      have hxb : x < 1000000000 := KX3.out x (List.mem_of_getElem? gx)
      have gz : Z[k]? = some x := by
        have h1 := congrArg (fun l : List Nat => l[k]?) htk
        simp only [List.getElem?_take] at h1
        rw [if_pos (by omega), if_pos (by omega)] at h1
        rw [h1, gx]
      have hdv0 : 0 < s * v := by
        rcases Nat.eq_zero_or_pos (s * v) with h | h
        · have := KY1.out
          rw [h] at this
          have h4 := val_split B9 KY4.out
          have h5 : 0 < B9 ^ (n + 1) * (d1 + B9 * val B9 ((Y.take (n + 2)).drop (n + 1 + 1))) := Nat.mul_pos (Nat.pow_pos (by decide)) (by omega)
          omega
        · exact h
      obtain ⟨dv, hdv⟩ : ∃ dv, dv = s * v := ⟨_, rfl⟩
      rw [← hdv] at hR hQ hdv0
      obtain ⟨R, hRe⟩ : ∃ R, R = val B9 ((Z.drop (k + 1)).take (n + 2)) := ⟨_, rfl⟩
      rw [← hRe] at hR
      have hRlt : R < dv := by rw [hR]; exact Nat.mod_lt _ hdv0
      have hpv : val B9 ((Z.drop k).take (n + 3)) = R * B9 + x := by
        have hl := lt_of_getElem? gz
        have e1 : Z.drop k = x :: Z.drop (k + 1) := by
          rw [List.drop_eq_getElem_cons hl]
          rw [List.getElem?_eq_getElem hl] at gz
          rw [Option.some.inj gz]
        rw [e1, List.take_succ_cons]
        simp only [val]
        rw [← hRe, Nat.mul_comm B9 R]
        omega
      have hlt : R * B9 + x < B9 * dv := by
        have h1 : (R + 1) * B9 ≤ dv * B9 := Nat.mul_le_mul_right _ hRlt
        rw [Nat.add_mul, Nat.one_mul, Nat.mul_comm dv] at h1
        have : x < B9 := hxb
        omega
      obtain ⟨qd, hqd⟩ : ∃ qd, (R * B9 + x) / dv = qd := ⟨_, rfl⟩
      have hqdb : qd < 1000000000 := by rw [← hqd]; exact div_bound hRlt hxb
      have hst := div_step (D := dv) (V := val B9 (X.drop (k + 1))) (x := x) (b := B9) hdv0
      rw [← val_drop_step B9 gx, ← hR, ← hQ, hqd] at hst
      have HST := hide hst
      have HDV := hide hdv
      have HPV := hide hpv
      have HLT := hide hlt
      have HQD := hide hqd
      have gq : q[k]? = some q[k] := List.getElem?_eq_getElem (by omega)
      generalize q[k] = qk at gq
      have HGQ := hide gq
      have hkq : k < q.length := by omega
      have hsp : Sp (some ⟨g2, 0, none⟩) (n + 2) g1 := fun _ b o e => by injection e with e; injection e with e1 e2; omega
      have hYr2 : RL wr .u32 (some ⟨g2, 0, none⟩) (n + 2) (Y.take (n + 2)) := (hYr.rl (n := n + 3) KY2.out).take_ (by omega)
      have hYb : Hid (∀ x ∈ Y.take (n + 2), x < B9) := fun x hx => KY3.out x (List.mem_of_mem_take hx)
      have hkl : k + n + 3 ≤ Z.length := by omega
      clear hZl hql hZb hqb htk hR hQ gx gz hdv hRe hpv hlt hqd hst gq
      rw [show (((k + 1 : Nat) : Int) - 1) = (k : Int) from by omega]
      go_wp2_with fail
      rw [show k + (n + 2) + 1 - k = n + 3 from by omega]
      refine (takeMultiple_any g1 k n _ Z (some ⟨g2, 0, none⟩) _ (Y.take (n + 2)) wr hZ J3.out hkl (by omega) hYr2 hYb.out hsp d1 KY4.out hhalf (R * B9 + x) dv HPV.out (by rw [KY1.out, HDV.out]) HLT.out qd HQD.out).mono ?_
      rintro e w6 ⟨rfl, hg6, Z6, hZ6, hZl6, hZb6, htk6, hdr6, hv6⟩
      have hY6 := hYr.grown hg6 (by omega)
      have hq6 := hq.grown hg6 (by omega)
      have hold : w6.cell? ⟨g3, k, none⟩ = some (.int .u32 (qk : Int)) := hq6.cell HGQ.out
      have hfz := hq6.frozen k
      have hb6 := below_only hbr hg6 hbr.size hg1
      have M1 := hide hZl6
      have M2 := hide hZb6
      have M3 := hide htk6
      have M4 := hide hv6
      have hg30 : w.heap.size ≤ g3 := by omega
      clear hZl6 hZb6 htk6 hdr6 hv6
      go_wp2
      go_roundw
      case rel =>
        refine ⟨k, Z6, q.set k qd, by omega, rfl, hZ6.far (by simp; omega) _, hY6.far (by simp; omega) _, hq6.put k rfl, hb6.setCell hg30 _, by rw [M1.out]; exact J1.out, by rw [List.length_set]; exact J2.out, M2.out, all_set J4.out hqdb, ?_, ?_, ?_⟩
        · rw [M3.out]
          have h1 := congrArg (List.take k) J5.out
          rwa [List.take_take, List.take_take, Nat.min_eq_left (by omega)] at h1
        · rw [M4.out, ← HDV.out]; exact HST.out.2.symm
        · rw [val_drop_set B9 q k qd hkq, ← HDV.out]
          exact HST.out.1.symm
      case measure => simp [intOf]
end Go.Proofs.YthkgiobemfnpmaaDoor
