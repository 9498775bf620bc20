/- The contracts of natural.divide, natural.DivMod. -/
import Derived.Test.YthkgiobemfnpmaaDoorDivL
import Derived.Test.YthkgiobemfnpmaaDoorSub
namespace Go.Proofs.YthkgiobemfnpmaaDoor
open Go Go.RowKit

set_option maxHeartbeats 1000000 in
theorem divide_any (A : Option Addr) (n c : Nat) (u : Nat) (A' : Option Addr) (m d : Nat) (v : Nat) (w : World) (hr : RL w .u32 A n (dig B9 u)) (hr' : RL w .u32 A' m (dig B9 v)) (hv : v ≠ 0) (hN : n ≤ 1000000) (hM : m ≤ 1000000) :
    Calls Tryd.prog 46 #[.slice A n c, .slice A' m d] w (GivesTwo (u / v) (u % v) w) := by
  have hm0 : 0 < m := by
    rcases Nat.eq_zero_or_pos m with h | h
    · have := (dig_eq_nil B9 (by decide)).1 (List.eq_nil_of_length_eq_zero (by rw [hr'.len]; exact h) : dig B9 v = [])
      exact absurd this hv
    · exact h
  by_cases huv : u < v
  · have HC := hide (cmpI_lt huv)
    have H1 := hide (Nat.div_eq_of_lt huv)
    have H2 := hide (Nat.mod_eq_of_lt huv)
    clear huv
    go_enter Tryd.func46, Tryd.ntmps46
    go_wp2_with fail
    refine (compare_as (-1) A A' n m c d u v w hr hr' (by unfold maxLen; omega) HC.out).mono ?_
    rintro e w1 ⟨rfl, k1, rfl⟩
    have hr1 := hr.drewN k1
    go_wp2_with fail
    refine (clone_any A n c _ _ hr1 (by omega)).mono ?_
    rintro e w2 ⟨A2, n2, c2, rfl, hr2, hn2, hc2, hb2⟩
    go_wp2
    go_ret2
    refine ⟨none, 0, 0, A2, n2, c2, rfl, ?_, by omega, by simp [maxLen], ?_, hn2, hc2, (below_drewN (Below.refl _ _) k1).trans hb2⟩
    · rw [H1.out]; exact RL.nil_
    · rw [H2.out]; exact hr2
  · have hcmp : ∃ r, cmpI u v = r ∧ 0 ≤ r := by
      rcases Nat.lt_or_ge v u with h | h
      · exact ⟨1, cmpI_gt h, by omega⟩
      · exact ⟨0, cmpI_eq (by omega), by omega⟩
    obtain ⟨r, hc0, hr0⟩ := hcmp
    have HC := hide hc0
    have hle : m ≤ n := by rw [← hr.len, ← hr'.len]; exact dig_mono B9 (by decide) (by omega)
    have hdr : decide (r < 0) = false := by simp; omega
    clear hc0 huv
    by_cases hm1 : m = 1
    · subst hm1
      obtain ⟨b, o, x, rfl, hx, hcell⟩ := hr'.at_ (j := 0) (by omega)
      have hcell : w.cell? ⟨b, o, none⟩ = some (.int .u32 (x : Int)) := hcell
      have hxb : x < 1000000000 := dig_lt B9 (by decide) v x (List.mem_of_getElem? hx)
      have hxv : x = v := by
        have h1 := val_split B9 hx
        rw [val_dig B9 (by decide), List.drop_eq_nil_of_le (by rw [hr'.len]; omega)] at h1
        simp [val] at h1
        exact h1.symm
      subst hxv
      have HX := hide hr.len
      clear hx
      go_enter Tryd.func46, Tryd.ntmps46
      go_wp2_with fail
      refine (compare_as r A _ n 1 c d u x w hr hr' (by unfold maxLen; omega) HC.out).mono ?_
      rintro e w1 ⟨rfl, k1, rfl⟩
      have hr1 := hr.drewN k1
      have hcell : (w.drewN k1).cell? ⟨b, o, none⟩ = some (.int .u32 (x : Int)) := hcell
      go_wp2_with fail
      refine (divideShort_any A n c (dig B9 u) x _ hr1 (by omega) (dig_lt B9 (by decide) u) (by omega) (by omega)).mono ?_
      rintro e w2 ⟨A2, n2, c2, rfl, hr2, hn2, hc2, hb2⟩
      rw [val_dig B9 (by decide)] at hr2
      have hq : u % x < x := Nat.mod_lt _ (by omega)
      rw [val_dig B9 (by decide)]
      generalize hR : u % x = R at *
      have HR := hide hR
      clear hR
      go_wp2_with fail
      have ho : RL (w2.alloc (Obj.cells #[Value.int IntKind.u32 (R : Int)] 49)) .u32 (some ⟨w2.heap.size, 0, none⟩) 1 [R] := RL.one w2 .u32 49 rfl
      refine (trim_any _ 1 1 [R] _ ho (Nat.le_refl _) (by unfold maxLen; omega)).mono ?_
      rintro e w' ⟨rfl, rfl⟩
      have e1 : trimL [R] = dig B9 R := by
        rw [trimL_dig B9 (by decide) [R] (by intro y hy; simp at hy; subst hy; show y < 1000000000; omega)]
        simp [val]
      have h3 := (Own.new w2 .u32 49 [R]).trim (n := 1) e1 rfl
      have hb3 : Below w.heap.size w (w2.alloc (Obj.cells #[Value.int IntKind.u32 (R : Int)] 49)) := ((below_drewN (Below.refl _ _) k1).trans hb2).alloc hb2.size _
      have hr3 := hr2.below ((Below.refl _ _).alloc (Nat.le_refl _) (Obj.cells #[Value.int IntKind.u32 (R : Int)] 49))
      rw [e1]
      clear e1
      go_wp2
      go_ret2
      exact ⟨A2, n2, c2, _, _, _, rfl, hr3, hn2, hc2, h3.1, h3.2, by simp [maxLen], hb3⟩
    · obtain ⟨p, rfl⟩ : ∃ p, m = p + 2 := ⟨m - 2, by omega⟩
      obtain ⟨q, rfl⟩ : ∃ q, n = q + p + 2 := ⟨n - (p + 2), by omega⟩
      have hne : ((p : Int) + 2 == 1) = false := by simp; omega
      go_enter Tryd.func46, Tryd.ntmps46
      go_wp2_with fail
      refine (compare_as r A A' (q + p + 2) (p + 2) c d u v w hr hr' (by unfold maxLen; omega) HC.out).mono ?_
      rintro e w1 ⟨rfl, k1, rfl⟩
      have hr1 := hr.drewN k1
      have hr1' := hr'.drewN k1
      go_wp2_with fail
      refine (divideLong_any A q p c u A' d v _ hr1 hr1' (by omega)).mono ?_
      rintro e w2 ⟨A2, n2, c2, A3, n3, c3, rfl, hr2, hn2, hc2, hr3, hn3, hc3, hb2⟩
      go_wp2
      go_ret2
      exact ⟨A2, n2, c2, A3, n3, c3, rfl, hr2, hn2, hc2, hr3, hn3, hc3, (below_drewN (Below.refl _ _) k1).trans hb2⟩

set_option maxHeartbeats 1000000 in
theorem divMod_any (A : Option Addr) (n c : Nat) (xs : List Nat) (A' : Option Addr) (m d : Nat) (ys : List Nat) (w : World) (hr : RL w .u32 A n xs) (hn : n ≤ c) (hc : c ≤ maxLen) (hN : n ≤ 900000) (hx : ∀ x ∈ xs, x < 4294967296)
    (hr' : RL w .u32 A' m ys) (hm : m ≤ d) (hd : d ≤ maxLen) (hM : m ≤ 900000) (hy : ∀ x ∈ ys, x < 4294967296) :
    Calls Tryd.prog 28 #[.agg #[.slice A n c], .agg #[.slice A' m d]] w fun e w' =>
      (val B9 ys ≠ 0 → GivesDM (val B9 xs / val B9 ys) (val B9 xs % val B9 ys) 0 w e w') ∧ (val B9 ys = 0 → GivesDM 0 0 12 w e w') := by
  have HX := hide hx
  have HY := hide hy
  clear hx hy
  go_enter Tryd.func28, Tryd.ntmps28
  go_wp2
  obtain ⟨W, hWe⟩ : ∃ W, ((((w.alloc (Obj.cells #[Value.slice A n c] 24)).alloc (Obj.cells #[Value.slice A' m d] 24)).alloc (Obj.cells #[Value.slice none 0 0] 24)).alloc (Obj.cells #[Value.slice none 0 0] 24)) = W := ⟨_, rfl⟩
  obtain ⟨hW, h1, h2, h3, h4, hz⟩ := box4 w (.slice A n c) (.slice A' m d) (.slice none 0 0) (.slice none 0 0) 24 24 24 24 W hWe
  rw [hWe]
  have HZ := hide hz
  have H3 := hide h3
  have H4 := hide h4
  have hz2 : w.heap.size + 3 < W.heap.size := by omega
  clear hz h3 h4 hWe
  have hrW := hr.below hW
  have hrW' := hr'.below hW
  have KS : Hid (∀ w', Below W.heap.size W w' → w'.cell? ⟨w.heap.size, 0, none⟩ = some (.slice A n c) ∧ w'.cell? ⟨w.heap.size + 1, 0, none⟩ = some (.slice A' m d)) :=
    fun w' h => ⟨(h.cell (p := ⟨w.heap.size, 0, none⟩) (by simp; omega)).trans h1, (h.cell (p := ⟨w.heap.size + 1, 0, none⟩) (by simp; omega)).trans h2⟩
  have KC : Hid (∀ w', Below W.heap.size W w' → (w'.cell? ⟨w.heap.size + 2, 0, none⟩ = some (.slice none 0 0) ∧ w'.frozen? ⟨w.heap.size + 2, 0, none⟩ = false) ∧ (w'.cell? ⟨w.heap.size + 3, 0, none⟩ = some (.slice none 0 0) ∧ w'.frozen? ⟨w.heap.size + 3, 0, none⟩ = false)) :=
    fun w' h => ⟨⟨(h.cell (p := ⟨w.heap.size + 2, 0, none⟩) (by simp; omega)).trans (by rw [cell_of_row _ _ _ _ _ _ H3.out]; rfl), (h.frozen (p := ⟨w.heap.size + 2, 0, none⟩) (by simp; omega)).trans (frozen_of_row _ _ _ _ _ H3.out)⟩,
      ⟨(h.cell (p := ⟨w.heap.size + 3, 0, none⟩) hz2).trans (by rw [cell_of_row _ _ _ _ _ _ H4.out]; rfl), (h.frozen (p := ⟨w.heap.size + 3, 0, none⟩) hz2).trans (frozen_of_row _ _ _ _ _ H4.out)⟩⟩
  go_region_held3 (fun w' => w'.cell? ⟨w.heap.size, 0, none⟩ = some (.slice A n c) ∧ w'.cell? ⟨w.heap.size + 1, 0, none⟩ = some (.slice A' m d))
    (first | exact KS.out _ hbB | exact KS.out _ hbA | exact KS.out _ ((Below.refl _ _).drew))
    (first
      | (go_at_call_of 41 (Value.slice A n c); refine (canon_any A n c xs _ (hrW.below ((Below.refl _ _).drew)) hn hc (by omega) HX.out).mono ?_; rintro e w1 ⟨A1, n1, c1, rfl, hr1, hn1, hc1, hb1⟩; have hbA : Below W.heap.size W w1 := ((Below.refl _ _).drew).trans hb1)
      | (go_at_call_of 41 (Value.slice A' m d); refine (canon_any A' m d ys _ (hrW'.below hbA) hm hd (by omega) HY.out).mono ?_; rintro e w2 ⟨A2, n2, c2, rfl, hr2, hn2, hc2, hb2⟩; have hbB : Below W.heap.size W w2 := hbA.trans (hb2.mono hbA.size)))
  have hl1 : n1 ≤ n + 1 := dig_len_u32 hr1.len hr.len HX.out
  have hl2 : n2 ≤ m + 1 := dig_len_u32 hr2.len hr'.len HY.out
  have hr1' := hr1.below hb2
  clear hr hr' hrW hrW' hb1 hb2 hbA h1 h2 hr1 KS
  by_cases h0 : n2 = 0
  · subst h0
    have HV := hide ((dig_eq_nil B9 (by decide)).1 (List.eq_nil_of_length_eq_zero hr2.len))
    obtain ⟨⟨hcl, hfl⟩, ⟨hcl', hfl'⟩⟩ := KC.out _ hbB
    clear hr2 hr1'
    go_wp2
    refine bodyPost_ret (v := .tuple #[.agg #[.slice none 0 0], .agg #[.slice none 0 0], .int .i64 12]) (by simp [results, Tryd.results28, go_sem, hcl, hcl']) rfl ?_
    refine ⟨fun h => absurd HV.out h, fun _ => ?_⟩
    exact fin_structDM (u := 0) (v := 0) (n := 0) (c := 0) (n' := 0) (c' := 0) hW hbB (by omega) H3.out H4.out RL.nil_ (by omega) (by simp [maxLen]) RL.nil_ (by omega) (by simp [maxLen])
  · have HV : Hid (val B9 ys ≠ 0) := by
      intro h
      rw [h] at hr2
      exact h0 hr2.len.symm
    have hne : ((n2 : Int) == 0) = false := by simp; exact h0
    go_wp2_with fail
    refine (divide_any A1 n1 c1 (val B9 xs) A2 n2 c2 (val B9 ys) _ hr1' hr2 HV.out (by omega) (by omega)).mono ?_
    rintro e w3 ⟨A3, n3, c3, A4, n4, c4, rfl, hr3, hn3, hc3, hr4, hn4, hc4, hb3⟩
    have hbC := hbB.trans (hb3.mono hbB.size)
    obtain ⟨⟨hcl, hfl⟩, ⟨hcl', hfl'⟩⟩ := KC.out _ hbC
    clear hr2 hr1' hb3
    go_wp2
    refine bodyPost_ret (v := .tuple #[.agg #[.slice A3 n3 c3], .agg #[.slice A4 n4 c4], .int .i64 0]) (by simp [results, Tryd.results28, go_sem, hcl, hcl']) rfl ?_
    refine ⟨fun _ => ?_, fun h => absurd h HV.out⟩
    exact fin_structDM hW hbC (by omega) H3.out H4.out hr3 hn3 hc3 hr4 hn4 hc4
end Go.Proofs.YthkgiobemfnpmaaDoor
