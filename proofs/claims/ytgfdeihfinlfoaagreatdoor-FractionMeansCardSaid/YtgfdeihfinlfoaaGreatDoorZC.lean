/- Slices of fractions; the contracts of Sum, the program's and the reference's. -/
import Derived.Test.YtgfdeihfinlfoaaGreatDoorFRat
import Derived.Test.YtgfdeihfinlfoaaGreatDoorGAdd
import Derived.Test.YtgfdeihfinlfoaaGreatDoorFFew
import Derived.Deep.RegionHeld3
import Derived.Deep.RegionLaw
import Derived.Deep.RegionHeld
namespace Go.Proofs.YtgfdeihfinlfoaaGreatDoor
open Go Go.RowKit

/-- a slice of fractions of at most L limbs, by their numbers -/
def FL (w : World) (S : Option Addr) (k L : Nat) (rs : List Rat) : Prop :=
  rs.length = k ∧ (0 < k → ∃ b o, S = some ⟨b, o, none⟩ ∧ ∀ (i : Nat) (r : Rat), rs[i]? = some r → ∃ p A n c B m d,
    w.cell? ⟨b, o + i * 3, none⟩ = some (.bool p) ∧ w.cell? ⟨b, o + i * 3 + 1, none⟩ = some (.slice A n c) ∧ w.cell? ⟨b, o + i * 3 + 2, none⟩ = some (.slice B m d) ∧ Fr w L p A n c B m d r)
section
variable {w w' : World} {S : Option Addr} {k L : Nat} {rs : List Rat}
theorem FL.len (h : FL w S k L rs) : rs.length = k := h.1
theorem FL.at_ (h : FL w S k L rs) {i : Nat} (hi : i < k) : ∃ b o r p A n c B m d, S = some ⟨b, o, none⟩ ∧ rs[i]? = some r ∧
    w.cell? ⟨b, o + i * 3, none⟩ = some (.bool p) ∧ w.cell? ⟨b, o + i * 3 + 1, none⟩ = some (.slice A n c) ∧ w.cell? ⟨b, o + i * 3 + 2, none⟩ = some (.slice B m d) ∧ Fr w L p A n c B m d r ∧ b < w.heap.size := by
  obtain ⟨b, o, e, hc⟩ := h.2 (by omega)
  have hl : i < rs.length := by rw [h.1]; exact hi
  obtain ⟨p, A, n, c, B, m, d, h1, h2, h3, h4⟩ := hc i _ (List.getElem?_eq_getElem hl)
  exact ⟨b, o, _, p, A, n, c, B, m, d, e, List.getElem?_eq_getElem hl, h1, h2, h3, h4, World.block_lt_of_cell? w _ h1⟩
theorem FL.below (h : FL w S k L rs) (hb : Below w.heap.size w w') : FL w' S k L rs :=
  ⟨h.1, fun hk => by
    obtain ⟨b, o, e, hc⟩ := h.2 hk
    refine ⟨b, o, e, fun i r hr => ?_⟩
    obtain ⟨p, A, n, c, B, m, d, h1, h2, h3, h4⟩ := hc i r hr
    exact ⟨p, A, n, c, B, m, d, (hb.cell (World.block_lt_of_cell? w _ h1)).trans h1, (hb.cell (World.block_lt_of_cell? w _ h2)).trans h2, (hb.cell (World.block_lt_of_cell? w _ h3)).trans h3, h4.below hb⟩⟩
theorem FL.take_ (h : FL w S k L rs) {j : Nat} (hj : j ≤ k) : FL w S j L (rs.take j) :=
  ⟨by rw [List.length_take, h.1]; omega, fun hj0 => by
    obtain ⟨b, o, e, hc⟩ := h.2 (by omega)
    refine ⟨b, o, e, fun i r hr => hc i r ?_⟩
    rw [List.getElem?_take] at hr
    split at hr
    · exact hr
    · cases hr⟩
theorem FL.drop_ {b o : Nat} (h : FL w (some ⟨b, o, none⟩) k L rs) {j : Nat} (hj : j ≤ k) : FL w (some ⟨b, o + j * 3, none⟩) (k - j) L (rs.drop j) :=
  ⟨by rw [List.length_drop, h.1], fun hj0 => by
    obtain ⟨b', o', e, hc⟩ := h.2 (by omega)
    injection e with e; injection e with e1 e2; subst e1; subst e2
    refine ⟨b, o + j * 3, rfl, fun i r hr => ?_⟩
    rw [List.getElem?_drop] at hr
    have := hc (j + i) r hr
    rwa [show o + (j + i) * 3 = o + j * 3 + i * 3 from by omega] at this⟩
theorem FL.ht (h : FL w S k L rs) : ∀ r ∈ rs, Ht r (L + 1) := fun r hr => by
  obtain ⟨i, hi, rfl⟩ := List.mem_iff_getElem.1 hr
  obtain ⟨b, o, r', p, A, n, c, B, m, d, -, e, -, -, -, h4, -⟩ := h.at_ (i := i) (by rw [← h.1]; exact hi)
  rw [List.getElem?_eq_getElem hi] at e
  injection e with e
  rw [e]
  exact h4.ht
end
def sumR : List Rat → Rat
  | [] => 0
  | r :: l => r + sumR l
theorem sumR_app : ∀ a b : List Rat, sumR (a ++ b) = sumR a + sumR b
  | [], b => by simp [sumR, Rat.zero_add]
  | r :: a, b => by simp only [List.cons_append, sumR, sumR_app a b, Rat.add_assoc]
theorem sumR_split (l : List Rat) (h : Nat) : sumR (l.take h) + sumR (l.drop h) = sumR l := by rw [← sumR_app, List.take_append_drop]
theorem sumR_ht : ∀ l : List Rat, (∀ r ∈ l, Ht r 7) → Ht (sumR l) (8 * l.length + 1)
  | [], _ => by exact ⟨by decide, by decide⟩
  | r :: l, h => by
    have h1 := h r List.mem_cons_self
    have h2 := sumR_ht l fun x hx => h x (List.mem_cons_of_mem _ hx)
    exact (h1.add h2).up (by simp only [List.length_cons]; omega)
theorem sumR_snoc (l : List Rat) (r : Rat) : sumR (l ++ [r]) = sumR l + r := by rw [sumR_app]; simp [sumR, Rat.add_zero]
theorem sumR_one (r : Rat) : sumR [r] = r := by simp [sumR, Rat.add_zero]
theorem take_snocR {l : List Rat} {i : Nat} {r : Rat} (h : l[i]? = some r) : l.take (i + 1) = l.take i ++ [r] := by
  rw [List.take_add_one, h]; rfl

set_option maxHeartbeats 4000000 in
set_option maxRecDepth 100000 in
theorem fsum_0 (S : Option Addr) (c : Nat) (w : World) : Calls Tryz.prog 21 #[.slice S 0 c] w (GivesF 0 w) := by
  go_enter Tryz.func21, Tryz.ntmps21
  go_wp2_with fail
  generalize hW : w.alloc _ = W
  obtain ⟨B, bR, -⟩ := boxesA1 hW
  clear hW
  refine (fof_f 0 1 _ (by omega) (by omega) (by omega) (by omega) 0 (by rw [Rat.div_def]; exact Rat.zero_mul _)).mono ?_
  rintro e w1 ⟨p4, A4, n4, c4, B4, m4, d4, rfl, h4, hb⟩
  have B := B.trans (hb.mono B.size)
  have bR := bR.below' hb
  clear hb
  have g0 : w1.cell? ⟨w.heap.size, 0, none⟩ = some (.bool false) := bR.at_ 0
  have g1 : w1.cell? ⟨w.heap.size, 1, none⟩ = some (.slice none 0 0) := bR.at_ 1
  have g2 : w1.cell? ⟨w.heap.size, 2, none⟩ = some (.slice none 0 0) := bR.at_ 2
  have f0 := bR.frozen 0
  have f1 := bR.frozen 1
  have f2 := bR.frozen 2
  go_wp2_with fail
  clear g0 g1 g2 f0 f1 f2
  generalize hW3 : ((w1.setCell _ _).setCell _ _).setCell _ _ = W3
  obtain ⟨b3, -, C3, B3, -⟩ := put3 bR hW3
  clear hW3
  have k0 : W3.cell? ⟨w.heap.size, 0, none⟩ = some (.bool p4) := b3.at_ 0
  have k1 : W3.cell? ⟨w.heap.size, 1, none⟩ = some (.slice A4 n4 c4) := b3.at_ 1
  have k2 : W3.cell? ⟨w.heap.size, 2, none⟩ = some (.slice B4 m4 d4) := b3.at_ 2
  refine bodyPost_ret (v := .agg #[.bool p4, .slice A4 n4 c4, .slice B4 m4 d4]) (by simp [results, Tryz.results21, go_sem, k0, k1, k2]) rfl ?_
  exact ⟨_, _, _, _, _, _, _, rfl, ⟨h4.1, C3 _ _ _ _ h4.2.1, C3 _ _ _ _ h4.2.2⟩, B3 _ _ B (by omega)⟩
set_option maxHeartbeats 4000000 in
set_option maxRecDepth 100000 in
theorem fsum_1 (S : Option Addr) (c : Nat) (r : Rat) (w : World) (_hc : 1 ≤ c) (hL : FL w S 1 6 [r]) : Calls Tryz.prog 21 #[.slice S 1 c] w (GivesF r w) := by
  obtain ⟨b, o, r', p, A, n, c', B', m, d, rfl, hr, k0, k1, k2, hx, hlt⟩ := hL.at_ (i := 0) (by omega)
  obtain rfl : r = r' := by simpa using hr
  rw [Nat.zero_mul, Nat.add_zero] at k0 k1 k2
  have HX := hide hx
  clear hx hr hL
  go_enter Tryz.func21, Tryz.ntmps21
  go_wp2_with fail
  generalize hW : w.alloc _ = W
  obtain ⟨B, bR, -⟩ := boxesA1 hW
  clear hW
  refine (fnorm_f (L := 6) (HX.out.below B) (by omega) (by omega)).mono ?_
  rintro e w1 ⟨p4, A4, n4, c4, B4, m4, d4, rfl, h4, hb⟩
  have B := B.trans (hb.mono B.size)
  have bR := bR.below' hb
  clear hb k0 k1 k2
  have g0 : w1.cell? ⟨w.heap.size, 0, none⟩ = some (.bool false) := bR.at_ 0
  have g1 : w1.cell? ⟨w.heap.size, 1, none⟩ = some (.slice none 0 0) := bR.at_ 1
  have g2 : w1.cell? ⟨w.heap.size, 2, none⟩ = some (.slice none 0 0) := bR.at_ 2
  have f0 := bR.frozen 0
  have f1 := bR.frozen 1
  have f2 := bR.frozen 2
  go_wp2_with fail
  clear g0 g1 g2 f0 f1 f2
  generalize hW3 : ((w1.setCell _ _).setCell _ _).setCell _ _ = W3
  obtain ⟨b3, -, C3, B3, -⟩ := put3 bR hW3
  clear hW3
  have k0 : W3.cell? ⟨w.heap.size, 0, none⟩ = some (.bool p4) := b3.at_ 0
  have k1 : W3.cell? ⟨w.heap.size, 1, none⟩ = some (.slice A4 n4 c4) := b3.at_ 1
  have k2 : W3.cell? ⟨w.heap.size, 2, none⟩ = some (.slice B4 m4 d4) := b3.at_ 2
  refine bodyPost_ret (v := .agg #[.bool p4, .slice A4 n4 c4, .slice B4 m4 d4]) (by simp [results, Tryz.results21, go_sem, k0, k1, k2]) rfl ?_
  exact ⟨_, _, _, _, _, _, _, rfl, ⟨h4.1, C3 _ _ _ _ h4.2.1, C3 _ _ _ _ h4.2.2⟩, B3 _ _ B (by omega)⟩
set_option maxHeartbeats 4000000 in
set_option maxRecDepth 100000 in
theorem fsum_2 (b o k c h : Nat) (x y r : Rat) (w : World) (hk2 : 2 ≤ k) (hh : h = k / 2) (hkc : k ≤ c) (hc : c ≤ maxLen) (hk : k ≤ 20)
    (S1 : ∀ W : World, Below w.heap.size w W → Calls Tryz.prog 21 #[.slice (some ⟨b, o, none⟩) h c] W (GivesF x W))
    (S2 : ∀ W : World, Below w.heap.size w W → Calls Tryz.prog 21 #[.slice (some ⟨b, o + h * 3, none⟩) (k - h) (c - h)] W (GivesF y W))
    (hx : Ht x 200) (hy : Ht y 200) (hr : x + y = r) : Calls Tryz.prog 21 #[.slice (some ⟨b, o, none⟩) k c] w (GivesF r w) := by
  unfold maxLen at hc
  have T1 := hide S1
  have T2 := hide S2
  have TX := hide hx
  have TY := hide hy
  have HR := hide hr
  have hq : (k : Int) / 2 = (h : Int) := by omega
  have h1 : h ≤ k := by omega
  have e0 : ((k : Int) == 0) = false := by rw [beq_eq_false_iff_ne]; omega
  have e1 : ((k : Int) == 1) = false := by rw [beq_eq_false_iff_ne]; omega
  have i0 : (0 : Int) ≤ (h : Int) := by omega
  have i1 : (h : Int) ≤ (k : Int) := by omega
  have i2 : (h : Int) ≤ (c : Int) := by omega
  have i3 : (k : Int) ≤ (c : Int) := by omega
  clear S1 S2 hx hy hr hh
  go_enter Tryz.func21, Tryz.ntmps21
  go_wp2_with fail
  generalize hW : w.alloc _ = W
  obtain ⟨B, bR, -⟩ := boxesA1 hW
  clear hW
  have lR := bR.lt
  have P0 : Below W.heap.size W W.drew := (Below.refl _ _).drew

  go_region_held3 (fun _ => True)
    (exact True.intro)
    (first
      | (go_at_call_of 21 (Value.slice (some ⟨b, o, none⟩)); (with_reducible refine (T1.out _ (B.trans (P0.mono B.size))).mono ?_); rintro e w1 ⟨p1, A1, n1, c1, B1, m1, d1, rfl, x1, hb1⟩; have E1 : Below W.heap.size W w1 := P0.trans (hb1.mono P0.size))
      | (go_at_call 21; (with_reducible refine (T2.out _ (B.trans (E1.mono B.size))).mono ?_); rintro e w2 ⟨p2, A2, n2, c2, B2, m2, d2, rfl, x2, hb2⟩; have E2 : Below W.heap.size W w2 := E1.trans (hb2.mono E1.size))
      | (go_at_call 28; (with_reducible refine (fadd_f (L := 200) ((x1.below hb2).fr TX.out) (x2.fr TY.out) (by omega) (by omega) r HR.out).mono ?_); rintro e w3 ⟨p3, A3, n3, c3, B3, m3, d3, rfl, x3, hb3⟩; have E3 : Below W.heap.size W w3 := E2.trans (hb3.mono E2.size); have b3 := bR.below E3 lR; have g0 : w3.cell? ⟨w.heap.size, 0, none⟩ = some (.bool false) := b3.at_ 0; have g1 : w3.cell? ⟨w.heap.size, 1, none⟩ = some (.slice none 0 0) := b3.at_ 1; have g2 : w3.cell? ⟨w.heap.size, 2, none⟩ = some (.slice none 0 0) := b3.at_ 2; have f0 := b3.frozen 0; have f1 := b3.frozen 1; have f2 := b3.frozen 2))
  have B := B.trans (E3.mono B.size)
  go_wp2_with fail
  clear g0 g1 g2 f0 f1 f2
  generalize hW3 : ((w3.setCell _ _).setCell _ _).setCell _ _ = W3
  obtain ⟨bz, -, C3, BB, -⟩ := put3 b3 hW3
  clear hW3
  have k0 : W3.cell? ⟨w.heap.size, 0, none⟩ = some (.bool p3) := bz.at_ 0
  have k1 : W3.cell? ⟨w.heap.size, 1, none⟩ = some (.slice A3 n3 c3) := bz.at_ 1
  have k2 : W3.cell? ⟨w.heap.size, 2, none⟩ = some (.slice B3 m3 d3) := bz.at_ 2
  refine bodyPost_ret (v := .agg #[.bool p3, .slice A3 n3 c3, .slice B3 m3 d3]) (by simp [results, Tryz.results21, go_sem, k0, k1, k2]) rfl ?_
  exact ⟨_, _, _, _, _, _, _, rfl, ⟨x3.1, C3 _ _ _ _ x3.2.1, C3 _ _ _ _ x3.2.2⟩, BB _ _ B (by omega)⟩
theorem fsumL : ∀ (K k : Nat), k ≤ K → ∀ (S : Option Addr) (c : Nat) (rs : List Rat) (w : World), FL w S k 6 rs → k ≤ c → c ≤ maxLen → k ≤ 20 → Calls Tryz.prog 21 #[.slice S k c] w (GivesF (sumR rs) w)
  | 0, k, hK, S, c, rs, w, hL, _, _, _ => by
    obtain rfl : k = 0 := by omega
    obtain rfl : rs = [] := List.eq_nil_of_length_eq_zero hL.len
    exact fsum_0 S c w
  | K + 1, k, hK, S, c, rs, w, hL, hkc, hc, hk => by
    by_cases h0 : k = 0
    · subst h0
      obtain rfl : rs = [] := List.eq_nil_of_length_eq_zero hL.len
      exact fsum_0 S c w
    · by_cases h1 : k = 1
      · subst h1
        have hl := hL.len
        match rs, hl with
        | [r], _ =>
          rw [sumR_one]
          exact fsum_1 S c r w hkc hL
      · obtain ⟨b, o, rfl, -⟩ := hL.2 (by omega)
        have hh := hL.ht
        have n1 : (rs.take (k / 2)).length = k / 2 := by rw [List.length_take, hL.len]; omega
        have n2 : (rs.drop (k / 2)).length = k - k / 2 := by rw [List.length_drop, hL.len]
        refine fsum_2 b o k c (k / 2) (sumR (rs.take (k / 2))) (sumR (rs.drop (k / 2))) _ w (by omega) rfl hkc hc hk
          (fun W hW => ?_) (fun W hW => ?_) ((sumR_ht _ fun r hr => hh r (List.mem_of_mem_take hr)).up (by rw [n1]; omega)) ((sumR_ht _ fun r hr => hh r (List.mem_of_mem_drop hr)).up (by rw [n2]; omega)) (sumR_split rs _)
        · exact fsumL K (k / 2) (by omega) _ c _ W ((hL.below hW).take_ (by omega)) (by omega) hc (by omega)
        · exact fsumL K (k - k / 2) (by omega) _ (c - k / 2) _ W ((hL.below hW).drop_ (by omega)) (by omega) (by omega) (by omega)
set_option maxHeartbeats 4000000 in
set_option maxRecDepth 100000 in
theorem gsum_any (S : Option Addr) (k c : Nat) (rs : List Rat) (w : World) (hL : FL w S k 6 rs) (_hkc : k ≤ c) (_hc : c ≤ maxLen) (hk : k ≤ 20) (r : Rat) (hr : sumR rs = r) : Calls Tryz.prog 22 #[.slice S k c] w (GivesF r w) := by
  have HL := hide hL
  have HR := hide hr
  clear hL hr
  go_enter Tryz.func22, Tryz.ntmps22
  go_wp2_with fail
  generalize hW : w.alloc _ = W
  obtain ⟨B, bR, -⟩ := boxesA1 hW
  clear hW
  refine (gof_f 0 1 _ (by omega) (by omega) (by omega) (by omega) 0 (by rw [Rat.div_def]; exact Rat.zero_mul _)).mono ?_
  rintro e w1 ⟨p1, A1, n1, c1, B1, m1, d1, rfl, x1, hb⟩
  have B := B.trans (hb.mono B.size)
  have bR := bR.below' hb
  clear hb
  have hne := bR.lt
  go_wp2_with fail
  generalize hW : w1.alloc _ = W1
  obtain ⟨hb, bo, -⟩ := boxesA1 hW
  clear hW
  have B := B.trans (hb.mono B.size)
  have bR := bR.below' hb
  have x1 := x1.below hb
  clear hb
  generalize w1.heap.size = go at *
  go_loopg [4] k (fun gk i wr => ∃ (j : Nat) (p : Bool) (A : Option Addr) (n c' : Nat) (B' : Option Addr) (m d : Nat), j + gk = k ∧ i = .int .i64 (j : Int) ∧ Below w.heap.size w wr ∧ Box wr w.heap.size #[.bool false, .slice none 0 0, .slice none 0 0] 26 ∧ Box wr go #[.bool p, .slice A n c', .slice B' m d] 26 ∧ Fc wr p A n c' B' m d (sumR (rs.take j)))
  case atStart => exact ⟨0, _, _, _, _, _, _, _, by omega, rfl, B, bR, bo, by rw [List.take_zero]; exact x1⟩
  case round =>
    obtain ⟨j, p, A, n, c', B', m, d, hj, rfl, Br, br, bq, xq⟩ := hrel
    have HJ := hide hj
    by_cases hlt : j < k
    · obtain ⟨b, o, r1, p2, A2, n2, c2, B2, m2, d2, rfl, hr1, k0, k1, k2, hx2, hlb⟩ := (HL.out.below Br).at_ hlt
      have hh := HL.out.ht
      have n1 : (rs.take j).length = j := by rw [List.length_take, HL.out.len]; omega
      have TJ := hide (show Ht (sumR (rs.take j)) 200 from (sumR_ht _ fun r hr => hh r (List.mem_of_mem_take hr)).up (by rw [n1]; omega))
      have HT := hide (show sumR (rs.take j) + r1 = sumR (rs.take (j + 1)) from by rw [take_snocR hr1, sumR_snoc])
      have HX2 := hide hx2
      have HXQ := hide xq
      have P0 : Below wr.heap.size wr wr.drew := (Below.refl _ _).drew
      have i0 : (0 : Int) ≤ (j : Int) := by omega
      have i1 : (j : Int) < (k : Int) := by omega
      have q0 : wr.cell? ⟨go, 0, none⟩ = some (.bool p) := bq.at_ 0
      have q1 : wr.cell? ⟨go, 1, none⟩ = some (.slice A n c') := bq.at_ 1
      have q2 : wr.cell? ⟨go, 2, none⟩ = some (.slice B' m d) := bq.at_ 2
      have lq := bq.lt
      have lr := br.lt
      clear hh n1 hr1 hx2 xq hj
      go_wp2_with fail
      go_region_law (first
        | (go_simp; go_at_call 57; (with_reducible refine (gadd_f (L := 200) ((HXQ.out.below P0).fr TJ.out) ((HX2.out.below P0).up (by omega)) (by omega) (by omega) _ HT.out).mono ?_); rintro e w3 ⟨p3, A3, n3, c3, B3, m3, d3, rfl, x3, hb3⟩; have E3 := P0.trans (hb3.mono P0.size); have b3 := bq.below E3 lq; have g0 : w3.cell? ⟨go, 0, none⟩ = some (.bool p) := b3.at_ 0; have g1 : w3.cell? ⟨go, 1, none⟩ = some (.slice A n c') := b3.at_ 1; have g2 : w3.cell? ⟨go, 2, none⟩ = some (.slice B' m d) := b3.at_ 2; have f0 := b3.frozen 0; have f1 := b3.frozen 1; have f2 := b3.frozen 2))
      all_goals
        have Br := Br.trans (E3.mono Br.size)
        have br := br.below E3 lr
        clear q0 q1 q2 k0 k1 k2 g0 g1 g2 f0 f1 f2
        go_wp2_with fail
        generalize hW3 : ((w3.setCell _ _).setCell _ _).setCell _ _ = W3
        obtain ⟨bz, -, C3, BB, BX⟩ := put3 b3 hW3
        clear hW3
        have HG := hide (show j + 1 + (gk - 1) = k from by have := HJ.out; omega)
        have hg1 : 1 ≤ gk := by have := HJ.out; omega
        go_roundg (gk - 1)
        case measure => omega
        case rel => exact ⟨j + 1, p3, A3, n3, c3, B3, m3, d3, HG.out, by go_num, BB _ _ Br (by omega), BX _ _ _ (by omega) br, bz, ⟨x3.1, C3 _ _ _ _ x3.2.1, C3 _ _ _ _ x3.2.2⟩⟩
    · obtain rfl : j = k := by omega
      have HXQ := hide (show Fc wr p A n c' B' m d r from by rw [List.take_of_length_le (by rw [HL.out.len]; exact Nat.le_refl _), HR.out] at xq; exact xq)
      clear xq hj
      have q0 : wr.cell? ⟨go, 0, none⟩ = some (.bool p) := bq.at_ 0
      have q1 : wr.cell? ⟨go, 1, none⟩ = some (.slice A n c') := bq.at_ 1
      have q2 : wr.cell? ⟨go, 2, none⟩ = some (.slice B' m d) := bq.at_ 2
      have g0 : wr.cell? ⟨w.heap.size, 0, none⟩ = some (.bool false) := br.at_ 0
      have g1 : wr.cell? ⟨w.heap.size, 1, none⟩ = some (.slice none 0 0) := br.at_ 1
      have g2 : wr.cell? ⟨w.heap.size, 2, none⟩ = some (.slice none 0 0) := br.at_ 2
      have f0 := br.frozen 0
      have f1 := br.frozen 1
      have f2 := br.frozen 2
      go_wp2_with fail
      clear g0 g1 g2 f0 f1 f2 q0 q1 q2
      generalize hW3 : ((wr.setCell _ _).setCell _ _).setCell _ _ = W3
      obtain ⟨b3, -, C3, BB, -⟩ := put3 br hW3
      clear hW3
      have k0 : W3.cell? ⟨w.heap.size, 0, none⟩ = some (.bool p) := b3.at_ 0
      have k1 : W3.cell? ⟨w.heap.size, 1, none⟩ = some (.slice A n c') := b3.at_ 1
      have k2 : W3.cell? ⟨w.heap.size, 2, none⟩ = some (.slice B' m d) := b3.at_ 2
      refine bodyPost_ret (v := .agg #[.bool p, .slice A n c', .slice B' m d]) (by simp [results, Tryz.results22, go_sem, k0, k1, k2]) rfl ?_
      exact ⟨_, _, _, _, _, _, _, rfl, ⟨HXQ.out.1, C3 _ _ _ _ HXQ.out.2.1, C3 _ _ _ _ HXQ.out.2.2⟩, BB _ _ Br (by omega)⟩
end Go.Proofs.YtgfdeihfinlfoaaGreatDoor

/- The contracts of the reference's fractions: Sub, Cmp, Div. -/
namespace Go.Proofs.YtgfdeihfinlfoaaGreatDoor
open Go Go.RowKit

set_option maxHeartbeats 1000000 in
theorem gdiv_f {w : World} {L : Nat} {p : Bool} {A : Option Addr} {n c : Nat} {B : Option Addr} {m d : Nat} {x : Rat} {p' : Bool} {A' : Option Addr} {n' c' : Nat} {B' : Option Addr} {m' d' : Nat} {y : Rat} (hx : Fr w L p A n c B m d x) (hy : Fr w L p' A' n' c' B' m' d' y) (h1L : 1 ≤ L) (hL : L ≤ 8000) (h0 : y ≠ 0) (r : Rat) (hr : x / y = r) : Calls Tryz.prog 54 #[.agg #[.bool p, .slice A n c, .slice B m d], .agg #[.bool p', .slice A' n' c', .slice B' m' d']] w (GivesFE r 0 w) := by
  have HR := hide hr
  clear hr
  have HY := hide hy.ht
  have H0 := hide h0
  clear h0
  go_enter Tryz.func54, Tryz.ntmps54
  go_wp2_with fail
  generalize hW : ((w.alloc _).alloc _).alloc _ = W
  obtain ⟨hbW, b0, b1, bR, -⟩ := boxesA3 hW
  clear hW
  refine (gnorm_f (hy.below hbW) h1L (by omega) y rfl).mono ?_
  rintro e w1 ⟨p1, A1, n1, c1, B1, m1, d1, rfl, h1, hb1⟩
  have hbA := hbW.trans (hb1.mono hbW.size)
  have b0 := b0.below' hb1
  have b1 := b1.below' hb1
  have bR := bR.below' hb1
  have hx := hx.below hbA
  have k3 : w1.cell? ⟨w.heap.size + 1, 0, none⟩ = some (.bool p') := b1.at_ 0
  have k4 : w1.cell? ⟨w.heap.size + 1, 1, none⟩ = some (.slice A' n' c') := b1.at_ 1
  have k5 : w1.cell? ⟨w.heap.size + 1, 2, none⟩ = some (.slice B' m' d') := b1.at_ 2
  have f3 := b1.frozen 0
  have f4 := b1.frozen 1
  have f5 := b1.frozen 2
  obtain ⟨hp, hN, hD⟩ := h1
  have HP := hide hp
  clear hb1 hbW hy hp
  go_wp2_with fail
  clear k3 k4 k5 f3 f4 f5
  generalize hW3 : ((w1.setCell _ _).setCell _ _).setCell _ _ = W3
  obtain ⟨b1, N3, C3, B3, X3⟩ := put3 b1 hW3
  have hN := C3 _ _ _ _ hN
  have hD := C3 _ _ _ _ hD
  have b0 := X3 _ _ _ (by simp) b0
  have bR := X3 _ _ _ (by simp) bR
  have hbA := B3 _ _ hbA (by omega)
  have hx : Fr W3 L p A n c B m d x := by
    obtain ⟨u, v, h1, h2, h3⟩ := hx
    exact ⟨u, v, N3 _ _ _ _ _ h1, N3 _ _ _ _ _ h2, h3⟩
  clear N3
  clear hW3 C3 B3 X3
  have hn0 : y.num.natAbs ≠ 0 := fun h => H0.out (Rat.num_eq_zero.1 (by omega))
  have HI := hide (show Fr W3 (L + 1) p1 B1 m1 d1 A1 n1 c1 y⁻¹ from by
    refine ⟨y.den, y.num.natAbs, hD.nt HY.out.2, hN.nt HY.out.1, ?_⟩
    rw [← qv_inv, fcq HP.out])
  obtain ⟨o, ho⟩ : ∃ o, y.num.natAbs = o := ⟨_, rfl⟩
  have HO := hide (show o < B9 ^ (L + 1) from by rw [← ho]; exact HY.out.1)
  rw [ho] at hN hn0
  have hd : decide (o = 0) = false := by simp [hn0]
  have HDD := hide hd
  clear ho hn0 hd
  refine (gzero_any (L + 1) (by omega) A1 n1 c1 o _ (hN.nt HO.out) false HDD.out).mono ?_
  rintro e w5 ⟨rfl, hb5⟩
  have hbA := hbA.trans (hb5.mono hbA.size)
  have b0 := b0.below' hb5
  have b1 := b1.below' hb5
  have bR := bR.below' hb5
  have hx := hx.below hb5
  have HI := hide (HI.out.below hb5)
  clear hb5 hN hD
  have k0 : w5.cell? ⟨w.heap.size, 0, none⟩ = some (.bool p) := b0.at_ 0
  have k1 : w5.cell? ⟨w.heap.size, 1, none⟩ = some (.slice A n c) := b0.at_ 1
  have k2 : w5.cell? ⟨w.heap.size, 2, none⟩ = some (.slice B m d) := b0.at_ 2
  have k3 : w5.cell? ⟨w.heap.size + 1, 0, none⟩ = some (.bool p1) := b1.at_ 0
  have k4 : w5.cell? ⟨w.heap.size + 1, 1, none⟩ = some (.slice A1 n1 c1) := b1.at_ 1
  have k5 : w5.cell? ⟨w.heap.size + 1, 2, none⟩ = some (.slice B1 m1 d1) := b1.at_ 2
  go_wp2_with fail
  clear k0 k1 k2 k3 k4 k5
  refine (gmul_f (L := L + 1) (hx.up (by omega)) HI.out (by omega) (by omega) r (by rw [← Rat.div_def]; exact HR.out)).mono ?_
  rintro e w6 ⟨p4, A4, n4, c4, B4, m4, d4, rfl, h4, hb6⟩
  have hbA := hbA.trans (hb6.mono hbA.size)
  have bR := bR.below' hb6
  clear hb6 hx b0 b1
  have g0 : w6.cell? ⟨w.heap.size + 1 + 1, 0, none⟩ = some (.bool false) := bR.at_ 0
  have g1 : w6.cell? ⟨w.heap.size + 1 + 1, 1, none⟩ = some (.slice none 0 0) := bR.at_ 1
  have g2 : w6.cell? ⟨w.heap.size + 1 + 1, 2, none⟩ = some (.slice none 0 0) := bR.at_ 2
  have f0 := bR.frozen 0
  have f1 := bR.frozen 1
  have f2 := bR.frozen 2
  go_wp2_with fail
  clear g0 g1 g2 f0 f1 f2
  generalize hW3 : ((w6.setCell _ _).setCell _ _).setCell _ _ = W5
  obtain ⟨b3, -, C3, BB, -⟩ := put3 bR hW3
  clear hW3
  have k0 : W5.cell? ⟨w.heap.size + 1 + 1, 0, none⟩ = some (.bool p4) := b3.at_ 0
  have k1 : W5.cell? ⟨w.heap.size + 1 + 1, 1, none⟩ = some (.slice A4 n4 c4) := b3.at_ 1
  have k2 : W5.cell? ⟨w.heap.size + 1 + 1, 2, none⟩ = some (.slice B4 m4 d4) := b3.at_ 2
  refine bodyPost_ret (v := .tuple #[.agg #[.bool p4, .slice A4 n4 c4, .slice B4 m4 d4], .int .i64 0]) (by simp [results, Tryz.results54, go_sem, k0, k1, k2]) rfl ?_
  exact ⟨_, _, _, _, _, _, _, rfl, ⟨h4.1, C3 _ _ _ _ h4.2.1, C3 _ _ _ _ h4.2.2⟩, BB _ _ hbA (by omega)⟩
set_option maxHeartbeats 1000000 in
theorem gdiv_0 {w : World} {L : Nat} {p : Bool} {A : Option Addr} {n c : Nat} {B : Option Addr} {m d : Nat} {p' : Bool} {A' : Option Addr} {n' c' : Nat} {B' : Option Addr} {m' d' : Nat} {y : Rat} (hy : Fr w L p' A' n' c' B' m' d' y) (h1L : 1 ≤ L) (hL : L ≤ 8000) (h0 : y = 0) : Calls Tryz.prog 54 #[.agg #[.bool p, .slice A n c, .slice B m d], .agg #[.bool p', .slice A' n' c', .slice B' m' d']] w fun e w' => e = .returned (.tuple #[.agg #[.bool false, .slice none 0 0, .slice none 0 0], .int .i64 12]) ∧ Below w.heap.size w w' := by
  have HY := hide hy.ht
  have H0 := hide h0
  clear h0
  go_enter Tryz.func54, Tryz.ntmps54
  go_wp2_with fail
  generalize hW : ((w.alloc _).alloc _).alloc _ = W
  obtain ⟨hbW, b0, b1, bR, -⟩ := boxesA3 hW
  clear hW
  refine (gnorm_f (hy.below hbW) h1L (by omega) y rfl).mono ?_
  rintro e w1 ⟨p1, A1, n1, c1, B1, m1, d1, rfl, h1, hb1⟩
  have hbA := hbW.trans (hb1.mono hbW.size)
  have b0 := b0.below' hb1
  have b1 := b1.below' hb1
  have bR := bR.below' hb1
  have k3 : w1.cell? ⟨w.heap.size + 1, 0, none⟩ = some (.bool p') := b1.at_ 0
  have k4 : w1.cell? ⟨w.heap.size + 1, 1, none⟩ = some (.slice A' n' c') := b1.at_ 1
  have k5 : w1.cell? ⟨w.heap.size + 1, 2, none⟩ = some (.slice B' m' d') := b1.at_ 2
  have f3 := b1.frozen 0
  have f4 := b1.frozen 1
  have f5 := b1.frozen 2
  obtain ⟨hp, hN, hD⟩ := h1
  have HP := hide hp
  clear hb1 hbW hy hp
  go_wp2_with fail
  clear k3 k4 k5 f3 f4 f5
  generalize hW3 : ((w1.setCell _ _).setCell _ _).setCell _ _ = W3
  obtain ⟨b1, -, C3, B3, X3⟩ := put3 b1 hW3
  have hN := C3 _ _ _ _ hN
  have hD := C3 _ _ _ _ hD
  have b0 := X3 _ _ _ (by simp) b0
  have bR := X3 _ _ _ (by simp) bR
  have hbA := B3 _ _ hbA (by omega)
  clear hW3 C3 B3 X3
  refine (gzero_any (L + 1) (by omega) A1 n1 c1 0 _ (Cn.nt (by rw [H0.out] at hN; exact hN) (Nat.pow_pos (by decide))) true rfl).mono ?_
  rintro e w5 ⟨rfl, hb5⟩
  have hbA := hbA.trans (hb5.mono hbA.size)
  have bR := bR.below' hb5
  clear hb5 hN hD b0 b1
  have g0 : w5.cell? ⟨w.heap.size + 1 + 1, 0, none⟩ = some (.bool false) := bR.at_ 0
  have g1 : w5.cell? ⟨w.heap.size + 1 + 1, 1, none⟩ = some (.slice none 0 0) := bR.at_ 1
  have g2 : w5.cell? ⟨w.heap.size + 1 + 1, 2, none⟩ = some (.slice none 0 0) := bR.at_ 2
  have f0 := bR.frozen 0
  have f1 := bR.frozen 1
  have f2 := bR.frozen 2
  go_wp2_with fail
  clear g0 g1 g2 f0 f1 f2
  generalize hW3 : ((w5.setCell _ _).setCell _ _).setCell _ _ = W5
  obtain ⟨b3, -, C3, BB, -⟩ := put3 bR hW3
  clear hW3
  have k0 : W5.cell? ⟨w.heap.size + 1 + 1, 0, none⟩ = some (.bool false) := b3.at_ 0
  have k1 : W5.cell? ⟨w.heap.size + 1 + 1, 1, none⟩ = some (.slice none 0 0) := b3.at_ 1
  have k2 : W5.cell? ⟨w.heap.size + 1 + 1, 2, none⟩ = some (.slice none 0 0) := b3.at_ 2
  refine bodyPost_ret (v := .tuple #[.agg #[.bool false, .slice none 0 0, .slice none 0 0], .int .i64 12]) (by simp [results, Tryz.results54, go_sem, k0, k1, k2]) rfl ?_
  exact ⟨rfl, BB _ _ hbA (by omega)⟩
end Go.Proofs.YtgfdeihfinlfoaaGreatDoor

/- The contracts of Mean, the program's and the reference's. -/
namespace Go.Proofs.YtgfdeihfinlfoaaGreatDoor
open Go Go.RowKit

set_option maxHeartbeats 1000000 in
theorem fmean_0 (S : Option Addr) (c : Nat) (w : World) : Calls Tryz.prog 19 #[.slice S 0 c] w fun e w' => e = .returned (.tuple #[.agg #[.bool false, .slice none 0 0, .slice none 0 0], .int .i64 7]) ∧ Below w.heap.size w w' := by
  go_enter Tryz.func19, Tryz.ntmps19
  go_wp2
  refine bodyPost_ret (v := .tuple #[.agg #[.bool false, .slice none 0 0, .slice none 0 0], .int .i64 7]) (by simp [results, Tryz.results19, go_sem]) rfl ?_
  exact ⟨rfl, (Below.refl _ _).alloc (Nat.le_refl _) _⟩
set_option maxHeartbeats 1000000 in
theorem gmean_0 (S : Option Addr) (c : Nat) (w : World) : Calls Tryz.prog 20 #[.slice S 0 c] w fun e w' => e = .returned (.tuple #[.agg #[.bool false, .slice none 0 0, .slice none 0 0], .int .i64 7]) ∧ Below w.heap.size w w' := by
  go_enter Tryz.func20, Tryz.ntmps20
  go_wp2
  refine bodyPost_ret (v := .tuple #[.agg #[.bool false, .slice none 0 0, .slice none 0 0], .int .i64 7]) (by simp [results, Tryz.results20, go_sem]) rfl ?_
  exact ⟨rfl, (Below.refl _ _).alloc (Nat.le_refl _) _⟩
theorem ht_inv {k : Nat} (hk : k ≤ 20) : Ht (((1 : Int) : Rat) / ((k : Int) : Rat)) 200 :=
  (Ht.div (Ht.int (i := 1) (by decide) (by omega)) (Ht.int (i := 1) (by show k < 1000000000 ^ 1; omega) (by omega))).up (by omega)
theorem ht_quo {k : Nat} (hk : k ≤ 20) : Ht (((k : Int) : Rat) / ((1 : Int) : Rat)) 200 :=
  (Ht.div (Ht.int (i := 1) (by show k < 1000000000 ^ 1; omega) (by omega)) (Ht.int (i := 1) (by decide) (by omega))).up (by omega)
theorem inv_one : (1 : Rat)⁻¹ = 1 := by
  have h := Rat.mul_inv_cancel (1 : Rat) (by decide)
  rwa [Rat.one_mul] at h
theorem one_rat : ((1 : Int) : Rat) = 1 := rfl
theorem nat_rat (k : Nat) : ((k : Int) : Rat) = ((k : Nat) : Rat) := rfl
theorem quo_ne {k : Nat} (h : k ≠ 0) : ((k : Int) : Rat) / ((1 : Int) : Rat) ≠ 0 := by
  rw [one_rat, nat_rat, Rat.div_def, inv_one, Rat.mul_one]
  intro e
  exact h (by exact_mod_cast e)
theorem mean_mul (x : Rat) (k : Nat) : x * (((1 : Int) : Rat) / ((k : Int) : Rat)) = x / ((k : Nat) : Rat) := by
  rw [one_rat, nat_rat, Rat.div_def, Rat.div_def, Rat.one_mul]
theorem mean_div (x : Rat) (k : Nat) : x / (((k : Int) : Rat) / ((1 : Int) : Rat)) = x / ((k : Nat) : Rat) := by
  rw [one_rat, nat_rat, Rat.div_def (k : Rat) 1, inv_one, Rat.mul_one]
set_option maxHeartbeats 4000000 in
set_option maxRecDepth 100000 in
theorem fmean_k (S : Option Addr) (k c : Nat) (rs : List Rat) (w : World) (hL : FL w S k 6 rs) (hkc : k ≤ c) (hc : c ≤ maxLen) (hk : k ≤ 20) (h0 : k ≠ 0) (r : Rat) (hr : sumR rs / ((k : Nat) : Rat) = r) : Calls Tryz.prog 19 #[.slice S k c] w (GivesFE r 0 w) := by
  have hM := hc
  unfold maxLen at hc
  have HL := hide hL
  have HM := hide hM
  have TS := hide (show Ht (sumR rs) 200 from (sumR_ht _ hL.ht).up (by rw [hL.len]; omega))
  have TK := hide (show Ht (((1 : Int) : Rat) / ((k : Int) : Rat)) 200 from ht_inv hk)
  have HR := hide (show sumR rs * (((1 : Int) : Rat) / ((k : Int) : Rat)) = r from by rw [← hr]; exact mean_mul _ _)
  have H0 := hide h0
  have e0 : ((k : Int) == 0) = false := by rw [beq_eq_false_iff_ne]; omega
  clear hL hr h0 hM
  go_enter Tryz.func19, Tryz.ntmps19
  go_wp2_with fail
  generalize hW : w.alloc _ = W
  obtain ⟨B, bR, -⟩ := boxesA1 hW
  clear hW
  refine (fsumL k k (Nat.le_refl _) S c rs _ (HL.out.below B) hkc HM.out hk).mono ?_
  rintro e w1 ⟨p1, A1, n1, c1, B1, m1, d1, rfl, x1, hb⟩
  have B := B.trans (hb.mono B.size)
  have bR := bR.below' hb
  clear hb
  go_wp2_with fail
  refine (fof_f 1 (k : Int) _ (by omega) (by omega) (by omega) (by omega) _ rfl).mono ?_
  rintro e w2 ⟨p2, A2, n2, c2, B2, m2, d2, rfl, x2, hb⟩
  have B := B.trans (hb.mono B.size)
  have bR := bR.below' hb
  have x1 := x1.below hb
  clear hb
  go_wp2_with fail
  refine (fmul_f (L := 200) (x1.fr TS.out) (x2.fr TK.out) (by omega) (by omega) r HR.out).mono ?_
  rintro e w3 ⟨p4, A4, n4, c4, B4, m4, d4, rfl, h4, hb⟩
  have B := B.trans (hb.mono B.size)
  have bR := bR.below' hb
  clear hb x1 x2
  have g0 : w3.cell? ⟨w.heap.size, 0, none⟩ = some (.bool false) := bR.at_ 0
  have g1 : w3.cell? ⟨w.heap.size, 1, none⟩ = some (.slice none 0 0) := bR.at_ 1
  have g2 : w3.cell? ⟨w.heap.size, 2, none⟩ = some (.slice none 0 0) := bR.at_ 2
  have f0 := bR.frozen 0
  have f1 := bR.frozen 1
  have f2 := bR.frozen 2
  go_wp2_with fail
  clear g0 g1 g2 f0 f1 f2
  generalize hW3 : ((w3.setCell _ _).setCell _ _).setCell _ _ = W3
  obtain ⟨b3, -, C3, B3, -⟩ := put3 bR hW3
  clear hW3
  have k0 : W3.cell? ⟨w.heap.size, 0, none⟩ = some (.bool p4) := b3.at_ 0
  have k1 : W3.cell? ⟨w.heap.size, 1, none⟩ = some (.slice A4 n4 c4) := b3.at_ 1
  have k2 : W3.cell? ⟨w.heap.size, 2, none⟩ = some (.slice B4 m4 d4) := b3.at_ 2
  refine bodyPost_ret (v := .tuple #[.agg #[.bool p4, .slice A4 n4 c4, .slice B4 m4 d4], .int .i64 0]) (by simp [results, Tryz.results19, go_sem, k0, k1, k2]) rfl ?_
  exact ⟨_, _, _, _, _, _, _, rfl, ⟨h4.1, C3 _ _ _ _ h4.2.1, C3 _ _ _ _ h4.2.2⟩, B3 _ _ B (by omega)⟩
set_option maxHeartbeats 4000000 in
set_option maxRecDepth 100000 in
theorem gmean_k (S : Option Addr) (k c : Nat) (rs : List Rat) (w : World) (hL : FL w S k 6 rs) (hkc : k ≤ c) (hc : c ≤ maxLen) (hk : k ≤ 20) (h0 : k ≠ 0) (r : Rat) (hr : sumR rs / ((k : Nat) : Rat) = r) : Calls Tryz.prog 20 #[.slice S k c] w (GivesFE r 0 w) := by
  have hM := hc
  unfold maxLen at hc
  have HL := hide hL
  have HM := hide hM
  have TS := hide (show Ht (sumR rs) 200 from (sumR_ht _ hL.ht).up (by rw [hL.len]; omega))
  have TK := hide (show Ht (((k : Int) : Rat) / ((1 : Int) : Rat)) 200 from ht_quo hk)
  have HR := hide (show sumR rs / (((k : Int) : Rat) / ((1 : Int) : Rat)) = r from by rw [← hr]; exact mean_div _ _)
  have H0 := hide h0
  have e0 : ((k : Int) == 0) = false := by rw [beq_eq_false_iff_ne]; omega
  clear hL hr h0 hM
  go_enter Tryz.func20, Tryz.ntmps20
  go_wp2_with fail
  generalize hW : w.alloc _ = W
  obtain ⟨B, bR, -⟩ := boxesA1 hW
  clear hW
  refine (gsum_any S k c rs _ (HL.out.below B) hkc HM.out hk _ rfl).mono ?_
  rintro e w1 ⟨p1, A1, n1, c1, B1, m1, d1, rfl, x1, hb⟩
  have B := B.trans (hb.mono B.size)
  have bR := bR.below' hb
  clear hb
  go_wp2_with fail
  refine (gof_f (k : Int) 1 _ (by omega) (by omega) (by omega) (by omega) _ rfl).mono ?_
  rintro e w2 ⟨p2, A2, n2, c2, B2, m2, d2, rfl, x2, hb⟩
  have B := B.trans (hb.mono B.size)
  have bR := bR.below' hb
  have x1 := x1.below hb
  clear hb
  go_wp2_with fail
  refine (gdiv_f (L := 200) (x1.fr TS.out) (x2.fr TK.out) (by omega) (by omega) (quo_ne H0.out) r HR.out).mono ?_
  rintro e w3 ⟨p4, A4, n4, c4, B4, m4, d4, rfl, h4, hb⟩
  have B := B.trans (hb.mono B.size)
  have bR := bR.below' hb
  clear hb x1 x2
  have g0 : w3.cell? ⟨w.heap.size, 0, none⟩ = some (.bool false) := bR.at_ 0
  have g1 : w3.cell? ⟨w.heap.size, 1, none⟩ = some (.slice none 0 0) := bR.at_ 1
  have g2 : w3.cell? ⟨w.heap.size, 2, none⟩ = some (.slice none 0 0) := bR.at_ 2
  have f0 := bR.frozen 0
  have f1 := bR.frozen 1
  have f2 := bR.frozen 2
  go_wp2_with fail
  clear g0 g1 g2 f0 f1 f2
  generalize hW3 : ((w3.setCell _ _).setCell _ _).setCell _ _ = W3
  obtain ⟨b3, -, C3, B3, -⟩ := put3 bR hW3
  clear hW3
  have k0 : W3.cell? ⟨w.heap.size, 0, none⟩ = some (.bool p4) := b3.at_ 0
  have k1 : W3.cell? ⟨w.heap.size, 1, none⟩ = some (.slice A4 n4 c4) := b3.at_ 1
  have k2 : W3.cell? ⟨w.heap.size, 2, none⟩ = some (.slice B4 m4 d4) := b3.at_ 2
  refine bodyPost_ret (v := .tuple #[.agg #[.bool p4, .slice A4 n4 c4, .slice B4 m4 d4], .int .i64 0]) (by simp [results, Tryz.results20, go_sem, k0, k1, k2]) rfl ?_
  exact ⟨_, _, _, _, _, _, _, rfl, ⟨h4.1, C3 _ _ _ _ h4.2.1, C3 _ _ _ _ h4.2.2⟩, B3 _ _ B (by omega)⟩
end Go.Proofs.YtgfdeihfinlfoaaGreatDoor

/- A drawn region walked by hand: an operation is taken first, its slot named. -/
namespace Go.Proofs.YtgfdeihfinlfoaaGreatDoor
open Go

section
variable {P : Program} {ops : Array Oper} {Q : Exit → Act → World → Prop} {md : Region.Mode} {S : World → Prop}
theorem take_at (i d : Nat) {oi : Oper} {v : Value} {fuel : Nat} {listed : Array Bool} {a : Act} {w : World} (hi : ops[i]? = some oi) (hd : oi.dst = some d)
    (hs : Region.noSelect ops = true) (hf : Region.free md ops listed i = true) (hr : (Region.ready md ops listed).contains i = true)
    (hQ : ∀ c a w, Q (.panic c) (a.put (some d) v) w → Q (.panic c) a w) (hw : Region.wanted oi (yielded ops a.tmps) = true) (hy : ∀ w, S w → (execOp a.eval oi).run P w = .ok (.value v) w) (hS : S w)
    (h : wpAnyH P md ops Q S fuel (listed.setIfInBounds i true) (a.put (some d) v) w) : wpAnyH P md ops Q S (fuel + 1) listed a w :=
  wpAnyH_take hi hs hf hr (by rw [hd]; exact hQ) (Or.inl ⟨hw, hy⟩) hS (by rw [hd]; exact h)
theorem pass_at (i d : Nat) {oi : Oper} {fuel : Nat} {listed : Array Bool} {a : Act} {w : World} (hi : ops[i]? = some oi) (hd : oi.dst = some d)
    (hs : Region.noSelect ops = true) (hf : Region.free md ops listed i = true) (hr : (Region.ready md ops listed).contains i = true)
    (hQ : ∀ c a w, Q (.panic c) (a.put (some d) undef) w → Q (.panic c) a w) (hw : Region.wanted oi (yielded ops a.tmps) = false) (hS : S w)
    (h : wpAnyH P md ops Q S fuel (listed.setIfInBounds i true) (a.put (some d) undef) w) : wpAnyH P md ops Q S (fuel + 1) listed a w :=
  wpAnyH_take hi hs hf hr (by rw [hd]; exact hQ) (Or.inr ⟨hw, rfl⟩) hS (by rw [hd]; exact h)
/-- the one operation that may come up, and is wanted -/
theorem come_at (i : Nat) {oi : Oper} {fuel : Nat} {listed : Array Bool} {a : Act} {w : World} (hi : ops[i]? = some oi)
    (hr : Region.ready md ops listed = [i]) (hw : Region.wanted oi (yielded ops a.tmps) = true)
    (h : ∀ K' : Act → World → Prop, Shut (∀ a w, S w → (S w → wpAnyH P md ops Q S fuel (listed.setIfInBounds i true) a w) → K' a w) → Oper.wp P oi a w K' Q) : wpAnyH P md ops Q S (fuel + 1) listed a w :=
  wpAnyH_ready (rs := [i]) hr (by simp) (AllReadyH.cons hi (fun K hK => by rw [if_pos hw]; exact h K hK) AllReadyH.nil)
end
end Go.Proofs.YtgfdeihfinlfoaaGreatDoor

/- The mathematics of means; an argument that is a slice of fractions, as it comes. -/
namespace Go.Proofs.YtgfdeihfinlfoaaGreatDoor
open Go Go.RowKit

theorem sum_gt (m : Rat) : ∀ l : List Rat, l ≠ [] → (∀ r ∈ l, m < r) → ((l.length : Nat) : Rat) * m < sumR l
  | [], h, _ => absurd rfl h
  | [r], _, h => by
    have := h r List.mem_cons_self
    rw [sumR_one]
    show ((1 : Nat) : Rat) * m < r
    rw [show ((1 : Nat) : Rat) = 1 from rfl, Rat.one_mul]
    exact this
  | r :: s :: l, _, h => by
    have h1 := h r List.mem_cons_self
    have h2 := sum_gt m (s :: l) (by simp) fun x hx => h x (List.mem_cons_of_mem _ hx)
    have e : (((r :: s :: l).length : Nat) : Rat) = (((s :: l).length : Nat) : Rat) + 1 := by
      rw [List.length_cons, Rat.natCast_add]; rfl
    rw [e]
    show _ < r + sumR (s :: l)
    grind
theorem sum_lt (m : Rat) : ∀ l : List Rat, l ≠ [] → (∀ r ∈ l, r < m) → sumR l < ((l.length : Nat) : Rat) * m
  | [], h, _ => absurd rfl h
  | [r], _, h => by
    have := h r List.mem_cons_self
    rw [sumR_one]
    show r < ((1 : Nat) : Rat) * m
    rw [show ((1 : Nat) : Rat) = 1 from rfl, Rat.one_mul]
    exact this
  | r :: s :: l, _, h => by
    have h1 := h r List.mem_cons_self
    have h2 := sum_lt m (s :: l) (by simp) fun x hx => h x (List.mem_cons_of_mem _ hx)
    have e : (((r :: s :: l).length : Nat) : Rat) = (((s :: l).length : Nat) : Rat) + 1 := by
      rw [List.length_cons, Rat.natCast_add]; rfl
    rw [e]
    show r + sumR (s :: l) < _
    grind
theorem mean_eq {l : List Rat} {m : Rat} {k : Nat} (hk : l.length = k) (h0 : k ≠ 0) (hm : sumR l / ((k : Nat) : Rat) = m) : ((l.length : Nat) : Rat) * m = sumR l := by
  rw [← hm, hk, Rat.mul_comm]
  exact Rat.div_mul_cancel (by intro e; exact h0 (by exact_mod_cast e))
def belo (m : Rat) (l : List Rat) : Bool := l.any fun r => decide (r ≤ m)
def abov (m : Rat) (l : List Rat) : Bool := l.any fun r => decide (m ≤ r)
theorem belo_all {l : List Rat} {m : Rat} {k : Nat} (hk : l.length = k) (h0 : k ≠ 0) (hm : sumR l / ((k : Nat) : Rat) = m) : belo m l = true ∧ abov m l = true := by
  have e := mean_eq hk h0 hm
  have hn : l ≠ [] := fun h => h0 (by rw [← hk, h]; rfl)
  constructor
  · rcases hb : belo m l with _ | _
    · exfalso
      have : ∀ r ∈ l, m < r := fun r hr => by
        have := List.any_eq_false.1 hb r hr
        simp only [decide_eq_true_eq] at this
        exact Rat.not_le.1 this
      have := sum_gt m l hn this
      rw [e] at this
      exact Rat.lt_irrefl this
    · rfl
  · rcases hb : abov m l with _ | _
    · exfalso
      have : ∀ r ∈ l, r < m := fun r hr => by
        have := List.any_eq_false.1 hb r hr
        simp only [decide_eq_true_eq] at this
        exact Rat.not_le.1 this
      have := sum_lt m l hn this
      rw [e] at this
      exact Rat.lt_irrefl this
    · rfl
theorem belo_snoc (m : Rat) (l : List Rat) (r : Rat) : belo m (l ++ [r]) = (belo m l || decide (r ≤ m)) := by simp [belo]
theorem abov_snoc (m : Rat) (l : List Rat) (r : Rat) : abov m (l ++ [r]) = (abov m l || decide (m ≤ r)) := by simp [abov]

/-- a slice of fractions as an argument: the numbers of limbs -/
def OL (w : World) (S : Option Addr) (k : Nat) (N M : Nat → Nat) : Prop :=
  0 < k → ∃ b o, S = some ⟨b, o, none⟩ ∧ ∀ i < k, ∃ p A c B d r, w.cell? ⟨b, o + i * 3, none⟩ = some (.bool p) ∧ w.cell? ⟨b, o + i * 3 + 1, none⟩ = some (.slice A (N i) c) ∧ w.cell? ⟨b, o + i * 3 + 2, none⟩ = some (.slice B (M i) d) ∧
    (N i ≤ 6 → M i ≤ 6 → Fr w 6 p A (N i) c B (M i) d r)
theorem OL.few {w w' : World} {S : Option Addr} {k : Nat} {N M : Nat → Nat} (h : OL w S k N M) (hb : Below w.heap.size w w') : FewL w' S k N M := fun hk => by
  obtain ⟨b, o, e, hc⟩ := h hk
  refine ⟨b, o, e, fun i hi => ?_⟩
  obtain ⟨p, A, c, B, d, r, h0, h1, h2, -⟩ := hc i hi
  exact ⟨A, c, B, d, (hb.cell (World.block_lt_of_cell? w _ h1)).trans h1, (hb.cell (World.block_lt_of_cell? w _ h2)).trans h2⟩
theorem list_of {P : Nat → Rat → Prop} : ∀ k : Nat, (∀ i < k, ∃ r, P i r) → ∃ rs : List Rat, rs.length = k ∧ ∀ (i : Nat) (r : Rat), rs[i]? = some r → P i r
  | 0, _ => ⟨[], rfl, fun i r h => by simp at h⟩
  | k + 1, h => by
    obtain ⟨rs, h1, h2⟩ := list_of k fun i hi => h i (by omega)
    obtain ⟨r, hr⟩ := h k (by omega)
    refine ⟨rs ++ [r], by simp [h1], fun i x hx => ?_⟩
    by_cases hi : i < k
    · rw [List.getElem?_append_left (by omega)] at hx
      exact h2 i x hx
    · rw [List.getElem?_append_right (by omega), h1] at hx
      have e : i - k = 0 := by
        rcases hz : i - k with _ | z
        · rfl
        · rw [hz] at hx; simp at hx
      rw [e] at hx
      simp only [List.getElem?_cons_zero, Option.some.injEq] at hx
      obtain rfl : i = k := by omega
      rw [← hx]
      exact hr
theorem OL.fl {w : World} {S : Option Addr} {k : Nat} {N M : Nat → Nat} (h : OL w S k N M) (hf : ∀ i < k, N i ≤ 6 ∧ M i ≤ 6) : ∃ rs, FL w S k 6 rs := by
  by_cases hk : k = 0
  · exact ⟨[], hk.symm, fun h => by omega⟩
  · obtain ⟨b, o, e, hc⟩ := h (by omega)
    obtain ⟨rs, h1, h2⟩ := list_of (P := fun i r => ∃ p A n c B m d, w.cell? ⟨b, o + i * 3, none⟩ = some (.bool p) ∧ w.cell? ⟨b, o + i * 3 + 1, none⟩ = some (.slice A n c) ∧ w.cell? ⟨b, o + i * 3 + 2, none⟩ = some (.slice B m d) ∧ Fr w 6 p A n c B m d r) k fun i hi => by
      obtain ⟨p, A, c, B, d, r, h0, h1, h2, h3⟩ := hc i hi
      exact ⟨r, p, A, N i, c, B, M i, d, h0, h1, h2, h3 (hf i hi).1 (hf i hi).2⟩
    exact ⟨rs, h1, fun _ => ⟨b, o, e, h2⟩⟩
end Go.Proofs.YtgfdeihfinlfoaaGreatDoor
