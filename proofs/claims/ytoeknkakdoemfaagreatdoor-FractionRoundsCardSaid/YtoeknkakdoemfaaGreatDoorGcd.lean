/- The contract of natural.Gcd. -/
import Derived.Test.YtoeknkakdoemfaaGreatDoorSimpleN
import Derived.Test.YtoeknkakdoemfaaGreatDoorBaseB
import Derived.Test.YtoeknkakdoemfaaGreatDoorSimple
import Derived.Deep.LoopGhost
namespace Go.Proofs.YtoeknkakdoemfaaGreatDoor
open Go Go.RowKit

theorem gcd_lt {a b M : Nat} (ha : a < M) (hb : b < M) : Nat.gcd a b < M := by
  rcases Nat.eq_zero_or_pos a with h | h
  · subst h; rwa [Nat.gcd_zero_left]
  · exact Nat.lt_of_le_of_lt (Nat.gcd_le_left b h) ha

set_option maxHeartbeats 1000000 in
theorem gcd_any (A : Option Addr) (n c : Nat) (xs : List Nat) (A' : Option Addr) (m d : Nat) (ys : List Nat) (w : World) (hr : RL w .u32 A n xs) (hn : n ≤ c) (hc : c ≤ maxLen) (hN : n ≤ 900000) (hx : ∀ x ∈ xs, x < 4294967296)
    (hr' : RL w .u32 A' m ys) (hm : m ≤ d) (hd : d ≤ maxLen) (hM : m ≤ 900000) (hy : ∀ x ∈ ys, x < 4294967296) (G : Nat) (hG : Nat.gcd (val B9 xs) (val B9 ys) = G) :
    Calls Tryz.prog 41 #[.agg #[.slice A n c], .agg #[.slice A' m d]] w (GivesN G w) := by
  have HX := hide hx
  have HY := hide hy
  have HG := hide hG
  clear hx hy hG
  go_enter Tryz.func41, Tryz.ntmps41
  go_wp2
  have HB := box3 w (.slice A n c) (.slice A' m d) (.slice none 0 0) 24 24 24
  generalize ((w.alloc (Obj.cells #[Value.slice A n c] 24)).alloc (Obj.cells #[Value.slice A' m d] 24)).alloc (Obj.cells #[Value.slice none 0 0] 24) = W at HB ⊢
  obtain ⟨hW, h1, h2, h3, hz⟩ := HB
  have HZ := hide hz
  have H3 := hide h3
  have hz2 : w.heap.size + 2 < W.heap.size := by omega
  clear hz h3
  have hrW := hr.below hW
  have hrW' := hr'.below hW
  have KS : Hid (∀ w', Below W.heap.size W w' → w'.cell? ⟨w.heap.size, 0, none⟩ = some (.slice A n c) ∧ w'.cell? ⟨w.heap.size + 1, 0, none⟩ = some (.slice A' m d)) :=
    fun w' h => ⟨(h.cell (p := ⟨w.heap.size, 0, none⟩) (by simp; omega)).trans h1, (h.cell (p := ⟨w.heap.size + 1, 0, none⟩) (by simp; omega)).trans h2⟩
  have KC : Hid (∀ w', Below W.heap.size W w' → w'.cell? ⟨w.heap.size + 2, 0, none⟩ = some (.slice none 0 0) ∧ w'.frozen? ⟨w.heap.size + 2, 0, none⟩ = false) :=
    fun w' h => ⟨(h.cell (p := ⟨w.heap.size + 2, 0, none⟩) hz2).trans (by rw [cell_of_row _ _ _ _ _ _ H3.out]; rfl), (h.frozen (p := ⟨w.heap.size + 2, 0, none⟩) hz2).trans (frozen_of_row _ _ _ _ _ H3.out)⟩
  go_region_held3 (fun w' => w'.cell? ⟨w.heap.size, 0, none⟩ = some (.slice A n c) ∧ w'.cell? ⟨w.heap.size + 1, 0, none⟩ = some (.slice A' m d))
    (first | exact KS.out _ hbB | exact KS.out _ hbA | exact KS.out _ ((Below.refl _ _).drew))
    (first
      | (go_at_call_of 72 (Value.slice A n c); refine (canon_any A n c xs _ (hrW.below ((Below.refl _ _).drew)) hn hc (by omega) HX.out).mono ?_; rintro e w1 ⟨A1, n1, c1, rfl, hr1, hn1, hc1, hb1⟩; have hbA : Below W.heap.size W w1 := ((Below.refl _ _).drew).trans hb1)
      | (go_at_call_of 72 (Value.slice A' m d); refine (canon_any A' m d ys _ (hrW'.below hbA) hm hd (by omega) HY.out).mono ?_; rintro e w2 ⟨A2, n2, c2, rfl, hr2, hn2, hc2, hb2⟩; have hbB : Below W.heap.size W w2 := hbA.trans (hb2.mono hbA.size)))
  have hl1 : n1 ≤ n + 1 := dig_len_u32 hr1.len hr.len HX.out
  have hl2 : n2 ≤ m + 1 := dig_len_u32 hr2.len hr'.len HY.out
  have hr1' := hr1.below hb2
  clear hr hr' hrW hrW' hb1 hb2 hbA h1 h2 hr1 KS
  go_wp2
  go_loopg [5, 6, 7, 8] (val B9 ys) (fun k p q _ _ wr => ∃ (A1 : Option Addr) (n1 c1 X : Nat) (A2 : Option Addr) (n2 c2 : Nat), p = .slice A1 n1 c1 ∧ q = .slice A2 n2 c2 ∧ RL wr .u32 A1 n1 (dig B9 X) ∧ RL wr .u32 A2 n2 (dig B9 k) ∧ n1 ≤ 1000000 ∧ n2 ≤ 1000000 ∧ Below W.heap.size W wr ∧ Nat.gcd X k = G)
  case atStart => exact ⟨A1, n1, c1, val B9 xs, A2, n2, c2, rfl, rfl, hr1', hr2, by omega, by omega, hbB, HG.out⟩
  case round =>
    clear hr1' hr2 hbB hl1 hl2 hn1 hc1 hn2 hc2
    obtain ⟨A1, n1, c1, X, A2, n2, c2, rfl, rfl, hs1, hs2, hl1, hl2, hbr, hg⟩ := hrel
    have HGG := hide hg
    clear hg
    by_cases h0 : n2 = 0
    · subst h0
      have hk0 := (dig_eq_nil B9 (by decide)).1 (List.eq_nil_of_length_eq_zero hs2.len)
      have HE := hide (show X = G from by rw [← HGG.out, hk0, Nat.gcd_zero_right])
      clear hk0
      go_wp2_with fail
      refine (clone_any A1 n1 c1 _ _ hs1 (by omega)).mono ?_
      rintro e w3 ⟨A3, n3, c3, rfl, hr3, hn3, hc3, hb3⟩
      have hbC := hbr.trans (hb3.mono hbr.size)
      obtain ⟨hcl, hfl⟩ := KC.out _ hbC
      rw [HE.out] at hr3
      go_wp2
      refine bodyPost_ret (v := .agg #[.slice A3 n3 c3]) (by simp [results, Tryz.results41, go_sem, hcl]) rfl ?_
      exact fin_struct hW hbC (by omega) H3.out hr3 hn3 hc3
    · have hkne : gk ≠ 0 := by
        intro h
        rw [h] at hs2
        exact h0 hs2.len.symm
      have hd2 : decide (0 < (n2 : Int)) = true := by simp; omega
      by_cases hsm : n1 ≤ 2 ∧ n2 ≤ 2
      · obtain ⟨s1, s2⟩ := hsm
        have hd3 : decide ((n1 : Int) ≤ 2) = true := by simp; omega
        have hd4 : decide ((n2 : Int) ≤ 2) = true := by simp; omega
        have hX : X < 1000000000000000000 := (dig_length_le B9 (by decide) 2 X).1 (by rw [hs1.len]; exact s1)
        have hK : gk < 1000000000000000000 := (dig_length_le B9 (by decide) 2 gk).1 (by rw [hs2.len]; exact s2)
        have hGl : Nat.gcd X gk < 1000000000000000000 := gcd_lt hX hK
        go_wp2_with fail
        refine (joinLimbs_any A1 n1 c1 _ _ hs1 s1 (dig_lt B9 (by decide) X)).mono ?_
        rintro e w3 ⟨rfl, rfl⟩
        rw [val_dig B9 (by decide)]
        go_wp2_with fail
        refine (joinLimbs_any A2 n2 c2 _ _ hs2 s2 (dig_lt B9 (by decide) gk)).mono ?_
        rintro e w3 ⟨rfl, rfl⟩
        rw [val_dig B9 (by decide)]
        go_wp2_with fail
        refine (smallGcd_any X gk _ (by omega) (by omega)).mono ?_
        rintro e w3 ⟨rfl, k3, rfl⟩
        rw [HGG.out] at hGl ⊢
        have hb4 := below_drewN hbr k3
        go_wp2_with fail
        refine (of_any G _ (by omega)).mono ?_
        rintro e w5 ⟨A5, n5, c5, rfl, hr5, hn5, hc5, hb5⟩
        have hbC := hb4.trans (hb5.mono hb4.size)
        obtain ⟨hcl, hfl⟩ := KC.out _ hbC
        go_wp2
        refine bodyPost_ret (v := .agg #[.slice A5 n5 c5]) (by simp [results, Tryz.results41, go_sem, hcl]) rfl ?_
        exact fin_struct hW hbC (by omega) H3.out hr5 hn5 hc5
      · have hmod : X % gk < gk := Nat.mod_lt _ (by omega)
        have hgN := hide (show Nat.gcd gk (X % gk) = G from by rw [gcd_step, HGG.out])
        have hlen : Hid (∀ z : Nat, (dig B9 (X % gk)).length = z → z ≤ 1000000) := by
          intro z hz
          have h1 := dig_mono B9 (by decide) (Nat.le_of_lt hmod)
          rw [hs2.len] at h1
          omega
        by_cases s1 : n1 ≤ 2
        · have hd3 : decide ((n1 : Int) ≤ 2) = true := by simp; omega
          have hd4 : decide ((n2 : Int) ≤ 2) = false := by simp; omega
          go_wp2_with fail
          refine (divide_any A1 n1 c1 X A2 n2 c2 gk _ hs1 hs2 hkne (by omega) (by omega)).mono ?_
          rintro e w3 ⟨A3, n3, c3, A4, n4, c4, rfl, hr3, hn3, hc3, hr4, hn4, hc4, hb3⟩
          have hbC := hbr.trans (hb3.mono hbr.size)
          have hs2' := hs2.below hb3
          go_wp2
          go_roundg (X % gk)
          case measure => exact hmod
          case rel => exact ⟨A2, n2, c2, gk, A4, n4, c4, rfl, rfl, hs2', hr4, hl2, hlen.out _ hr4.len, hbC, hgN.out⟩
        · have hd3 : decide ((n1 : Int) ≤ 2) = false := by simp; omega
          go_wp2_with fail
          refine (divide_any A1 n1 c1 X A2 n2 c2 gk _ hs1 hs2 hkne (by omega) (by omega)).mono ?_
          rintro e w3 ⟨A3, n3, c3, A4, n4, c4, rfl, hr3, hn3, hc3, hr4, hn4, hc4, hb3⟩
          have hbC := hbr.trans (hb3.mono hbr.size)
          have hs2' := hs2.below hb3
          go_wp2
          go_roundg (X % gk)
          case measure => exact hmod
          case rel => exact ⟨A2, n2, c2, gk, A4, n4, c4, rfl, rfl, hs2', hr4, hl2, hlen.out _ hr4.len, hbC, hgN.out⟩
end Go.Proofs.YtoeknkakdoemfaaGreatDoor
