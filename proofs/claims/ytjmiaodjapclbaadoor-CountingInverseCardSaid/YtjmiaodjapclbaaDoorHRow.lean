/- The contracts of the reference's row, Binomial (layer 3). -/
import Derived.Test.YtjmiaodjapclbaaDoorHErr
import Derived.Test.YtjmiaodjapclbaaDoorCSet
import Derived.Deep.RegionLaw
namespace Go.Proofs.YtjmiaodjapclbaaDoor
open Go Go.RowKit

/-- a row of Pascal's triangle -/
def PR (n : Nat) : List Nat := (List.range (n + 1)).map (cho n)
theorem PR_len (n : Nat) : (PR n).length = n + 1 := by simp [PR]
theorem PR_at {n k : Nat} (h : k ≤ n) : (PR n)[k]? = some (cho n k) := by
  unfold PR
  rw [List.getElem?_map, List.getElem?_range (by omega)]
  rfl
theorem PR_val {n k u : Nat} (h : (PR n)[k]? = some u) : u = cho n k := by
  have hk := (List.getElem?_eq_some_iff.1 h).1
  rw [PR_len] at hk
  rw [PR_at (by omega)] at h
  injection h with h
  exact h.symm
theorem cho_self (n : Nat) : cho n n = 1 := by
  have := cho_sym (show 0 ≤ n by omega)
  rw [Nat.sub_zero, cho_one] at this
  exact this
theorem takeSnoc {l : List Nat} {i r : Nat} (h : l[i]? = some r) : l.take (i + 1) = l.take i ++ [r] := by
  rw [List.take_add_one, h]; rfl
/-- the call gives a slice of these naturals -/
def GivesNs (us : List Nat) (w : World) (e : Ending) (w' : World) : Prop := ∃ A n c, e = .returned (.slice A n c) ∧ us.length = n ∧ n ≤ c ∧ c ≤ maxLen ∧ NL w' A n us ∧ (∀ b o, A = some ⟨b, o, none⟩ → w.heap.size ≤ b) ∧ Below w.heap.size w w'
theorem asc_store (B : Nat) {W w7 : World} {A : Option Addr} {n c z : Nat} (E : Below W.heap.size W w7) (h : Cn w7 A n c z) (hB : B ≤ W.heap.size) :
    Below W.heap.size W (w7.alloc (.cells #[.slice A n c] 25)) ∧ (w7.alloc (.cells #[.slice A n c] 25)).cell? ⟨w7.heap.size, 0, none⟩ = some (.slice A n c) ∧ Cn (w7.alloc (.cells #[.slice A n c] 25)) A n c z ∧ B ≤ (w7.alloc (.cells #[.slice A n c] 25)).heap.size :=
  have F : Below W.heap.size W (w7.alloc (.cells #[.slice A n c] 25)) := E.alloc E.size _
  ⟨F, (Box.new w7 #[.slice A n c] 25).cell, h.below ((Below.refl _ _).alloc (Nat.le_refl w7.heap.size) _), Nat.le_trans hB F.size⟩

set_option maxHeartbeats 4000000 in
theorem hrow_ok (n : Nat) (hn : n ≤ 300) (w : World) : Calls Tryd.prog 45 #[.int .i64 (n : Int)] w (GivesNs (PR n) w) := by
  obtain ⟨M, hM⟩ : ∃ M, M = 402 := ⟨_, rfl⟩
  have HB := hide (show ∀ r k, r ≤ 300 → cho r k < B9 ^ M from fun r k h => upB (cho_lt r k) (by omega))
  have C1 := hide (show ∀ W, Calls Tryd.prog 42 #[.int .i64 1] W (GivesN 1 W) from fun W => hof_any 1 W (by omega))
  go_enter Tryd.func45, Tryd.ntmps45
  go_wp2_with fail
  with_reducible refine (C1.out _).mono ?_
  intro e w1 h
  obtain ⟨A1, n1, c1, rfl, h1, hb1⟩ := GivesN.cn h
  clear h
  have hbA := hb1
  clear hb1
  go_wp2_with fail
  have hr := NR.one A1 n1 c1 1 (base := w.heap.size) hbA.size h1
  generalize hW : w1.alloc _ = W2 at *
  obtain ⟨hb, -, -⟩ := boxesA1 hW
  clear hW
  have hbA := hbA.trans (hb.mono hbA.size)
  have hs := hbA.size
  clear hb h1
  generalize w1.heap.size = g1 at *
  go_loopw [3, 4, 5, 6] (fun v3 v4 _ _ wr => ∃ r A c, r ≤ n ∧ v4 = .int .i64 ((r + 1 : Nat) : Int) ∧ v3 = .slice A (r + 1) c ∧ NR wr w.heap.size A (r + 1) c (PR r) ∧ Below w.heap.size w wr) (fun _ v4 _ _ _ => n + 1 - (intOf v4).toNat)
  case atStart => exact ⟨0, _, _, by omega, rfl, rfl, hr, hbA⟩
  case round =>
    obtain ⟨r, A, c, hrn, rfl, rfl, hr, hbA⟩ := hrel
    obtain ⟨p, hp⟩ : ∃ p, r + 1 = p := ⟨_, rfl⟩
    rw [hp]
    rw [hp] at hr
    have HP := hide hp
    by_cases hlt : p ≤ n
    · have hp1 : p ≤ 300 := by omega
      clear hp
      go_wp2_with fail
      with_reducible refine (C1.out _).mono ?_
      intro e w3 h
      obtain ⟨A3, n3, c3, rfl, h3, hb3⟩ := GivesN.cn h
      clear h
      have hbA := hbA.trans (hb3.mono hbA.size)
      have hr := hr.below hb3
      have HLT := hide (show ∀ b o, A = some ⟨b, o, none⟩ → b < w3.heap.size from fun b o e => (hr.lt b o e).2)
      have hsz := hbA.size
      clear hb3
      go_wp2_with fail
      have hx := NR.one A3 n3 c3 1 (base := w3.heap.size) (Nat.le_refl _) h3
      generalize hW : w3.alloc _ = W3 at *
      obtain ⟨hb, -, -⟩ := boxesA1 hW
      clear hW
      have HB2 := hide hb.size
      have hbA := hbA.trans (hb.mono hbA.size)
      have hr2 := (hr.below hb).nl
      clear hb hr h3
      have HSZ := hide hsz
      clear hsz
      generalize w3.heap.size = B2 at *
      go_loopw [5, 6] (fun v5 v6 wr => ∃ q A5 c5, q + 1 ≤ p ∧ v6 = .int .i64 ((q + 1 : Nat) : Int) ∧ v5 = .slice A5 (q + 1) c5 ∧ NR wr B2 A5 (q + 1) c5 ((PR p).take (q + 1)) ∧ NL wr A p (PR r) ∧ B2 ≤ wr.heap.size ∧ Below w.heap.size w wr) (fun _ v6 _ => p + 1 - (intOf v6).toNat)
      case atStart => exact ⟨0, _, _, by have := HP.out; omega, rfl, rfl, by rw [takeSnoc (PR_at (n := p) (k := 0) (by omega))]; rw [cho_one]; exact hx, hr2, HB2.out, hbA⟩
      case round =>
        obtain ⟨q, A5, c5, hq, rfl, rfl, hx, hr2, hB2, hbA⟩ := hrel
        obtain ⟨f, hf⟩ : ∃ f, q + 1 = f := ⟨_, rfl⟩
        rw [hf] at hx hq
        rw [hf]
        by_cases hlf : f < p
        · obtain ⟨b, o, u1, S1, m1, d1, rfl, hbl, hu1, k1, x1⟩ := hr2.at_ (j := q) (by omega)
          obtain ⟨u2, S2, m2, d2, -, hu2, k2, x2⟩ := hr2.cell hlf
          obtain rfl := PR_val hu1
          obtain rfl := PR_val hu2
          have he : (f : Int) - 1 = (q : Int) := by omega
          have hw : IntKind.i64.wrap (q : Int) = (q : Int) := IntWalk.i64_in _ (by omega)
          have i1 : (0 : Int) ≤ (q : Int) := by omega
          have i2 : (q : Int) < (p : Int) := by omega
          have i3 : q < p := by omega
          have HZ := hide (show cho r q + cho r f = cho p f from by rw [← hf, ← HP.out]; rfl)
          have HT1 := hide (show (PR p).take (f + 1) = (PR p).take f ++ [cho p f] from takeSnoc (PR_at (by omega)))
          have HF := hide hf
          have hrp : r ≤ 300 := by omega
          clear hu1 hu2 hf hq
          have KF : Hid (∀ w', Below wr.heap.size wr w' → w'.cell? ⟨b, o + q, none⟩ = some (.slice S1 m1 d1) ∧ w'.cell? ⟨b, o + f, none⟩ = some (.slice S2 m2 d2)) := fun w' h => ⟨(h.cell (p := ⟨b, o + q, none⟩) hbl).trans k1, (h.cell (p := ⟨b, o + f, none⟩) hbl).trans k2⟩
          clear k1 k2 hbl
          go_wp2_with fail
          have P0 : Below wr.heap.size wr wr.drew := (Below.refl _ _).drew
          obtain ⟨k1, k2⟩ := KF.out _ P0
          go_region_law (first
            | (go_simp; go_at_call 48; (with_reducible refine (radd_n (L := M) ((x1.below P0).nt (HB.out r q hrp)) ((x2.below P0).nt (HB.out r f hrp)) (by omega) _ HZ.out).mono ?_); rintro e w7 ⟨A7, n7, c7, rfl, r7, l7, m7, hb7⟩; have h7 : Cn w7 A7 n7 c7 (cho p f) := ⟨r7, l7, m7⟩; have E7 := P0.trans (hb7.mono P0.size); obtain ⟨y0, y1⟩ := KF.out _ E7; obtain ⟨F8, cel8, cn8, s8⟩ := asc_store B2 E7 h7 hB2; have row8 := hx.below F8)
            | (refine step_append_nr rfl _ _ 52 rfl 24 Tryd.underlying52 nat_info B2 _ f c5 _ rfl row8 w7.heap.size 0 1 A7 n7 c7 (cho p f) rfl cel8 cn8 (by omega) (f + 1) rfl (by omega) s8 ?_; intro A8 c8 w8 hr8 hG8))
          all_goals
            have G := (Grow.of F8 hB2).trans hG8
            have hr2 := hr2.grow (B := B2) HLT.out G
            have hB8 := Nat.le_trans hB2 G.2.1
            have hbA := hbA.trans (G.1.mono HSZ.out)
            have HR8 := hide hr8
            clear hr8 G hG8 row8 cel8 cn8 s8 F8 E7 P0 KF h7 r7 l7 m7 hb7 y0 y1 k1 k2 x1 x2 hx hB2
            go_wp2_with fail
            go_roundw
            case measure => simp [intOf]; omega
            case rel => exact ⟨f, A8, c8, by omega, by go_num, rfl, by rw [HT1.out]; exact HR8.out, hr2, hB8, hbA⟩
        · obtain rfl : f = p := by omega
          have HF := hide hf
          clear hf hr2
          go_wp2_with fail
          with_reducible refine (C1.out _).mono ?_
          intro e w7 h
          obtain ⟨A7, n7, c7, rfl, h7, hb7⟩ := GivesN.cn h
          clear h
          obtain ⟨F8, cel8, cn8, s8⟩ := asc_store B2 hb7 h7 hB2
          have row8 := hx.below F8
          have hsf := hb7.size
          clear hx
          go_wp2_with (at_builtin; refine wpList_append_nr rfl _ _ 52 rfl 24 Tryd.underlying52 nat_info B2 _ f c5 _ rfl row8 w7.heap.size 0 1 A7 n7 c7 1 rfl cel8 cn8 (by omega) (f + 1) rfl (by omega) s8 ?_; intro A8 c8 w8 hr8 hG8)
          have G := (Grow.of F8 hB2).trans hG8
          have hbA := hbA.trans (G.1.mono HSZ.out)
          have HR8 := hide (show NR w8 w.heap.size A8 (f + 1) c8 (PR f) from by
            have h9 := takeSnoc (PR_at (n := f) (k := f) (Nat.le_refl _))
            rw [List.take_of_length_le (by rw [PR_len]; exact Nat.le_refl _), cho_self] at h9
            rw [h9]
            exact hr8.low HSZ.out)
          clear hr8 G hG8 row8 cel8 cn8 s8 F8 h7 hb7 hB2 hsf
          go_wp2_with fail
          go_roundw
          case measure => simp [intOf]; omega
          case rel => exact ⟨f, A8, c8, by omega, by go_num, rfl, HR8.out, hbA⟩
    · obtain rfl : r = n := by omega
      have hnp : ¬ p ≤ r := hlt
      go_wp2_with fail
      go_ret
      exact ⟨A, p, c, rfl, by rw [PR_len]; exact HP.out, hr.le.1, hr.le.2, hr.nl, fun b o e => (hr.lt b o e).1, hbA⟩

set_option maxHeartbeats 1000000 in
theorem hbin_ok (n k : Nat) (hn : n ≤ 300) (hk : k ≤ n) (w : World) (T : Nat) (hT : cho n k = T) : Calls Tryd.prog 19 #[.int .i64 (n : Int), .int .i64 (k : Int)] w (GivesNE T 0 w) := by
  have HT := hide hT
  have d1 : decide ((n : Int) < 0) = false := by simp
  have d2 : decide ((300 : Int) < (n : Int)) = false := by simp; omega
  have d3 : decide ((k : Int) < 0) = false := by simp
  have d4 : decide ((n : Int) < (k : Int)) = false := by simp; omega
  have d5 : ¬ n < k := by omega
  clear hT
  go_enter Tryd.func19, Tryd.ntmps19
  go_wp2_with fail
  generalize hW : w.alloc _ = W
  obtain ⟨hbW, bR, -⟩ := boxesA1 hW
  clear hW
  refine (hrow_ok n hn _).mono ?_
  rintro e w1 ⟨A, m, c, rfl, hl, -, -, hx, -, hb1⟩
  rw [PR_len] at hl
  have hkm : k < m := by omega
  obtain ⟨b, o, u, S, m1, d6, rfl, hbl, hu, k1, x1⟩ := hx.at_ hkm
  obtain rfl : u = T := (PR_val hu).trans HT.out
  have hbA := hbW.trans (hb1.mono hbW.size)
  have bR := bR.below' hb1
  have i1 : (0 : Int) ≤ (k : Int) := by omega
  have i2 : (k : Int) < (m : Int) := by omega
  have g0 := bR.cell
  have f0 := bR.frozen 0
  have h3 := x1.far (i := 0) bR noInt1 (.slice S m1 d6)
  have b3 := bR.put (.slice S m1 d6)
  clear hu hl hx hb1 x1 bR
  go_wp2_with fail
  have k0 := b3.cell
  refine bodyPost_ret (v := .tuple #[.agg #[.slice S m1 d6], .int .i64 0]) (by simp [results, Tryd.results19, go_sem, k0]) rfl ?_
  exact ⟨S, m1, d6, rfl, h3.1, h3.2.1, h3.2.2, hbA.setCell (Nat.le_refl _) _⟩
theorem hbin_any (n : Nat) (k : Int) (hn : n ≤ 300) (w : World) (T : Nat) (hT : choI n k = T) : Calls Tryd.prog 19 #[.int .i64 (n : Int), .int .i64 k] w (GivesNE T 0 w) := by
  by_cases h : 0 ≤ k ∧ k ≤ n
  · obtain ⟨j, rfl⟩ : ∃ j : Nat, k = (j : Int) := ⟨k.toNat, by omega⟩
    exact hbin_ok n j hn (by omega) w T (by rw [← choI_nat]; exact hT)
  · obtain rfl : T = 0 := by rw [← hT]; unfold choI; rw [if_neg h]
    exact hbin_no n k w hn h
end Go.Proofs.YtjmiaodjapclbaaDoor
