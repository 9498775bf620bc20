/- The law of differences: the walk. -/
import Derived.Test.YthkgiobemfnpmaaDoorDivides
import Derived.Test.YthkgiobemfnpmaaDoorMatches
import Derived.Test.YthkgiobemfnpmaaDoorRSub
import Derived.Deep.CutRange
import Derived.Deep.RegionWith
namespace Go.Proofs.YthkgiobemfnpmaaDoor
open Go Go.RowKit

theorem lenT {w : World} {A : Option Addr} {n u k : Nat} (h : RL w .u32 A n (dig B9 u)) (hu : u < B9 ^ k) (hk : k ≤ 100000) : n ≤ 100000 := by
  have := len_le h.len hu
  omega
section
variable (A : Option Addr) (n c : Nat) (xs : List Nat) (A' : Option Addr) (m d : Nat) (ys : List Nat) (w : World) (hr : RL w .u32 A n xs) (hn : n ≤ c) (hc : c ≤ maxLen) (hN : n ≤ 100000) (hx : ∀ x ∈ xs, x < 4294967296)
    (hr' : RL w .u32 A' m ys) (hm : m ≤ d) (hd : d ≤ maxLen) (hM : m ≤ 100000) (hy : ∀ x ∈ ys, x < 4294967296) (u v : Nat) (hu : val B9 xs = u) (hv : val B9 ys = v) (T : Nat) (r : Int) (hT : subU u v = T) (hR : subE u v = r)
include hr hn hc hN hx hr' hm hd hM hy hu hv hT hR
theorem sub_g : Calls Tryd.prog 26 #[.agg #[.slice A n c], .agg #[.slice A' m d]] w (GivesNE T r w) := by
  have := sub_any A n c xs A' m d ys w hr hn hc (by omega) hx hr' hm hd (by omega) hy
  rw [hu, hv, hT, hR] at this
  exact this
theorem rsub_g : Calls Tryd.prog 27 #[.agg #[.slice A n c], .agg #[.slice A' m d]] w (GivesNE T r w) := by
  by_cases h : u < v
  · rw [subE, if_pos h] at hR
    obtain rfl : T = 0 := by unfold subU at hT; omega
    subst hR
    exact rsub_err A n c xs A' m d ys w hr hn hc hN hx hr' hm hd hM hy u v hu hv h
  · rw [subE, if_neg h] at hR
    subst hR
    exact rsub_ok A n c xs A' m d ys w hr hn hc hN hx hr' hm hd hM hy u v hu hv (by omega) T hT
end
/-- a natural in a box of its own, and no error -/
def Back (W : World) (u : Nat) (s9 s10 : Value) (wx : World) : Prop :=
  ∃ (g : Nat) (A : Option Addr) (n c : Nat), s9 = .pointer (some ⟨g, 0, none⟩) ∧ s10 = .int .i64 0 ∧ Box wx g #[.slice A n c] 24 ∧ RL wx .u32 A n (dig B9 u) ∧ n ≤ c ∧ c ≤ maxLen ∧ Below W.heap.size W wx
theorem back_new {W w7 : World} {u : Nat} {A : Option Addr} {n c : Nat} (E : Below W.heap.size W w7) (h : RL w7 .u32 A n (dig B9 u)) (hn : n ≤ c) (hc : c ≤ maxLen) :
    Back W u (.pointer (some ⟨w7.heap.size, 0, none⟩)) (.int .i64 0) (w7.alloc (.cells #[.slice A n c] 24)) :=
  ⟨w7.heap.size, A, n, c, rfl, rfl, Box.new _ _ _, h.below ((Below.refl _ _).alloc (Nat.le_refl _) _), hn, hc, E.alloc E.size _⟩
theorem back_old {W v w7 : World} {u : Nat} {A S : Option Addr} {n c k l : Nat} (E : Below W.heap.size W v) (hx : Below (v.alloc (.cells #[.slice S k l] 24)).heap.size (v.alloc (.cells #[.slice S k l] 24)) w7) (h : RL w7 .u32 A n (dig B9 u)) (hn : n ≤ c) (hc : c ≤ maxLen) :
    Back W u (.pointer (some ⟨v.heap.size, 0, none⟩)) (.int .i64 0) (w7.setCell ⟨v.heap.size, 0, none⟩ (.slice A n c)) := by
  have b : Box w7 v.heap.size #[.slice S k l] 24 := (Box.new v _ _).below' hx
  exact ⟨v.heap.size, A, n, c, rfl, rfl, b.put _, h.put b _, hn, hc, ((E.alloc E.size _).trans (hx.mono (by simp; have := E.size; omega))).setCell E.size _⟩

set_option maxHeartbeats 4000000 in
set_option maxRecDepth 100000 in
theorem subtracts_yes (A : Option Addr) (n c : Nat) (xs : List Nat) (A' : Option Addr) (m d : Nat) (ys : List Nat) (w : World)
    (hr : RL w .u32 A n xs) (hn : n ≤ c) (hc : c ≤ maxLen) (hx : ∀ x ∈ xs, x < 4294967296) (hr' : RL w .u32 A' m ys) (hm : m ≤ d) (hd : d ≤ maxLen) (hy : ∀ x ∈ ys, x < 4294967296) (hT : Tab w) (hN12 : n ≤ 12) (hM12 : m ≤ 12) :
    Calls Tryd.prog 4 #[.agg #[.slice A n c], .agg #[.slice A' m d]] w fun e w' => e = .returned (.bool true) ∧ Below w.heap.size w w' := by
  have HX := hide hx
  have HY := hide hy
  have HU := hide (valB hr hN12 hx)
  have HV := hide (valB hr' hM12 hy)
  obtain ⟨T, hTT⟩ : ∃ T, subU (val B9 xs) (val B9 ys) = T := ⟨_, rfl⟩
  obtain ⟨r, hR⟩ : ∃ r, subE (val B9 xs) (val B9 ys) = r := ⟨_, rfl⟩
  have HB := hide (show T < B9 ^ 13 from by
    have h1 := valB hr hN12 hx
    rw [← hTT]
    unfold subU
    omega)
  have HTT := hide hTT
  have HR := hide hR
  clear hx hy hR hTT
  go_enter Tryd.func4, Tryd.ntmps4
  go_wp2_with fail
  generalize hW : (w.alloc _).alloc _ = W
  obtain ⟨hbW, b0, b1, -⟩ := boxes2 hW
  clear hW
  have lt0 := b0.lt
  have lt1 := b1.lt
  have KS : Hid (∀ w', Below W.heap.size W w' → w'.cell? ⟨w.heap.size, 0, none⟩ = some (.slice A n c) ∧ w'.cell? ⟨w.heap.size + 1, 0, none⟩ = some (.slice A' m d)) := fun w' h => ⟨(b0.below h lt0).cell, (b1.below h lt1).cell⟩
  clear b0 lt0 b1 lt1
  have hrW := hr.below hbW
  have hr'W := hr'.below hbW
  have T0 := hT.below hbW
  clear hT hr hr'
  refine (awake_any _ T0).mono ?_
  rintro e w1 ⟨rfl, D1⟩
  obtain ⟨k1, k2⟩ := KS.out w1 D1
  go_wp2_with fail
  refine (few_yes A n c A' m d _ hN12 hM12).mono ?_
  rintro e w2 ⟨rfl, hx⟩
  have D2 := D1.trans (hx.mono D1.size)
  clear hx k1 k2
  obtain ⟨k1, k2⟩ := KS.out w2 D2
  go_wp2_with fail
  refine (sub_g A n c xs A' m d ys _ (hrW.below D2) hn hc (by omega) HX.out (hr'W.below D2) hm hd (by omega) HY.out _ _ rfl rfl T r HTT.out HR.out).mono ?_
  rintro e w3 ⟨A3, n3, c3, rfl, h3, hn3, hc3, hx⟩
  have D3 := D2.trans (hx.mono D2.size)
  clear hx k1 k2 D1 D2
  obtain ⟨k1, k2⟩ := KS.out (w3.alloc (.cells #[.slice A3 n3 c3] 24)) (D3.alloc D3.size _)
  go_wp2_with fail
  generalize hW : w3.alloc _ = W3
  obtain ⟨hb3, bd, -⟩ := boxes1 hW
  clear hW
  have D4 := D3.trans (hb3.mono D3.size)
  refine (rsub_g A n c xs A' m d ys _ (hrW.below D4) hn hc (by omega) HX.out (hr'W.below D4) hm hd (by omega) HY.out _ _ rfl rfl T r HTT.out HR.out).mono ?_
  rintro e w5 ⟨A5, n5, c5, rfl, h5, hn5, hc5, hx⟩
  have D5 := D4.trans (hx.mono D4.size)
  have h3 := (h3.below hb3).below hx
  have bd := bd.below' hx
  clear hx k1 k2 D3 D4 hb3
  go_wp2_with fail
  generalize hW : w5.alloc _ = W5
  obtain ⟨hb5, bw, -⟩ := boxes1 hW
  clear hW
  have D6 := D5.trans (hb5.mono D5.size)
  have h3 := h3.below hb5
  have h5 := h5.below hb5
  have bd := bd.below' hb5
  have ltd := bd.lt
  have ltw := bw.lt
  have hs := hrW.below D6
  have hs' := hr'W.below D6
  have B6 := hbW.trans (D6.mono hbW.size)
  have KS2 : Hid (∀ w', Below W5.heap.size W5 w' → w'.cell? ⟨w.heap.size, 0, none⟩ = some (.slice A n c) ∧ w'.cell? ⟨w.heap.size + 1, 0, none⟩ = some (.slice A' m d) ∧ w'.cell? ⟨w3.heap.size, 0, none⟩ = some (.slice A3 n3 c3) ∧ w'.cell? ⟨w5.heap.size, 0, none⟩ = some (.slice A5 n5 c5)) := fun w' h => by
    obtain ⟨q1, q2⟩ := KS.out w' (D6.trans (h.mono D6.size))
    exact ⟨q1, q2, (bd.below h ltd).cell, (bw.below h ltw).cell⟩
  have KS1 : Hid (∀ w', Below W5.heap.size W5 w' → w'.cell? ⟨w.heap.size, 0, none⟩ = some (.slice A n c) ∧ w'.cell? ⟨w.heap.size + 1, 0, none⟩ = some (.slice A' m d)) := fun w' h => KS.out w' (D6.trans (h.mono D6.size))
  have HSUB := hide (show subU (val B9 xs + val B9 ys) (val B9 ys) = val B9 xs ∧ subE (val B9 xs + val B9 ys) (val B9 ys) = 0 from by
    unfold subU subE
    rw [if_neg (by omega)]
    exact ⟨by omega, rfl⟩)
  clear hb5 bd bw ltd ltw hrW hr'W KS D5 D6 hbW
  go_cut [9, 10] from 32 to 39 (fun s9 s10 wx => Back W5 (val B9 xs) s9 s10 wx)
  case first =>
    have hM1 : m ≤ 100000 := by omega
    have SC : ∀ (v wx : World) (x : Value), Below W5.heap.size W5 v → Below W5.heap.size W5 wx → Below W5.heap.size W5 (wx.setCell ⟨v.heap.size, 0, none⟩ x) := fun v wx x h1 h2 => h2.setCell h1.size x
    have SD : ∀ (wx : World) (x : Value), Below W5.heap.size W5 wx → Below W5.heap.size W5 (wx.setCell ⟨W5.heap.size, 0, none⟩ x) := fun wx x h2 => h2.setCell (Nat.le_refl _) x
    have SA : ∀ (wx : World) (o : Obj), Below W5.heap.size W5 wx → Below W5.heap.size W5 (wx.alloc o) := fun wx o h => h.alloc h.size o
    have P0 : Below W5.heap.size W5 W5.drew := (Below.refl _ _).drew
    have P1 : Below W5.heap.size W5 ((W5.alloc (.cells #[.slice none 0 0] 24)).drew) := ((Below.refl _ _).alloc (Nat.le_refl _) _).drew
    have P2 : Below W5.heap.size W5 (W5.drew.alloc (.cells #[.slice none 0 0] 24)) := ((Below.refl _ _).drew).alloc (Nat.le_refl _) _
    have bx1 : Box ((W5.alloc (.cells #[.slice none 0 0] 24)).drew) W5.heap.size #[.slice none 0 0] 24 := Box.new W5 _ _
    go_region_held3 (fun w' => w'.cell? ⟨w.heap.size, 0, none⟩ = some (.slice A n c) ∧ w'.cell? ⟨w.heap.size + 1, 0, none⟩ = some (.slice A' m d))
      (first | exact KS1.out _ G7 | exact KS1.out _ G8 | exact KS1.out _ G9 | exact KS1.out _ Ga | exact KS1.out _ E7 | exact KS1.out _ G6 | exact KS1.out _ E6 | exact KS1.out _ P0 | exact KS1.out _ P1 | exact KS1.out _ P2)
      (first
        | (go_at_call_of 16 (Value.slice A n c); (with_reducible refine (add_g A n c xs A' m d ys _ (hs.below P0) hn hc (by omega) HX.out (hs'.below P0) hm hd (by omega) HY.out _ _ _ rfl rfl rfl).mono ?_); rintro e w6 ⟨A6, n6, c6, rfl, h6, hn6, hc6, hx6⟩; have E6 : Below W5.heap.size W5 w6 := P0.trans (hx6.mono P0.size); have l6 := lenT h6 (addB HU.out HV.out) (by decide); have G6 := SA w6 (.cells #[.slice none 0 0] 24) E6; have bx6 : ∀ w', Below w6.heap.size w6 w' → 0 = 0 ∧ 0 = 0 := fun _ _ => ⟨rfl, rfl⟩)
        | (go_at_call_of 16 (Value.slice A n c); (with_reducible refine (add_g A n c xs A' m d ys _ (hs.below P1) hn hc (by omega) HX.out (hs'.below P1) hm hd (by omega) HY.out _ _ _ rfl rfl rfl).mono ?_); rintro e w6 ⟨A6, n6, c6, rfl, h6, hn6, hc6, hx6⟩; have E6 : Below W5.heap.size W5 w6 := P1.trans (hx6.mono P1.size); have l6 := lenT h6 (addB HU.out HV.out) (by decide); have G6 := SA w6 (.cells #[.slice none 0 0] 24) E6; have bx6 : ∀ w', Below w6.heap.size w6 w' → w'.cell? ⟨W5.heap.size, 0, none⟩ = some (Value.slice none 0 0) ∧ w'.frozen? ⟨W5.heap.size, 0, none⟩ = false := fun w' h => ⟨((bx1.below' hx6).below' h).cell, ((bx1.below' hx6).below' h).frozen 0⟩)
        | (go_at_call_of 16 (Value.slice A n c); (with_reducible refine (add_g A n c xs A' m d ys _ (hs.below P2) hn hc (by omega) HX.out (hs'.below P2) hm hd (by omega) HY.out _ _ _ rfl rfl rfl).mono ?_); rintro e w6 ⟨A6, n6, c6, rfl, h6, hn6, hc6, hx6⟩; have E6 : Below W5.heap.size W5 w6 := P2.trans (hx6.mono P2.size); have l6 := lenT h6 (addB HU.out HV.out) (by decide); have G6 := SA w6 (.cells #[.slice none 0 0] 24) E6; have bx6 : ∀ w', Below w6.heap.size w6 w' → w'.cell? ⟨W5.heap.size, 0, none⟩ = some (Value.slice none 0 0) ∧ w'.frozen? ⟨W5.heap.size, 0, none⟩ = false := fun w' h => ⟨((bx1.below' hx6).below' h).cell, ((bx1.below' hx6).below' h).frozen 0⟩)
        | (go_at_call_of 26 (Value.slice A6 n6 c6); (with_reducible refine (sub_g A6 n6 c6 (dig B9 (val B9 xs + val B9 ys)) A' m d ys _ h6 hn6 hc6 l6 (dig_u32 _) (hs'.below E6) hm hd hM1 HY.out _ _ (vd _) rfl _ _ HSUB.out.1 HSUB.out.2).mono ?_); rintro e w7 ⟨A7, n7, c7, rfl, h7, hn7, hc7, hx7⟩; have E7 : Below W5.heap.size W5 w7 := E6.trans (hx7.mono E6.size); have G7 := SC w6 w7 (.slice A7 n7 c7) E6 E7; have G8 := SD w7 (.slice A7 n7 c7) E7; have Ga := SA w7 (.cells #[.slice A7 n7 c7] 24) E7; have G9 := SA w7 (.cells #[.slice none 0 0] 24) E7; obtain ⟨q7, f7⟩ := bx6 w7 hx7)
        | (go_at_call_of 26 (Value.slice A6 n6 c6); (with_reducible refine (sub_g A6 n6 c6 (dig B9 (val B9 xs + val B9 ys)) A' m d ys _ (h6.below ((Below.refl _ _).alloc (Nat.le_refl _) _)) hn6 hc6 l6 (dig_u32 _) (hs'.below G6) hm hd hM1 HY.out _ _ (vd _) rfl _ _ HSUB.out.1 HSUB.out.2).mono ?_); rintro e w7 ⟨A7, n7, c7, rfl, h7, hn7, hc7, hx7⟩; have E7 : Below W5.heap.size W5 w7 := (E6.alloc E6.size _).trans (hx7.mono (E6.alloc E6.size _).size); have G7 := SC w6 w7 (.slice A7 n7 c7) E6 E7; have G8 := SD w7 (.slice A7 n7 c7) E7; have Ga := SA w7 (.cells #[.slice A7 n7 c7] 24) E7; have G9 := SA w7 (.cells #[.slice none 0 0] 24) E7; have bx7 : Box w7 w6.heap.size #[.slice none 0 0] 24 := (Box.new w6 #[.slice none 0 0] 24).below' hx7; have f7 := bx7.frozen 0; have q7 := bx7.cell))
    all_goals
      go_wp2_with fail
      go_meet
      first
        | exact back_new E7 h7 hn7 hc7
        | exact back_old E6 hx7 h7 hn7 hc7
        | exact back_old (v := W5) (Below.refl _ _) ((((Below.refl _ _).drew).trans (hx6.mono (Nat.le_refl _))).trans (hx7.mono hx6.size)) h7 hn7 hc7
  case rest =>
  obtain ⟨g, A9, n9, c9, rfl, rfl, b9, h9, hn9, hc9, E9⟩ := hcut
  have lt9 := b9.lt
  have h3 := h3.below E9
  have h5 := h5.below E9
  have hs := hs.below E9
  have B9' := B6.trans (E9.mono B6.size)
  have KS3 : Hid (∀ w', Below wc.heap.size wc w' → w'.cell? ⟨w.heap.size, 0, none⟩ = some (.slice A n c) ∧ w'.cell? ⟨w.heap.size + 1, 0, none⟩ = some (.slice A' m d) ∧ w'.cell? ⟨w3.heap.size, 0, none⟩ = some (.slice A3 n3 c3) ∧ w'.cell? ⟨w5.heap.size, 0, none⟩ = some (.slice A5 n5 c5) ∧ w'.cell? ⟨g, 0, none⟩ = some (.slice A9 n9 c9)) := fun w' h => by
    obtain ⟨q1, q2, q3, q4⟩ := KS2.out w' (E9.trans (h.mono E9.size))
    exact ⟨q1, q2, q3, q4, (b9.below h lt9).cell⟩
  clear KS1 KS2 b9 lt9 E9 B6 hs'
  have l3 := lenB1 h3 HB.out
  go_wp2_with fail
  go_region_held3 (fun w' => w'.cell? ⟨w.heap.size, 0, none⟩ = some (.slice A n c) ∧ w'.cell? ⟨w.heap.size + 1, 0, none⟩ = some (.slice A' m d) ∧ w'.cell? ⟨w3.heap.size, 0, none⟩ = some (.slice A3 n3 c3) ∧ w'.cell? ⟨w5.heap.size, 0, none⟩ = some (.slice A5 n5 c5) ∧ w'.cell? ⟨g, 0, none⟩ = some (.slice A9 n9 c9))
    (first | exact KS3.out _ E12 | exact KS3.out _ E11 | exact KS3.out _ E10 | exact KS3.out _ ((Below.refl _ _).drew))
    (first
      | (go_at_call_of 15 (Value.slice A3 n3 c3); (with_reducible refine (same_d A3 n3 c3 T A5 n5 c5 _ (h3.below ((Below.refl _ _).drew)) (by omega) (h5.below ((Below.refl _ _).drew))).mono ?_); rintro e w10 ⟨rfl, hx10⟩; have E10 : Below wc.heap.size wc w10 := ((Below.refl _ _).drew).trans (hx10.mono (Nat.le_refl _)))
      | (go_at_call_of 22 (Value.slice A n c); (with_reducible refine (norm_g A n c xs _ (hs.below E10) hn hc (by omega) HX.out (val B9 xs) rfl).mono ?_); rintro e w11 ⟨A11, n11, c11, rfl, h11, hn11, hc11, hx11⟩; have E11 : Below wc.heap.size wc w11 := E10.trans (hx11.mono E10.size))
      | (go_at_call_of 15 (Value.slice A9 n9 c9); (with_reducible refine (same_d A9 n9 c9 (val B9 xs) A11 n11 c11 _ ((h9.below E11)) (lenB h9 HU.out (by decide)) h11).mono ?_); rintro e w12 ⟨rfl, hx12⟩; have E12 : Below wc.heap.size wc w12 := E11.trans (hx12.mono E11.size)))
  have B := B9'.trans (E12.mono B9'.size)
  clear E10 E11 E12 hx10 hx11 hx12 B9' KS3
  go_wp2
  go_ret
  exact ⟨rfl, B⟩
set_option maxHeartbeats 4000000 in
set_option maxRecDepth 100000 in
theorem subtracts_no (A : Option Addr) (n c : Nat) (A' : Option Addr) (m d : Nat) (w : World) (hT : Tab w) (h : ¬(n ≤ 12 ∧ m ≤ 12)) :
    Calls Tryd.prog 4 #[.agg #[.slice A n c], .agg #[.slice A' m d]] w fun e w' => e = .returned (.bool true) ∧ Below w.heap.size w w' := by
  have HH := hide h
  clear h
  go_enter Tryd.func4, Tryd.ntmps4
  go_wp2_with fail
  generalize hW : (w.alloc _).alloc _ = W
  obtain ⟨hbW, b0, b1, -⟩ := boxes2 hW
  clear hW
  have lt0 := b0.lt
  have lt1 := b1.lt
  have KS : Hid (∀ w', Below W.heap.size W w' → w'.cell? ⟨w.heap.size, 0, none⟩ = some (.slice A n c) ∧ w'.cell? ⟨w.heap.size + 1, 0, none⟩ = some (.slice A' m d)) := fun w' h => ⟨(b0.below h lt0).cell, (b1.below h lt1).cell⟩
  clear b0 lt0 b1 lt1
  have T0 := hT.below hbW
  refine (awake_any _ T0).mono ?_
  rintro e w1 ⟨rfl, D1⟩
  have T1 := T0.below D1
  obtain ⟨k1, k2⟩ := KS.out w1 D1
  go_wp2_with fail
  refine (few_no A n c A' m d _ HH.out).mono ?_
  rintro e w2 ⟨rfl, hx⟩
  have D2 := D1.trans (hx.mono D1.size)
  have T2 := T1.below hx
  clear hx k1 k2
  go_wp2_with fail
  refine (awake_any _ T2).mono ?_
  rintro e w4 ⟨rfl, hx⟩
  have D4 := D2.trans (hx.mono D2.size)
  clear hx
  go_wp2
  have B := hbW.trans (D4.mono hbW.size)
  go_ret
  exact ⟨rfl, B⟩
end Go.Proofs.YthkgiobemfnpmaaDoor
