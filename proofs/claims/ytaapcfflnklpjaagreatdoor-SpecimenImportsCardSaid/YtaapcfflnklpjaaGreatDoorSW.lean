/- cmp.Or; specimen.Union. -/
import Derived.Test.YtaapcfflnklpjaaGreatDoorSU
namespace Go.Proofs.YtaapcfflnklpjaaGreatDoor
open Go Go.RowKit Go.Lib
set_option maxHeartbeats 1000000 in
theorem or_two (g : Nat) (x y : Int) (t : TypeId) (w : World) (hg : Box w g #[.int .i64 x, .int .i64 y] t) (r : Int) (hr : (if x = 0 then y else x) = r) :
    Calls Tryz.prog 65 #[.slice (some ⟨g, 0, none⟩) 2 2] w fun e w' => e = .returned (.int .i64 r) ∧ w = w' := by
  have k0 : w.cell? ⟨g, 0, none⟩ = some (.int .i64 x) := hg.at_ 0
  have k1 : w.cell? ⟨g, 1, none⟩ = some (.int .i64 y) := hg.at_ 1
  by_cases hx : x = 0
  · rw [if_pos hx] at hr
    subst hr
    subst hx
    by_cases hy : y = 0
    · subst hy
      go_enter Tryz.func65, Tryz.ntmps65
      go_wp2_with fail
      refine wp_loop_rounds 3 ?_
      rw [rounds_succ]
      go_wp2_with fail
      rw [rounds_succ]
      go_wp2_with fail
      rw [rounds_succ]
      go_wp2_with fail
      go_ret
      exact ⟨rfl, rfl⟩
    · have e0 : (y != 0) = true := by simp [hy]
      go_enter Tryz.func65, Tryz.ntmps65
      go_wp2_with fail
      refine wp_loop_rounds 3 ?_
      rw [rounds_succ]
      go_wp2_with fail
      rw [rounds_succ]
      go_wp2_with fail
      go_ret
      exact ⟨rfl, rfl⟩
  · rw [if_neg hx] at hr
    subst hr
    have e0 : (x != 0) = true := by simp [hx]
    go_enter Tryz.func65, Tryz.ntmps65
    go_wp2_with fail
    refine wp_loop_rounds 3 ?_
    rw [rounds_succ]
    go_wp2_with fail
    go_ret
    exact ⟨rfl, rfl⟩
/-- what Union gives -/
def GivesU9 (a b : List Spc) (w : World) (e : Ending) (w' : World) : Prop :=
  ∃ A n c zs, e = .returned (.tuple #[.slice A n c, .int .i64 (uE a b)]) ∧ SL w' A n zs ∧ UR a b zs (uE a b) ∧ Below w.heap.size w w'
theorem uE_a {a b : List Spc} (h : chk a ≠ 0) : uE a b = chk a := by unfold uE; rw [if_neg h]
theorem uE_b {a b : List Spc} (ha : chk a = 0) (h : chk b ≠ 0) : uE a b = chk b := by unfold uE; rw [if_pos ha, if_neg h]
theorem or_chk (a b : List Spc) (h : ¬(chk a = 0 ∧ chk b = 0)) : (if chk a = 0 then chk b else chk a) = uE a b ∧ (uE a b = 6 ∨ uE a b = 1 ∨ uE a b = 8) := by
  by_cases ha : chk a = 0
  · have hb : chk b ≠ 0 := fun hb => h ⟨ha, hb⟩
    rw [if_pos ha, uE_b ha hb]
    refine ⟨rfl, ?_⟩
    rcases chk_cases b with h1 | h1
    · exact absurd h1 hb
    · exact h1
  · rw [if_neg ha, uE_a ha]
    refine ⟨rfl, ?_⟩
    rcases chk_cases a with h1 | h1
    · exact absurd h1 ha
    · exact h1
set_option maxHeartbeats 4000000 in
theorem union_err (A : Option Addr) (n c : Nat) (a : List Spc) (A' : Option Addr) (m d : Nat) (b : List Spc) (w : World) (hx : SL w A n a) (hy : SL w A' m b) (h : ¬(chk a = 0 ∧ chk b = 0)) :
    Calls Tryz.prog 30 #[.slice A n c, .slice A' m d] w (GivesU9 a b w) := by
  have HX := hide hx
  have HY := hide hy
  obtain ⟨h1, h2⟩ := or_chk a b h
  obtain ⟨r, hr⟩ : ∃ r, uE a b = r := ⟨_, rfl⟩
  rw [hr] at h1 h2
  have H1 := hide h1
  have HR := hide hr
  have HN := hide (show r ≠ 0 by omega)
  obtain ⟨ea, hea⟩ : ∃ r, chk a = r := ⟨_, rfl⟩
  obtain ⟨eb, heb⟩ : ∃ r, chk b = r := ⟨_, rfl⟩
  rw [hea, heb] at H1
  have HA := hide hea
  have HB := hide heb
  clear hx hy h h1 hr hea heb
  rcases h2 with rfl | rfl | rfl
  all_goals
    go_enter Tryz.func30, Tryz.ntmps30
    go_wp2_with fail
    refine (check_any A n c a _ HX.out ea HA.out).mono ?_
    rintro e w1 ⟨rfl, hb1⟩
    go_wp2_with fail
    refine (check_any A' m d b _ (HY.out.keep hb1) eb HB.out).mono ?_
    rintro e w2 ⟨rfl, hb2⟩
    go_wp2_with fail
    refine (or_two _ ea eb _ _ (Box.new _ _ _) _ H1.out).mono ?_
    rintro e w3 ⟨rfl, rfl⟩
    go_wp2_with fail
    go_ret2
    exact ⟨none, 0, 0, [], by rw [HR.out]; rfl, SL.nil_ _ _, ⟨rfl, fun h => absurd (HR.out.symm.trans h) HN.out, fun _ => rfl⟩, nxt (nxt hb1 hb2) ((Below.refl _ _).alloc (Nat.le_refl _) _)⟩
set_option maxHeartbeats 4000000 in
set_option maxRecDepth 100000 in
theorem union_ok (A : Option Addr) (n c : Nat) (a : List Spc) (A' : Option Addr) (m d : Nat) (b : List Spc) (w : World) (hx : SL w A n a) (hy : SL w A' m b) (ha : chk a = 0) (hb : chk b = 0) :
    Calls Tryz.prog 30 #[.slice A n c, .slice A' m d] w (GivesU9 a b w) := by
  have HX := hide hx
  have HY := hide hy
  have HA := hide ha
  have HB := hide hb
  have hn : n ≤ 64 := by rw [← hx.1]; exact (chk_ok.1 ha).1
  have hm : m ≤ 64 := by rw [← hy.1]; exact (chk_ok.1 hb).1
  have HLN := hide (show a.length = n from hx.1)
  have HLM := hide (show b.length = m from hy.1)
  clear hx hy ha hb
  go_enter Tryz.func30, Tryz.ntmps30
  go_wp2_with fail
  refine (check_any A n c a _ HX.out 0 HA.out).mono ?_
  rintro e w1 ⟨rfl, hb1⟩
  go_wp2_with fail
  refine (check_any A' m d b _ (HY.out.keep hb1) 0 HB.out).mono ?_
  rintro e w2 ⟨rfl, hb2⟩
  have E2 := nxt hb1 hb2
  clear hb1 hb2
  go_wp2_with fail
  refine (or_two _ 0 0 _ _ (Box.new _ _ _) 0 rfl).mono ?_
  rintro e w3 ⟨rfl, rfl⟩
  replace E2 := nxt E2 ((Below.refl _ _).alloc (Nat.le_refl _) (.cells #[.int .i64 0, .int .i64 0] 27))
  go_wp2_with fail
  have hz4 := World.size_alloc w2 (.cells #[.int .i64 0, .int .i64 0] 27)
  generalize World.alloc w2 _ = w4 at *
  have bx := Box.new w4 #[.slice A n c, .slice A' m d] 31
  rw [hz4] at bx
  have E3 := nxt E2 ((Below.refl _ _).alloc (Nat.le_refl _) (.cells #[.slice A n c, .slice A' m d] 31))
  refine (concat_any _ A n c a A' m d b _ _ bx (HX.out.keep E3) (HY.out.keep E3) (by omega) (by omega)).mono ?_
  rintro e w5 ⟨v, rfl, ho, hb5⟩
  obtain ⟨A5, c5, rfl, hs5, -⟩ := ho.form
  obtain ⟨N, hN0⟩ : ∃ N, (a ++ b).length = N := ⟨_, rfl⟩
  rw [hN0] at hs5 ⊢
  have E5 := nxt E3 hb5
  clear E2 E3 hb5 ho
  go_wp2_with fail
  refine (byId_any A5 _ c5 _ _ hs5 (by rw [← hN0, List.length_append, HLN.out, HLM.out]; omega)).mono ?_
  rintro e w6 ⟨A6, d6, zs, rfl, hp, hw, hs6, ho6, hb6⟩
  have hN : N ≤ 1000 := by rw [← hN0, List.length_append, HLN.out, HLM.out]; omega
  have E6 := nxt E5 hb6
  have hz6 := hb6.size
  go_wp2_with fail
  refine (compact_any A6 _ d6 zs _ w5.heap.size hs6 ho6 hN).mono ?_
  rintro e w7 ⟨A7, c7, rfl, hs7, hb7⟩
  have hcl := cmpct_len zs
  rw [hp.length_eq, hN0] at hcl
  have E7 : Below w.heap.size w w7 := E6.trans (hb7.mono E5.size)
  have HU := hide (union_prog HA.out HB.out hp hw)
  have HS := hide hs7
  have HCL := hide (show (cmpct zs).length ≤ 1000 by omega)
  clear hs5 hs6 ho6 hb6 hb7 E5 E6 hp hw hs7 hz6 hN hcl
  obtain ⟨q, hq⟩ : ∃ q, (cmpct zs).length = q := ⟨_, rfl⟩
  rw [hq] at HS HCL HU ⊢
  clear hq
  rcases HU.out with ⟨h1, h2⟩ | ⟨h1, h2⟩
  · have HR := hide h2
    have HAP := hide h1
    clear h1 h2
    go_wp2_with fail
    refine (rep_any A7 q c7 (cmpct zs) _ HS.out HCL.out true (.inl ⟨rfl, HAP.out⟩)).mono ?_
    rintro e w8 ⟨rfl, hb8⟩
    go_wp2_with fail
    go_ret2
    exact ⟨none, 0, 0, [], by rw [← HR.out.1]; rfl, SL.nil_ _ _, by rw [← HR.out.1]; exact HR.out, nxt E7 hb8⟩
  · rcases h2 with ⟨h3, h2⟩ | ⟨h3, h2⟩
    · have d0 : decide ((64 : Int) < (q : Int)) = true := decide_eq_true (by omega)
      have HR := hide h2
      have HAP := hide h1
      clear h1 h2
      go_wp2_with fail
      refine (rep_any A7 q c7 (cmpct zs) _ HS.out HCL.out false (.inr ⟨rfl, HAP.out⟩)).mono ?_
      rintro e w8 ⟨rfl, hb8⟩
      go_wp2_with fail
      go_ret2
      exact ⟨none, 0, 0, [], by rw [← HR.out.1]; rfl, SL.nil_ _ _, by rw [← HR.out.1]; exact HR.out, nxt E7 hb8⟩
    · have d0 : decide ((64 : Int) < (q : Int)) = false := decide_eq_false (by omega)
      have HR := hide h2
      have HAP := hide h1
      clear h1 h2
      go_wp2_with fail
      refine (rep_any A7 q c7 (cmpct zs) _ HS.out HCL.out false (.inr ⟨rfl, HAP.out⟩)).mono ?_
      rintro e w8 ⟨rfl, hb8⟩
      go_wp2_with fail
      go_ret2
      exact ⟨A7, q, c7, cmpct zs, by rw [← HR.out.1]; rfl, HS.out.keep hb8, by rw [← HR.out.1]; exact HR.out, nxt E7 hb8⟩
theorem union_any (A : Option Addr) (n c : Nat) (a : List Spc) (A' : Option Addr) (m d : Nat) (b : List Spc) (w : World) (hx : SL w A n a) (hy : SL w A' m b) :
    Calls Tryz.prog 30 #[.slice A n c, .slice A' m d] w (GivesU9 a b w) := by
  by_cases h : chk a = 0 ∧ chk b = 0
  · exact union_ok A n c a A' m d b w hx hy h.1 h.2
  · exact union_err A n c a A' m d b w hx hy h
end Go.Proofs.YtaapcfflnklpjaaGreatDoor
