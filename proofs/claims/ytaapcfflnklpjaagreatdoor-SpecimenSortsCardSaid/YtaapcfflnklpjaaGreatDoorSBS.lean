/- The body of SpecimenSorts. -/
import Derived.Test.YtaapcfflnklpjaaGreatDoorSAw
import Derived.Test.YtaapcfflnklpjaaGreatDoorSRs
import Derived.Test.YtaapcfflnklpjaaGreatDoorSQ
namespace Go.Proofs.YtaapcfflnklpjaaGreatDoor
open Go Go.RowKit Go.Lib
theorem str_lt : ∀ {zs : List Spc} (_ : Str zs) (p q : Nat) (x y : Spc), p < q → zs[p]? = some x → zs[q]? = some y → x.i < y.i
  | [], _, p, q, x, y, _, hx, _ => by simp at hx
  | z :: r, h, 0, 0, x, y, hl, _, _ => by omega
  | z :: r, h, 0, q + 1, x, y, _, hx, hy => by
    simp at hx hy
    subst hx
    exact h.1 y (List.mem_of_getElem? hy)
  | z :: r, h, p + 1, 0, x, y, hl, _, _ => by omega
  | z :: r, h, p + 1, q + 1, x, y, hl, hx, hy => str_lt h.2 p q x y (by omega) (by simpa using hx) (by simpa using hy)
theorem sort_same {ys zs us : List Spc} (h1 : chk ys = 0 → Srt ys zs) (h2 : chk ys ≠ 0 → zs = []) (k1 : chk ys = 0 → Srt ys us) (k2 : chk ys ≠ 0 → us = []) : zs = us ∧ zs.length ≤ 64 ∧ Str zs ∧ (chk ys = 0 → zs.length = ys.length) := by
  by_cases h : chk ys = 0
  · exact ⟨(h1 h).uniq (k1 h), by rw [(h1 h).len]; exact (chk_ok.1 h).1, (h1 h).2, fun _ => (h1 h).len⟩
  · rw [h2 h, k2 h]
    exact ⟨rfl, Nat.zero_le _, trivial, fun h' => absurd h' h⟩
set_option maxHeartbeats 2000000 in
theorem sorts_big (A : Option Addr) (n c : Nat) (w : World) (hT : Lw w) (h : decide ((100 : Int) < (n : Int)) = true) :
    Calls Tryz.prog 5 #[.slice A n c] w fun e w' => e = .returned (.bool true) ∧ Below w.heap.size w w' := by
  have HT := hide hT
  clear hT
  go_enter Tryz.func5, Tryz.ntmps5
  go_wp2_with fail
  refine (awake_yes _ HT.out).mono ?_
  rintro e w1 ⟨rfl, hb1⟩
  go_wp2_with fail
  refine (awake_yes _ (HT.out.below hb1)).mono ?_
  rintro e w2 ⟨rfl, hb2⟩
  go_wp2_with fail
  go_ret
  exact ⟨rfl, nxt hb1 hb2⟩
set_option maxHeartbeats 8000000 in
theorem sorts_small (A : Option Addr) (n c : Nat) (ys : List Spc) (w : World) (hT : Lw w) (hr : SL w A n ys) (h : decide ((100 : Int) < (n : Int)) = false) :
    Calls Tryz.prog 5 #[.slice A n c] w fun e w' => e = .returned (.bool true) ∧ Below w.heap.size w w' := by
  have HT := hide hT
  have HR := hide hr
  have hn : n ≤ 100 := by have := of_decide_eq_false h; omega
  clear hT hr
  obtain ⟨r, hrr⟩ : ∃ r, chk ys = r := ⟨_, rfl⟩
  have H := hide hrr
  clear hrr
  go_enter Tryz.func5, Tryz.ntmps5
  go_wp2_with fail
  refine (awake_yes _ HT.out).mono ?_
  rintro e w1 ⟨rfl, hb1⟩
  have HB := hide hb1
  clear hb1
  go_wp2_with (at_builtin; refine wpList_app_s _ rfl _ _ rfl w1.heap.size _ [] rfl (OwnS.empty_ w1 (Nat.le_refl _)) A n c ys rfl (HR.out.keep (HB.out.alloc HB.out.size _)) (by simp; omega) (by simp) ?_; intro v3 w3 hrow3 hbel3; rw [List.nil_append] at hrow3; obtain ⟨A3, c3, rfl, hs3, hc3⟩ := hrow3.form; have HS3 := hide hs3; have HB3 := hide (nxt HB.out (((Below.refl w1.heap.size w1).alloc (Nat.le_refl _) (.cells #[] 23)).trans hbel3)); clear hrow3 hbel3 hc3 hs3; obtain ⟨m, hm⟩ : ∃ m, ys.length = m := ⟨_, rfl⟩; have hmn : m = n := hm.symm.trans HR.out.1; rw [hm] at HS3 ⊢; clear hm; subst hmn)
  refine (sort_any A3 m c3 ys _ HS3.out).mono ?_
  rintro e w4 ⟨A4, n4, d4, zs, rfl, hs4, h1, h2, hb4⟩
  rw [H.out]
  have HS4 := hide hs4
  have HZ1 := hide h1
  have HZ2 := hide h2
  have HK3 := hide (HS3.out.keep hb4)
  have HB4 := hide (nxt HB3.out hb4)
  clear hs4 h1 h2 hb4 HS3
  go_wp2_with fail
  refine (rsort_any A m c ys _ (HR.out.keep HB4.out)).mono ?_
  rintro e w5 ⟨A5, n5, d5, us, rfl, hs5, h1, h2, hb5⟩
  rw [H.out]
  have HE := hide (sort_same HZ1.out HZ2.out h1 h2)
  have HS5 := hide hs5
  have HK4 := hide (HS4.out.keep hb5)
  have HL3 := hide (HK3.out.keep hb5)
  have HB5 := hide (nxt HB4.out hb5)
  have HN4 := hide (show n4 ≤ 64 by have := HE.out.2.1; rw [HS4.out.1] at this; exact this)
  clear hs5 h1 h2 hb5 HK3 HS4 HZ1 HZ2
  go_wp2_with fail
  refine (sames_any A4 n4 d4 zs A5 n5 d5 us _ HK4.out HS5.out (Nat.le_trans HN4.out (by decide)) true (decide_eq_true HE.out.1)).mono ?_
  rintro e w6 ⟨rfl, hb6⟩
  have HM4 := hide (HK4.out.keep hb6)
  have HM3 := hide (HL3.out.keep hb6)
  have HB6 := hide (nxt HB5.out hb6)
  clear hb6 HK4 HL3 HS5
  go_wp2_with fail
  refine (check_any A3 m c3 ys _ HM3.out r H.out).mono ?_
  rintro e w7 ⟨rfl, hb7⟩
  have HP4 := hide (HM4.out.keep hb7)
  have HP3 := hide (HM3.out.keep hb7)
  have HB7 := hide (nxt HB6.out hb7)
  clear hb7 HM4 HM3
  go_wp2_with fail
  refine (sames_any A3 m c3 ys A m c ys _ HP3.out (HR.out.keep HB7.out) (by omega) true (decide_eq_true rfl)).mono ?_
  rintro e w8 ⟨rfl, hb8⟩
  have HQ4 := hide (HP4.out.keep hb8)
  have HB8 := hide (nxt HB7.out hb8)
  clear hb8 HP4 HP3 HB HB3 HB4 HB5 HB6 HB7
  go_wp2_with fail
  go_loopw [8] (fun a wr => ∃ k : Nat, a = .int .i64 (k : Int) ∧ 1 ≤ k ∧ (k ≤ n4 ∨ k = 1) ∧ Hid (Below w8.heap.size w8 wr)) (fun a _ => n4 - (RowKit.intOf a).toNat)
  case atStart => exact ⟨1, rfl, Nat.le_refl _, .inr rfl, hide (Below.refl _ _)⟩
  case round =>
    obtain ⟨k, rfl, hk1, hk, HI⟩ := hrel
    by_cases hlt : k < n4
    · have hs := HQ4.out.keep HI.out
      obtain ⟨y, hy⟩ : ∃ y, zs[k]? = some y := ⟨_, List.getElem?_eq_getElem (by rw [hs.1]; exact hlt)⟩
      obtain ⟨x, hx⟩ : ∃ y, zs[k - 1]? = some y := ⟨_, List.getElem?_eq_getElem (by rw [hs.1]; omega)⟩
      obtain ⟨b, o, rfl, hbl⟩ := hs.base (by omega)
      have k0 := (hs.cells_ hy).1
      have m0 := (hs.cells_ hx).1
      have hxy := str_lt HE.out.2.2.1 (k - 1) k x y (by omega) hx hy
      have d1 : decide ((k : Int) < (n4 : Int)) = true := decide_eq_true (by omega)
      have d2 : decide (y.i ≤ x.i) = false := decide_eq_false (by omega)
      have i0 : (0 : Int) ≤ (k : Int) := by omega
      have i5 : (k : Int) < (n4 : Int) := by omega
      have i1 : IntKind.i64.wrap ((k : Int) - 1) = (k : Int) - 1 := IntWalk.i64_in _ (by have := HN4.out; omega)
      have i2 : (0 : Int) ≤ (k : Int) - 1 := by omega
      have i3 : (k : Int) - 1 < (n4 : Int) := by omega
      have i4 : ((k : Int) - 1).toNat = k - 1 := by omega
      have hn4 := HN4.out
      clear hs hx hy hxy hbl
      go_wp2_with fail
      go_region
      all_goals
        go_wp2_with fail
        go_roundw
        case rel => exact ⟨k + 1, by go_num, by omega, .inl (by omega), by first | exact hide HI.out.drew | exact HI⟩
        case measure => simp [RowKit.intOf]; omega
    · have d1 : decide ((k : Int) < (n4 : Int)) = false := decide_eq_false (by omega)
      by_cases h0 : r = 0
      · have hnm : n4 = m := by
          have := HE.out.2.2.2 (H.out.trans h0)
          rw [HQ4.out.1, HR.out.1] at this
          exact this
        subst h0
        subst hnm
        go_wp2_with fail
        go_ret
        exact ⟨rfl, nxt HB8.out HI.out⟩
      · have e0 : (r != 0) = true := by simp [h0]
        clear h0
        go_wp2_with fail
        go_ret
        exact ⟨rfl, nxt HB8.out HI.out⟩
theorem sorts_all (A : Option Addr) (n c : Nat) (ys : List Spc) (w : World) (hT : Lw w) (hr : SL w A n ys) :
    Calls Tryz.prog 5 #[.slice A n c] w fun e w' => e = .returned (.bool true) ∧ Below w.heap.size w w' := by
  by_cases h : (100 : Int) < (n : Int)
  · exact sorts_big A n c w hT (decide_eq_true h)
  · exact sorts_small A n c ys w hT hr (decide_eq_false h)
end Go.Proofs.YtaapcfflnklpjaaGreatDoor
