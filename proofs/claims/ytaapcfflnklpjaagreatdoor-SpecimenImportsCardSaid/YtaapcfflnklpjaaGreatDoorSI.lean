/- specimen.Check, Sort, Find. -/
import Derived.Test.YtaapcfflnklpjaaGreatDoorSH
import Derived.Deep.RegionHeld3
namespace Go.Proofs.YtaapcfflnklpjaaGreatDoor
open Go Go.RowKit Go.Lib
theorem apart_at : ∀ {l : List Spc}, Apart l ↔ ∀ (j : Nat) (x y : Spc), l[j]? = some x → l[j + 1]? = some y → x.i ≠ y.i
  | [] => ⟨fun _ j x y h => by simp at h, fun _ => trivial⟩
  | [z] => ⟨fun _ j x y _ h => by simp at h, fun _ => trivial⟩
  | z :: u :: r => by
    constructor
    · rintro ⟨h1, h2⟩ j x y hx hy
      cases j with
      | zero => simp at hx hy; subst hx; subst hy; exact h1
      | succ j => exact apart_at.1 h2 j x y (by simpa using hx) (by simpa using hy)
    · intro h
      exact ⟨h 0 z u rfl rfl, apart_at.2 fun j x y hx hy => h (j + 1) x y (by simpa using hx) (by simpa using hy)⟩
set_option maxHeartbeats 2000000 in
theorem rep_any (A : Option Addr) (n c : Nat) (zs : List Spc) (w : World) (hr : SL w A n zs) (hm : n ≤ 1000) (v : Bool) (hv : (v = true ∧ ¬Apart zs) ∨ (v = false ∧ Apart zs)) :
    Calls Tryz.prog 58 #[.slice A n c] w fun e w' => e = .returned (.bool v) ∧ Below w.heap.size w w' := by
  have HV := hide hv
  have HR := hide hr
  clear hv
  go_enter Tryz.func58, Tryz.ntmps58
  go_wp2_with fail
  go_loopw [3] (fun i wr => ∃ k : Nat, i = .int .i64 (k : Int) ∧ 1 ≤ k ∧ (k ≤ n ∨ k = 1) ∧ Hid (Below w.heap.size w wr) ∧ Hid (∀ (j : Nat) (x y : Spc), j + 1 < k → zs[j]? = some x → zs[j + 1]? = some y → x.i ≠ y.i)) (fun i _ => n - (RowKit.intOf i).toNat)
  case atStart => exact ⟨1, rfl, by omega, .inr rfl, hide (Below.refl _ _), hide fun j x y h => absurd h (by omega)⟩
  case round =>
    obtain ⟨k, rfl, h1, hk, HB, HA⟩ := hrel
    by_cases hlt : k < n
    · have hs := HR.out.keep HB.out
      obtain ⟨b, o, y, rfl, hl, hy, hc⟩ := hs.at_ hlt
      obtain ⟨b', o', x, e, _, hx, hc'⟩ := hs.at_ (show k - 1 < n by omega)
      injection e with e
      injection e with e1 e2
      subst e1; subst e2
      have c0 := hc.1
      have c1 := hc'.1
      have HX := hide hx
      have HY := hide hy
      have d0 : decide ((k : Int) < (n : Int)) = true := decide_eq_true (by omega)
      have i1 : IntKind.i64.wrap ((k : Int) - 1) = (k : Int) - 1 := IntWalk.i64_in _ (by omega)
      have i2 : (0 : Int) ≤ (k : Int) - 1 := by omega
      have i3 : (k : Int) - 1 < (n : Int) := by omega
      have i4 : ((k : Int) - 1).toNat = k - 1 := by omega
      clear hs hc hc' hx hy hr
      by_cases he : y.i = x.i
      · have e0 : (y.i == x.i) = true := beq_iff_eq.2 he
        have HE := hide he
        clear he
        go_wp2_with fail
        go_region
        all_goals
          go_wp2_with fail
          go_ret
          refine ⟨?_, by first | exact HB.out.drew | exact HB.out⟩
          rcases HV.out with ⟨h, _⟩ | ⟨_, h⟩
          · rw [h]; rfl
          · exact absurd HE.out.symm (apart_at.1 h (k - 1) x y HX.out (by rw [show k - 1 + 1 = k by omega]; exact HY.out))
      · have e0 : (y.i == x.i) = false := beq_eq_false_iff_ne.2 he
        have HE := hide he
        clear he
        go_wp2_with fail
        go_region
        all_goals
          go_wp2_with fail
          go_roundw
          case rel =>
            refine ⟨k + 1, by go_num, by omega, .inl (by omega), hide (by first | exact HB.out.drew | exact HB.out), hide fun j x' y' hj hx hy => ?_⟩
            by_cases hjk : j + 1 < k
            · exact HA.out j x' y' hjk hx hy
            · obtain rfl : j = k - 1 := by omega
              rw [HX.out] at hx
              rw [show k - 1 + 1 = k by omega, HY.out] at hy
              injection hx with hx
              injection hy with hy
              subst hx; subst hy
              exact fun e => HE.out e.symm
          case measure => simp [RowKit.intOf]; omega
    · have d0 : decide ((k : Int) < (n : Int)) = false := decide_eq_false (by omega)
      have HH := hide (show Apart zs from apart_at.2 fun j x y hx hy => HA.out j x y (by
        have := (List.getElem?_eq_some_iff.1 hy).1
        have := HR.out.1
        omega) hx hy)
      go_wp2_with fail
      go_ret
      refine ⟨?_, HB.out⟩
      rcases HV.out with ⟨_, h⟩ | ⟨h, _⟩
      · exact absurd HH.out h
      · rw [h]; rfl
theorem badS_true {l : List Spc} (h : badS l = true) (h6 : l.length ≤ 64) : chk l = 1 := by
  unfold chk
  rw [if_neg (by omega), if_pos (show (l.any fun x => !vS x) = true from h)]
theorem badS_false {l : List Spc} (h : badS l = false) (h6 : l.length ≤ 64) : (Nod l → chk l = 0) ∧ (¬Nod l → chk l = 8) := by
  unfold chk
  have h2 : ¬ (l.any fun x => !vS x) = true := by
    unfold badS at h
    rw [h]
    decide
  rw [if_neg (by omega), if_neg h2]
  exact ⟨fun h => if_pos h, fun h => if_neg h⟩
set_option maxHeartbeats 1000000 in
theorem check_full (A : Option Addr) (n c : Nat) (w : World) (h : 64 < n) :
    Calls Tryz.prog 22 #[.slice A n c] w fun e w' => e = .returned (.int .i64 6) ∧ Below w.heap.size w w' := by
  have d0 : decide ((64 : Int) < (n : Int)) = true := decide_eq_true (by omega)
  go_enter Tryz.func22, Tryz.ntmps22
  go_wp2_with fail
  go_ret
  exact ⟨rfl, Below.refl _ _⟩
set_option maxHeartbeats 1000000 in
theorem check_bad (A : Option Addr) (n c : Nat) (ys : List Spc) (w : World) (hr : SL w A n ys) (h : n ≤ 64) (hb : badS ys = true) :
    Calls Tryz.prog 22 #[.slice A n c] w fun e w' => e = .returned (.int .i64 1) ∧ Below w.heap.size w w' := by
  have d0 : decide ((64 : Int) < (n : Int)) = false := decide_eq_false (by omega)
  have HB := hide hb
  have HR := hide hr
  clear hb hr
  go_enter Tryz.func22, Tryz.ntmps22
  go_wp2_with fail
  refine (allv_any A n c ys _ HR.out (by unfold maxLen; omega) true HB.out).mono ?_
  rintro e w1 ⟨rfl, hb⟩
  go_wp2_with fail
  go_ret
  exact ⟨rfl, hb⟩
set_option maxHeartbeats 1000000 in
theorem check_rest (A : Option Addr) (n c : Nat) (ys : List Spc) (w : World) (hr : SL w A n ys) (h : n ≤ 64) (hb : badS ys = false) (v : Bool) (r : Int) (hv : (v = true ∧ ¬Nod ys ∧ r = 8) ∨ (v = false ∧ Nod ys ∧ r = 0)) :
    Calls Tryz.prog 22 #[.slice A n c] w fun e w' => e = .returned (.int .i64 r) ∧ Below w.heap.size w w' := by
  have d0 : decide ((64 : Int) < (n : Int)) = false := decide_eq_false (by omega)
  have HB := hide hb
  have HR := hide hr
  have HV := hide hv
  clear hb hr hv
  go_enter Tryz.func22, Tryz.ntmps22
  go_wp2_with fail
  refine (allv_any A n c ys _ HR.out (by unfold maxLen; omega) false HB.out).mono ?_
  rintro e w1 ⟨rfl, hb⟩
  go_wp2_with fail
  refine (byId_any A n c ys _ (HR.out.keep hb) (by omega)).mono ?_
  rintro e w2 ⟨A2, d, zs, rfl, hp, hw, hs, -, hb2⟩
  have hap := apart_iff hw
  have E2 := nxt hb hb2
  have HVV := hide (show (v = true ∧ ¬Apart zs) ∨ (v = false ∧ Apart zs) by
    rcases HV.out with ⟨h1, h2, _⟩ | ⟨h1, h2, _⟩
    · exact .inl ⟨h1, fun h => h2 (Nod.perm (hap.1 h) hp)⟩
    · exact .inr ⟨h1, hap.2 (h2.perm hp.symm)⟩)
  have HS := hide hs
  clear hp hw hs hb hb2 hap
  go_wp2_with fail
  refine (rep_any A2 n d zs _ HS.out (by omega) v HVV.out).mono ?_
  rintro e w3 ⟨rfl, hb3⟩
  have E3 := nxt E2 hb3
  rcases HV.out with ⟨rfl, _, rfl⟩ | ⟨rfl, _, rfl⟩
  · go_wp2_with fail
    go_ret
    exact ⟨rfl, E3⟩
  · go_wp2_with fail
    go_ret
    exact ⟨rfl, E3⟩
theorem check_any (A : Option Addr) (n c : Nat) (ys : List Spc) (w : World) (hr : SL w A n ys) (r : Int) (h : chk ys = r) :
    Calls Tryz.prog 22 #[.slice A n c] w fun e w' => e = .returned (.int .i64 r) ∧ Below w.heap.size w w' := by
  subst h
  have hl := hr.1
  by_cases h6 : 64 < n
  · have : chk ys = 6 := by unfold chk; rw [if_pos (by omega)]
    rw [this]
    exact check_full A n c w h6
  · cases hb : badS ys
    · by_cases hn : Nod ys
      · rw [(badS_false hb (by omega)).1 hn]
        exact check_rest A n c ys w hr (by omega) hb false 0 (.inr ⟨rfl, hn, rfl⟩)
      · rw [(badS_false hb (by omega)).2 hn]
        exact check_rest A n c ys w hr (by omega) hb true 8 (.inl ⟨rfl, hn, rfl⟩)
    · rw [badS_true hb (by omega)]
      exact check_bad A n c ys w hr (by omega) hb
/-- what Sort gives -/
def GivesSort (ys : List Spc) (w : World) (e : Ending) (w' : World) : Prop :=
  ∃ A n d zs, e = .returned (.tuple #[.slice A n d, .int .i64 (chk ys)]) ∧ SL w' A n zs ∧ (chk ys = 0 → Srt ys zs) ∧ (chk ys ≠ 0 → zs = []) ∧ Below w.heap.size w w'
set_option maxHeartbeats 1000000 in
theorem sort_bad (A : Option Addr) (n c : Nat) (ys : List Spc) (w : World) (hr : SL w A n ys) (r : Int) (h : chk ys = r) (hl : r = 6 ∨ r = 1 ∨ r = 8) :
    Calls Tryz.prog 19 #[.slice A n c] w (GivesSort ys w) := by
  have H := hide h
  have HR := hide hr
  have HN := hide (show r ≠ 0 by omega)
  clear h hr
  rcases hl with rfl | rfl | rfl
  all_goals
    go_enter Tryz.func19, Tryz.ntmps19
    go_wp2_with fail
    refine (check_any A n c ys _ HR.out _ H.out).mono ?_
    rintro e w1 ⟨rfl, hb⟩
    go_wp2_with fail
    go_ret2
    exact ⟨none, 0, 0, [], by rw [H.out]; rfl, SL.nil_ _ _, fun h => absurd (H.out.symm.trans h) HN.out, fun _ => rfl, hb⟩
set_option maxHeartbeats 1000000 in
theorem sort_ok (A : Option Addr) (n c : Nat) (ys : List Spc) (w : World) (hr : SL w A n ys) (h : chk ys = 0) :
    Calls Tryz.prog 19 #[.slice A n c] w (GivesSort ys w) := by
  have H := hide h
  have HR := hide hr
  have hn : n ≤ 64 := by rw [← hr.1]; exact (chk_ok.1 h).1
  clear h hr
  go_enter Tryz.func19, Tryz.ntmps19
  go_wp2_with fail
  refine (check_any A n c ys _ HR.out 0 H.out).mono ?_
  rintro e w1 ⟨rfl, hb⟩
  go_wp2_with fail
  refine (byId_any A n c ys _ (HR.out.keep hb) (by omega)).mono ?_
  rintro e w2 ⟨A2, d, zs, rfl, hp, hw, hs, -, hb2⟩
  go_wp2_with fail
  go_ret2
  exact ⟨A2, n, d, zs, by rw [H.out]; rfl, hs, fun _ => srt_of hp hw (chk_ok.1 H.out).2.2, fun h => absurd H.out h, nxt hb hb2⟩
theorem sort_any (A : Option Addr) (n c : Nat) (ys : List Spc) (w : World) (hr : SL w A n ys) :
    Calls Tryz.prog 19 #[.slice A n c] w (GivesSort ys w) := by
  rcases chk_cases ys with h | h | h | h
  · exact sort_ok A n c ys w hr h
  · exact sort_bad A n c ys w hr 6 h (.inl rfl)
  · exact sort_bad A n c ys w hr 1 h (.inr (.inl rfl))
  · exact sort_bad A n c ys w hr 8 h (.inr (.inr rfl))
end Go.Proofs.YtaapcfflnklpjaaGreatDoor
