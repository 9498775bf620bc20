/- Ascending lists. -/
import Derived.Test.YtgmdfaamheblmaaPOpen
import Derived.Test.YtgmdfaamheblmaaPRow
import Derived.IntWalk
namespace Go.Proofs.Ytgmdfaamheblmaa
open Go Go.RowKit PM

/-- strictly ascending from y to n - 1 -/
def setB (n : Int) : Int → List Int → Bool
  | _, [] => true
  | y, x :: l => if x < y then false else if n ≤ x then false else setB n (x + 1) l
theorem setB_pw (n : Int) : ∀ (xs : List Int) (y : Int), setB n y xs = true → xs.Pairwise (· < ·) ∧ ∀ x ∈ xs, y ≤ x ∧ x < n
  | [], _, _ => ⟨List.Pairwise.nil, (fun _ h => nomatch h)⟩
  | x :: l, y, h => by
    unfold setB at h
    split at h
    · cases h
    · split at h
      · cases h
      · obtain ⟨h1, h2⟩ := setB_pw n l (x + 1) h
        refine ⟨List.pairwise_cons.2 ⟨fun z hz => by have := (h2 z hz).1; omega, h1⟩, fun z hz => ?_⟩
        rcases List.mem_cons.1 hz with rfl | hz
        · omega
        · have := h2 z hz; omega
theorem drop_atI {l : List Int} {i : Nat} {s : Int} (h : l[i]? = some s) : l.drop i = s :: l.drop (i + 1) := by
  obtain ⟨hj, e⟩ := List.getElem?_eq_some_iff.1 h
  rw [List.drop_eq_getElem_cons hj, e]
theorem IL.drewN {w : World} {A : Option Addr} {n : Nat} {xs : List Int} (h : IL w A n xs) (m : Nat) : IL (w.drewN m) A n xs := h
/-- what is known at place k: y is one more than the number before it -/
def AscAt (xs : List Int) (k : Nat) (y : Int) : Prop := 0 ≤ y ∧ (k = 0 → y = 0) ∧ (∀ f, k = f + 1 → xs[f]? = some (y - 1))
theorem AscAt.next {xs : List Int} {k : Nat} {x : Int} (h0 : ¬ x < 0) (hx : xs[k]? = some x) : AscAt xs (k + 1) (x + 1) := by
  refine ⟨by omega, fun e => by omega, fun f e => ?_⟩
  obtain rfl : f = k := by omega
  rw [Int.add_sub_cancel]
  exact hx
set_option maxHeartbeats 4000000 in
theorem asc_any (n : Nat) (h : Int) (A : Option Addr) (m c : Nat) (xs : List Int) (w : World) (hx : IL w A m xs) (_hn : n ≤ 70) (hh : h + 1 = (n : Int)) (hm : m ≤ maxLen) (r : Bool) (hr : setB n 0 xs = r) :
    Calls Try.prog 50 #[.slice A m c, .int .i64 0, .int .i64 h] w fun e w' => e = .returned (.bool r) ∧ Below w.heap.size w w' := by
  unfold maxLen at hm
  have HX := hide hx
  have HR := hide hr
  have HH := hide hh
  clear hx hr hh
  go_enter Try.func50, Try.ntmps50
  go_wp2_with fail
  go_loopw [7] (fun v7 wr => ∃ (k q : Nat) (y : Int), k ≤ m ∧ v7 = .int .i64 ((k : Nat) : Int) ∧ wr = w.drewN q ∧ AscAt xs k y ∧ Hid (setB n y (xs.drop k) = r)) (fun v7 _ => m - (RowKit.intOf v7).toNat)
  case atStart => exact ⟨0, 0, 0, by omega, rfl, rfl, ⟨by omega, fun _ => rfl, fun f e => by omega⟩, hide (by rw [List.drop_zero]; exact HR.out)⟩
  case round =>
    obtain ⟨k, q, y, hk, rfl, rfl, ⟨y0, yz, yf⟩, HS⟩ := hrel
    have HB : Hid (Below w.heap.size w (w.drewN q)) := below_drewN (Below.refl _ _) q
    have HQ : Hid (∀ z, (w.drewN q).drewN z = w.drewN (q + z)) := fun z => World.drewN_drewN _ _ _
    by_cases hlt : k < m
    · obtain ⟨b, o, x, rfl, hx1, k0⟩ := (HX.out.drewN q).at_ hlt
      have HD := hide (show setB n y (x :: xs.drop (k + 1)) = r from by rw [← drop_atI hx1]; exact HS.out)
      have HX1 := hide hx1
      have i1 : (0 : Int) ≤ (k : Int) := by omega
      have i2 : (k : Int) < (m : Int) := by omega
      have HXX := hide (HX.out.drewN q)
      clear hx1 HS
      generalize w.drewN q = W at *
      by_cases h1 : x < 0
      · have d1 : decide (x < 0) = true := decide_eq_true h1
        obtain rfl : r = false := by rw [← HD.out]; unfold setB; rw [if_pos (by omega)]
        clear h1 yz yf
        go_wp2_with fail
        go_quiet (fail)
        go_wp2_with fail
        go_ret
        exact ⟨rfl, below_drewN HB.out _⟩
      · have d1 : decide (x < 0) = false := decide_eq_false h1
        by_cases h2 : h < x
        · have d2 : decide (h < x) = true := decide_eq_true h2
          obtain rfl : r = false := by
            rw [← HD.out]; unfold setB
            have := HH.out
            split
            · rfl
            · rw [if_pos (by omega)]
          clear h1 h2 yz yf
          go_wp2_with fail
          go_quiet (fail)
          go_wp2_with fail
          go_ret
          exact ⟨rfl, below_drewN HB.out _⟩
        · have d2 : decide (h < x) = false := decide_eq_false h2
          have hxn : ¬ (n : Int) ≤ x := by have := HH.out; omega
          rcases Nat.eq_zero_or_pos k with hk0 | hk0
          · have hy0 := yz hk0
            subst hy0
            have dk : decide (0 < (k : Int)) = false := by simp; omega
            have nk : ¬ 0 < k := by omega
            have H3 := hide (show setB n (x + 1) (xs.drop (k + 1)) = r from by
              rw [← HD.out]; conv => rhs; unfold setB
              rw [if_neg h1, if_neg hxn])
            have HA := hide (show AscAt xs (k + 1) (x + 1) from AscAt.next h1 HX1.out)
            clear h1 h2 hxn yz yf HD hk0
            go_wp2_with fail
            go_quiet (fail)
            go_wp2_with fail
            go_roundw
            case rel => exact ⟨k + 1, _, x + 1, by omega, by go_num, HQ.out _, HA.out, H3⟩
            case measure => simp [RowKit.intOf]; omega
          · obtain ⟨f, hf⟩ : ∃ f, k = f + 1 := ⟨k - 1, by omega⟩
            have hp := yf f hf
            obtain ⟨b', o', p, e, hp1, k1⟩ := HXX.out.at_ (j := f) (by omega)
            injection e with e
            injection e with e1 e2
            subst e1
            subst e2
            rw [hp] at hp1
            injection hp1 with hp1
            have he : (k : Int) - 1 = (f : Int) := by omega
            have hw : IntKind.i64.wrap (f : Int) = (f : Int) := IntWalk.i64_in _ (by omega)
            have i3 : (0 : Int) ≤ (f : Int) := by omega
            have i4 : (f : Int) < (m : Int) := by omega
            have hkp : decide (0 < (k : Int)) = true := by simp; omega
            by_cases h3 : x ≤ p
            · have d3 : decide (x ≤ p) = true := decide_eq_true h3
              obtain rfl : r = false := by rw [← HD.out]; unfold setB; rw [if_pos (by omega)]
              clear h1 h2 h3 hxn hp1 hf hp yz yf
              go_wp2_with fail
              go_quiet (fail)
              go_wp2_with fail
              go_ret
              exact ⟨rfl, below_drewN HB.out _⟩
            · have d3 : decide (x ≤ p) = false := decide_eq_false h3
              have H3 := hide (show setB n (x + 1) (xs.drop (k + 1)) = r from by
                rw [← HD.out]; conv => rhs; unfold setB
                rw [if_neg (by omega), if_neg hxn])
              have HA := hide (show AscAt xs (k + 1) (x + 1) from AscAt.next h1 HX1.out)
              clear h1 h2 h3 hxn hp1 hf hp yz yf HD
              go_wp2_with fail
              go_quiet (fail)
              go_wp2_with fail
              go_roundw
              case rel => exact ⟨k + 1, _, x + 1, by omega, by go_num, HQ.out _, HA.out, H3⟩
              case measure => simp [RowKit.intOf]; omega
    · obtain rfl : k = m := by omega
      obtain rfl : r = true := by
        have := HS.out
        rw [List.drop_of_length_le (by rw [HX.out.len]; exact Nat.le_refl _)] at this
        exact this.symm
      clear yz yf
      go_wp2_with fail
      go_ret
      exact ⟨rfl, HB.out⟩
set_option maxHeartbeats 4000000 in
theorem issub_any (n : Nat) (A : Option Addr) (m c : Nat) (xs : List Int) (w : World) (hx : IL w A m xs) (_hn : n ≤ 70) (hm : m ≤ maxLen) (r : Bool) (hr : setB n 0 xs = r) :
    Calls Try.prog 48 #[.int .i64 (n : Int), .slice A m c] w fun e w' => e = .returned (.bool r) ∧ w = w' := by
  unfold maxLen at hm
  have HX := hide hx
  have HR := hide hr
  clear hx hr
  go_enter Try.func48, Try.ntmps48
  go_wp2_with fail
  go_loop [9] (fun v9 => ∃ (k : Nat) (y : Int), k ≤ m ∧ v9 = .int .i64 ((k : Nat) : Int) ∧ AscAt xs k y ∧ Hid (setB n y (xs.drop k) = r)) (fun v9 => m - (RowKit.intOf v9).toNat)
  case atStart => exact ⟨0, 0, by omega, rfl, ⟨by omega, fun _ => rfl, fun f e => by omega⟩, hide (by rw [List.drop_zero]; exact HR.out)⟩
  case round =>
    obtain ⟨k, y, hk, rfl, ⟨y0, yz, yf⟩, HS⟩ := hrel
    by_cases hlt : k < m
    · obtain ⟨b, o, x, rfl, hx1, k0⟩ := HX.out.at_ hlt
      have HD := hide (show setB n y (x :: xs.drop (k + 1)) = r from by rw [← drop_atI hx1]; exact HS.out)
      have HX1 := hide hx1
      have i1 : (0 : Int) ≤ (k : Int) := by omega
      have i2 : (k : Int) < (m : Int) := by omega
      clear hx1 HS
      by_cases h1 : 0 ≤ x ∧ x < (n : Int)
      · have HV := hide (show decide (0 ≤ x ∧ x < (n : Int)) = true from decide_eq_true h1)
        rcases Nat.eq_zero_or_pos k with hk0 | hk0
        · have hy0 := yz hk0
          subst hy0
          have dk : decide (0 < (k : Int)) = false := by simp; omega
          have nk : ¬ 0 < k := by omega
          have H3 := hide (show setB n (x + 1) (xs.drop (k + 1)) = r from by
            rw [← HD.out]; conv => rhs; unfold setB
            rw [if_neg (by omega), if_neg (by omega)])
          have HA := hide (show AscAt xs (k + 1) (x + 1) from AscAt.next (by omega) HX1.out)
          clear h1 yz yf HD hk0
          go_wp2_with fail
          refine (isv_any _ x _ true HV.out).mono ?_
          rintro e w' ⟨rfl, rfl⟩
          go_wp2_with fail
          go_round
          case rel => exact ⟨k + 1, x + 1, by omega, by go_num, HA.out, H3⟩
          case measure => simp [RowKit.intOf]; omega
        · obtain ⟨f, hf⟩ : ∃ f, k = f + 1 := ⟨k - 1, by omega⟩
          have hp := yf f hf
          obtain ⟨b', o', p, e, hp1, k1⟩ := HX.out.at_ (j := f) (by omega)
          injection e with e
          injection e with e1 e2
          subst e1
          subst e2
          rw [hp] at hp1
          injection hp1 with hp1
          have he : (k : Int) - 1 = (f : Int) := by omega
          have i3 : (0 : Int) ≤ (f : Int) := by omega
          have i4 : (f : Int) < (m : Int) := by omega
          have hkp : decide (0 < (k : Int)) = true := by simp; omega
          by_cases h3 : x ≤ p
          · have d3 : decide (x ≤ p) = true := decide_eq_true h3
            obtain rfl : r = false := by rw [← HD.out]; unfold setB; rw [if_pos (by omega)]
            clear h1 h3 hp1 hf hp yz yf
            go_wp2_with fail
            refine (isv_any _ x _ true HV.out).mono ?_
            rintro e w' ⟨rfl, rfl⟩
            go_wp2_with fail
            go_ret
            exact ⟨rfl, rfl⟩
          · have d3 : decide (x ≤ p) = false := decide_eq_false h3
            have H3 := hide (show setB n (x + 1) (xs.drop (k + 1)) = r from by
              rw [← HD.out]; conv => rhs; unfold setB
              rw [if_neg (by omega), if_neg (by omega)])
            have HA := hide (show AscAt xs (k + 1) (x + 1) from AscAt.next (by omega) HX1.out)
            clear h1 h3 hp1 hf hp yz yf HD
            go_wp2_with fail
            refine (isv_any _ x _ true HV.out).mono ?_
            rintro e w' ⟨rfl, rfl⟩
            go_wp2_with fail
            go_round
            case rel => exact ⟨k + 1, x + 1, by omega, by go_num, HA.out, H3⟩
            case measure => simp [RowKit.intOf]; omega
      · have HV := hide (show decide (0 ≤ x ∧ x < (n : Int)) = false from decide_eq_false h1)
        obtain rfl : r = false := by
          rw [← HD.out]; unfold setB
          by_cases h2 : x < y
          · rw [if_pos h2]
          · rw [if_neg h2, if_pos (by omega)]
        clear h1 yz yf
        go_wp2_with fail
        refine (isv_any _ x _ false HV.out).mono ?_
        rintro e w' ⟨rfl, rfl⟩
        go_wp2_with fail
        go_ret
        exact ⟨rfl, rfl⟩
    · obtain rfl : k = m := by omega
      obtain rfl : r = true := by
        rw [← HS.out, List.drop_of_length_le (by rw [HX.out.len]; exact Nat.le_refl _)]; rfl
      go_wp2_with fail
      go_ret
      exact ⟨rfl, rfl⟩
end Go.Proofs.Ytgmdfaamheblmaa
