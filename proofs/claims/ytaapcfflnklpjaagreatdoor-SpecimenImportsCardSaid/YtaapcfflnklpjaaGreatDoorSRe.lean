/- The reference's Export. -/
import Derived.Test.YtaapcfflnklpjaaGreatDoorSRs
import Derived.Test.YtaapcfflnklpjaaGreatDoorSN
import Derived.Test.YtaapcfflnklpjaaGreatDoorSD
namespace Go.Proofs.YtaapcfflnklpjaaGreatDoor
open Go Go.RowKit Go.Lib
set_option maxHeartbeats 2000000 in
theorem rexport_err (A : Option Addr) (n c : Nat) (ys : List Spc) (w : World) (hr : SL w A n ys) (h : chk ys ≠ 0) :
    Calls Tryz.prog 33 #[.slice A n c] w (GivesE ys w) := by
  have HR := hide hr
  have HH := hide h
  have hl : chk ys = 6 ∨ chk ys = 1 ∨ chk ys = 8 := by rcases chk_cases ys with h' | h'; exact absurd h' h; exact h'
  obtain ⟨r, hrr⟩ : ∃ r, chk ys = r := ⟨_, rfl⟩
  rw [hrr] at hl
  have H := hide hrr
  clear hr h hrr
  rcases hl with rfl | rfl | rfl
  all_goals
    go_enter Tryz.func33, Tryz.ntmps33
    go_wp2_with fail
    refine (rsort_any A n c ys _ HR.out).mono ?_
    rintro e w1 ⟨A1, n1, d1, zs, rfl, hs, h1, h2, hb⟩
    rw [H.out]
    go_wp2_with fail
    go_ret2
    exact ⟨⟨#[]⟩, by rw [H.out]; rfl, ⟨rfl, fun h => absurd h HH.out, fun _ => rfl⟩, hb⟩
theorem strB_size9 (l : List UInt8) : (strB l).size = l.length := by rw [strB_size]
set_option maxHeartbeats 8000000 in
set_option maxRecDepth 100000 in
theorem rexport_ok (A : Option Addr) (n c : Nat) (ys : List Spc) (w : World) (hT : Lw w) (hr : SL w A n ys) (h : chk ys = 0) :
    Calls Tryz.prog 33 #[.slice A n c] w (GivesE ys w) := by
  have HR := hide hr
  have H := hide h
  have HT := hide hT
  clear hr h hT
  go_enter Tryz.func33, Tryz.ntmps33
  go_wp2_with fail
  refine (rsort_any A n c ys _ HR.out).mono ?_
  rintro e w1 ⟨A1, n1, d1, zs, rfl, hs, h1, h2, hb⟩
  rw [H.out]
  have HS := hide (h1 H.out)
  have HZ := hide (HS.out.chk H.out)
  have hn1 : n1 ≤ 64 := by
    have := (chk_ok.1 HZ.out).1
    rw [hs.1] at this
    exact this
  have HSL := hide hs
  have HB := hide hb
  clear h1 h2 hs hb
  go_wp2_with fail
  go_loopw [6, 7] (fun v i wr => ∃ (k : Nat) (P : ByteArray), v = .string P ∧ i = .int .i64 (k : Int) ∧ k ≤ n1 ∧ Hid (P = strB (expL (zs.take k))) ∧ Hid (Below w1.heap.size w1 wr)) (fun _ i _ => n1 - (RowKit.intOf i).toNat)
  case atStart => exact ⟨0, _, rfl, rfl, Nat.zero_le _, hide rfl, hide (Below.refl _ _)⟩
  case round =>
    obtain ⟨k, P, rfl, rfl, hk, HP, HBR⟩ := hrel
    by_cases hlt : k < n1
    · have d0 : decide ((k : Int) < (n1 : Int)) = true := decide_eq_true (by omega)
      obtain ⟨b, o, y, rfl, hbl, hy, k0, k1, k2, k3, k4, k5, k6⟩ := (HSL.out.keep HBR.out).at_ hlt
      have hv : vS y = true := (chk_ok.1 HZ.out).2.1 y (List.mem_of_getElem? hy)
      have i2 : (0 : Int) ≤ (k : Int) := by omega
      have i3 : (k : Int) < (n1 : Int) := by omega
      obtain ⟨S, hS⟩ : ∃ S, spT y = S := ⟨_, rfl⟩
      have hz := spT_size y
      rw [hS] at hz
      have hpz : P.size ≤ 4000 := by
        rw [HP.out, strB_size]
        have := expL_len (xs := zs.take k) fun x hx => (chk_ok.1 HZ.out).2.1 x (List.mem_of_mem_take hx)
        rw [List.length_take] at this
        omega
      have A1 := fun (W : World) => add_run P S (by omega) W
      have A2 := fun (W : World) => add_run (P ++ S) ⟨#[10]⟩ (by rw [ByteArray.size_append, show (⟨#[10]⟩ : ByteArray).size = 1 from rfl]; omega) W
      have HSS := hide hS
      have HST := hide (show P ++ S ++ ⟨#[10]⟩ = strB (expL (zs.take (k + 1))) by
        rw [List.take_add_one, hy]
        show _ = strB (expL (zs.take k ++ [y]))
        rw [expL_snoc, ← hS, spT_true hv, HP.out, show (⟨#[10]⟩ : ByteArray) = strB [10] from rfl, strB_app, strB_app, List.append_assoc])
      clear hy hv hS hz hpz
      go_wp2_with fail
      clear k0 k1 k2 k3 k4 k5 k6
      refine (rtext9_any y _ (HT.out.below (nxt HB.out HBR.out)) S HSS.out).mono ?_
      rintro e w3 ⟨rfl, hb3⟩
      go_wp2_with fail
      go_roundw
      case rel => exact ⟨k + 1, P ++ S ++ ⟨#[10]⟩, rfl, by go_num, by omega, HST, hide (nxt HBR.out hb3)⟩
      case measure => simp [RowKit.intOf]; omega
    · obtain rfl : k = n1 := by omega
      have d0 : decide ((k : Int) < (k : Int)) = false := decide_eq_false (by omega)
      go_wp2_with fail
      go_ret2
      refine ⟨P, by rw [H.out]; rfl, ⟨rfl, fun _ => ⟨zs, HS.out, ?_⟩, fun h => absurd H.out h⟩, nxt HB.out HBR.out⟩
      rw [HP.out, List.take_of_length_le (by rw [HSL.out.1]; exact Nat.le_refl _)]
theorem rexport_any (A : Option Addr) (n c : Nat) (ys : List Spc) (w : World) (hT : Lw w) (hr : SL w A n ys) :
    Calls Tryz.prog 33 #[.slice A n c] w (GivesE ys w) := by
  by_cases h : chk ys = 0
  · exact rexport_ok A n c ys w hT hr h
  · exact rexport_err A n c ys w hr h
end Go.Proofs.YtaapcfflnklpjaaGreatDoor
