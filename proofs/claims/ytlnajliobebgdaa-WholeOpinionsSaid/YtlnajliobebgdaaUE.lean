/- ValidChanges, of both sides. -/
import Derived.Test.YtlnajliobebgdaaUD
import Derived.Test.YtlnajliobebgdaaHand
namespace Go.Proofs.Ytlnajliobebgdaa
open Go Go.RowKit Go.Lib
theorem one_next {l : List Chg} {k : Nat} {x : Chg} (h : l[k]? = some x) : (∀ z ∈ l.take (k + 1), One z) ↔ (∀ z ∈ l.take k, One z) ∧ One x := by
  rw [take_next h]
  constructor
  · intro h2
    exact ⟨fun z hz => h2 z (List.mem_append.2 (.inl hz)), h2 x (List.mem_append.2 (.inr (List.mem_singleton.2 rfl)))⟩
  · rintro ⟨h1, h2⟩ z hz
    rcases List.mem_append.1 hz with h | h
    · exact h1 z h
    · rw [List.mem_singleton] at h; rw [h]; exact h2
set_option maxHeartbeats 4000000 in
theorem cidx_any (A : Option Addr) (n c : Nat) (l : List Chg) (w : World) (hl : SL eC w A n l) (hn : n ≤ 1000) :
    Calls Try.prog 43 #[.slice A n c, .func (.func 31) #[] #[]] w fun e w' => ∃ v : Int, e = .returned (.int .i64 v) ∧ decide (0 ≤ v) = !decide (∀ x ∈ l, One x) ∧ Gr w w' := by
  have HS := hide hl
  clear hl
  go_enter Try.func43, Try.ntmps43
  go_wp2_with fail
  go_loopw [8] (fun i wr => ∃ k : Nat, i = .int .i64 (k : Int) ∧ k ≤ n ∧ Hid (∀ x ∈ l.take k, One x) ∧ Hid (Gr w wr)) (fun i _ => n - (RowKit.intOf i).toNat)
  case atStart => exact ⟨0, rfl, Nat.zero_le _, hide (fun x hx => by cases hx), hide (Gr.refl _)⟩
  case round =>
    obtain ⟨k, rfl, hk, HN, HG⟩ := hrel
    by_cases hlt : k < n
    · obtain ⟨b, o, y, rfl, hl, hy, hcy⟩ := (HS.out.keep HG.out.below).atC hlt
      obtain ⟨m0, m1, m2, m3, m4⟩ := hcy
      have HY := hide hy
      have d0 : decide ((k : Int) < (n : Int)) = true := decide_eq_true (by omega)
      have a1 : (0 : Int) ≤ (k : Int) := by omega
      have a2 : (k : Int) < (n : Int) := by omega
      clear hy
      go_wp2_with fail
      by_cases hb : One y
      · refine (inval_any y wr false (by rw [decide_eq_true hb]; rfl)).mono ?_
        rintro e w1 ⟨rfl, g1⟩
        have G1 := hide (HG.out.trans g1)
        have HB := hide hb
        clear g1 hb
        go_wp2_with fail
        go_roundw
        case rel => exact ⟨k + 1, by go_num, by omega, hide ((one_next HY.out).2 ⟨HN.out, HB.out⟩), G1⟩
        case measure => simp [RowKit.intOf]; omega
      · refine (inval_any y wr true (by rw [decide_eq_false hb]; rfl)).mono ?_
        rintro e w1 ⟨rfl, g1⟩
        have G1 := hide (HG.out.trans g1)
        have HB := hide hb
        clear g1 hb
        go_wp2_with fail
        go_ret
        refine ⟨(k : Int), rfl, ?_, G1.out⟩
        rw [decide_eq_false (show ¬ ∀ x ∈ l, One x from fun h => HB.out (h y (List.mem_of_getElem? HY.out)))]
        exact decide_eq_true (by omega)
    · obtain rfl : k = n := by omega
      have d0 : decide ((k : Int) < (k : Int)) = false := decide_eq_false (by omega)
      go_wp2_with fail
      go_ret
      refine ⟨-1, rfl, ?_, HG.out⟩
      have h1 := HN.out
      rw [List.take_of_length_le (by rw [HS.out.1]; exact Nat.le_refl _)] at h1
      rw [decide_eq_true h1]
      exact decide_eq_false (by decide)
set_option maxHeartbeats 2000000 in
theorem ccont_any (A : Option Addr) (n c : Nat) (l : List Chg) (w : World) (hl : SL eC w A n l) (hn : n ≤ 1000) (r : Bool) (hr : (!decide (∀ x ∈ l, One x)) = r) :
    Calls Try.prog 30 #[.slice A n c, .func (.func 31) #[] #[]] w fun e w' => e = .returned (.bool r) ∧ Gr w w' := by
  have H := hide (cidx_any A n c l w hl hn)
  have HR := hide hr
  clear hl hr
  go_enter Try.func30, Try.ntmps30
  go_wp2_with fail
  refine H.out.mono ?_
  rintro e w1 ⟨v, rfl, hd, g1⟩
  have HD := hide hd
  have G1 := hide g1
  clear hd g1
  go_wp2_with fail
  go_ret
  exact ⟨by rw [← HR.out, ← HD.out]; rfl, G1.out⟩
set_option maxHeartbeats 4000000 in
theorem validC_any (A : Option Addr) (n c : Nat) (ys : List Chg) (w : World) (hs : SL eC w A n ys) (hn : n ≤ 1000) (r : Bool) (hr : vC ys = r) :
    Calls Try.prog 16 #[.slice A n c] w fun e w' => e = .returned (.bool r) ∧ Gr w w' := by
  unfold vC at hr
  rw [hs.1] at hr
  have HS := hide hs
  by_cases h : n ≤ 64
  · have d0 : decide ((n : Int) ≤ 64) = true := decide_eq_true (by omega)
    by_cases h2 : Srt Chg.k ys
    · have HA := hide (ascC_any A n c ys w hs hn true (decide_eq_true h2))
      have HR := hide (show (!decide (∀ x ∈ ys, One x)) = !r by rw [← hr]; congr 1; exact decide_eq_decide.2 ⟨fun x => ⟨h, h2, x⟩, fun x => x.2.2⟩)
      clear hr hs
      go_enter Try.func16, Try.ntmps16
      go_wp2_with fail
      refine HA.out.mono ?_
      rintro e w1 ⟨rfl, g⟩
      have G := hide g
      clear g
      go_wp2_with fail
      refine (ccont_any A n c ys w1 (HS.out.keep G.out.below) hn (!r) HR.out).mono ?_
      rintro e w2 ⟨rfl, g⟩
      have G2 := hide (G.out.trans g)
      clear g
      go_wp2_with fail
      go_ret
      exact ⟨by cases r <;> rfl, G2.out⟩
    · have HA := hide (ascC_any A n c ys w hs hn false (decide_eq_false h2))
      obtain rfl : r = false := by rw [← hr]; exact decide_eq_false fun x => h2 x.2.1
      clear hr hs
      go_enter Try.func16, Try.ntmps16
      go_wp2_with fail
      refine HA.out.mono ?_
      rintro e w1 ⟨rfl, g⟩
      have G := hide g
      clear g
      go_wp2_with fail
      go_ret
      exact ⟨rfl, G.out⟩
  · obtain rfl : r = false := by rw [← hr]; exact decide_eq_false fun x => h x.1
    have d0 : decide ((n : Int) ≤ 64) = false := decide_eq_false (by omega)
    clear hr hs
    go_enter Try.func16, Try.ntmps16
    go_wp2_with fail
    go_ret
    exact ⟨rfl, Gr.refl _⟩

end Go.Proofs.Ytlnajliobebgdaa
