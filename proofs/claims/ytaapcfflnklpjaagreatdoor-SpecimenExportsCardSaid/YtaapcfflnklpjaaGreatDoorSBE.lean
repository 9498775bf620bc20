/- The body of SpecimenExports. -/
import Derived.Test.YtaapcfflnklpjaaGreatDoorSAw
import Derived.Test.YtaapcfflnklpjaaGreatDoorSRe
namespace Go.Proofs.YtaapcfflnklpjaaGreatDoor
open Go Go.RowKit Go.Lib
theorem er_size {ys : List Spc} {t : ByteArray} {e : Int} (h : ER9 ys t e) : t.size ≤ 4000 := by
  by_cases h0 : e = 0
  · obtain ⟨zs, hz, rfl⟩ := h.2.1 h0
    have hc := hz.chk (h.1.symm.trans h0)
    have := expL_len (xs := zs) fun x hx => (chk_ok.1 hc).2.1 x hx
    have := (chk_ok.1 hc).1
    rw [strB_size]
    omega
  · rw [h.2.2 h0]; exact Nat.zero_le _
set_option maxHeartbeats 2000000 in
theorem exports_big (A : Option Addr) (n c : Nat) (w : World) (hT : Lw w) (h : decide ((100 : Int) < (n : Int)) = true) :
    Calls Tryz.prog 10 #[.slice A n c] w fun e w' => e = .returned (.bool true) ∧ Below w.heap.size w w' := by
  have HT := hide hT
  clear hT
  go_enter Tryz.func10, Tryz.ntmps10
  go_wp2_with fail
  refine (awake_yes _ HT.out).mono ?_
  rintro e w1 ⟨rfl, hb1⟩
  go_wp2_with fail
  refine (awake_yes _ (HT.out.below hb1)).mono ?_
  rintro e w2 ⟨rfl, hb2⟩
  go_wp2_with fail
  go_ret
  exact ⟨rfl, nxt hb1 hb2⟩
set_option maxHeartbeats 8000000 in
theorem exports_small (A : Option Addr) (n c : Nat) (ys : List Spc) (w : World) (hT : Lw w) (hr : SL w A n ys) (h : decide ((100 : Int) < (n : Int)) = false) :
    Calls Tryz.prog 10 #[.slice A n c] w fun e w' => e = .returned (.bool true) ∧ Below w.heap.size w w' := by
  have HT := hide hT
  have HR := hide hr
  have hn : n ≤ 100 := by have := of_decide_eq_false h; omega
  clear hT hr
  obtain ⟨r, hrr⟩ : ∃ r, chk ys = r := ⟨_, rfl⟩
  have H := hide hrr
  clear hrr
  go_enter Tryz.func10, Tryz.ntmps10
  go_wp2_with fail
  refine (awake_yes _ HT.out).mono ?_
  rintro e w1 ⟨rfl, hb1⟩
  go_wp2_with fail
  refine (export_any A n c ys _ (HT.out.below hb1) (HR.out.keep hb1)).mono ?_
  rintro e w2 ⟨t, rfl, he, hb2⟩
  rw [H.out] at he ⊢
  have HE := hide he
  have HB2 := hide (nxt hb1 hb2)
  clear he hb1 hb2
  go_wp2_with fail
  refine (rexport_any A n c ys _ (HT.out.below HB2.out) (HR.out.keep HB2.out)).mono ?_
  rintro e w3 ⟨u, rfl, hf, hb3⟩
  rw [H.out] at hf ⊢
  obtain rfl : t = u := (HE.out.uniq hf).1
  have HB3 := hide (nxt HB2.out hb3)
  clear hf hb3
  go_wp2_with fail
  refine (import_any t _ (HT.out.below HB3.out) (Nat.le_trans (er_size HE.out) (by decide))).mono ?_
  rintro e w4 ⟨A4, n4, c4, xs, er, rfl, hs4, hn4, hi, hb4⟩
  have HS4 := hide hs4
  have HI := hide hi
  have HN4 := hide hn4
  have HB4 := hide (nxt HB3.out hb4)
  clear hs4 hi hb4 hn4
  go_wp2_with fail
  refine (rsort_any A n c ys _ (HR.out.keep HB4.out)).mono ?_
  rintro e w5 ⟨A5, n5, c5, zs, rfl, hs5, h1, h2, hb5⟩
  rw [H.out] at h1 h2 ⊢
  have HS5 := hide hs5
  have HK4 := hide (HS4.out.keep hb5)
  have H1 := hide h1
  have HB5 := hide (nxt HB4.out hb5)
  clear hs5 h1 h2 hb5 HS4
  by_cases h0 : r = 0
  · subst h0
    have HX := hide (exp_imp HE.out (H1.out rfl) HI.out)
    obtain rfl : er = 0 := HX.out.1
    go_wp2_with fail
    refine (sames_any A4 n4 c4 xs A5 n5 c5 zs _ HK4.out HS5.out (Nat.le_trans HN4.out (by decide)) true (decide_eq_true HX.out.2)).mono ?_
    rintro e w6 ⟨rfl, hb6⟩
    go_wp2_with fail
    go_ret
    exact ⟨rfl, nxt HB5.out hb6⟩
  · have q1 : (r != 0) = true := by simp [h0]
    clear h0
    go_wp2_with fail
    go_ret
    exact ⟨rfl, HB5.out⟩
theorem exports_all (A : Option Addr) (n c : Nat) (ys : List Spc) (w : World) (hT : Lw w) (hr : SL w A n ys) :
    Calls Tryz.prog 10 #[.slice A n c] w fun e w' => e = .returned (.bool true) ∧ Below w.heap.size w w' := by
  by_cases h : (100 : Int) < (n : Int)
  · exact exports_big A n c w hT (decide_eq_true h)
  · exact exports_small A n c ys w hT hr (decide_eq_false h)
end Go.Proofs.YtaapcfflnklpjaaGreatDoor
