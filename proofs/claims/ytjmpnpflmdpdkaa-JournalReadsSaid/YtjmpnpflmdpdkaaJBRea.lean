/- The body of JournalReads. -/
import Derived.Test.YtjmpnpflmdpdkaaJSc
namespace Go.Proofs.Ytjmpnpflmdpdkaa
open Go Go.RowKit FM

set_option maxHeartbeats 4000000 in
theorem reads_law (A : Option Addr) (n c : Nat) (xs : List Nat) (w : World) (hx : BR w A n xs) (hc : n ≤ c) (hm : c ≤ maxLen) :
    Calls Try.prog 6 #[.slice A n c] w fun e w' => e = .returned (.bool true) ∧ Below w.heap.size w w' := by
  have HX := hide hx
  clear hx
  go_enter Try.func6, Try.ntmps6
  go_wp2_with fail
  (with_reducible refine (awake_yes _).mono ?_)
  rintro e w1 ⟨rfl, hb1⟩
  have HB1 := hide hb1
  clear hb1
  by_cases h3 : 3000 < n
  · go_wp2_with fail
    (with_reducible refine (awake_yes _).mono ?_)
    rintro e w2 ⟨rfl, hb2⟩
    have HB2 := hide (Below.next HB1.out hb2)
    clear hb2
    go_wp2_with fail
    go_ret
    exact ⟨rfl, HB2.out⟩
  · go_wp2_with fail
    (with_reducible refine (jopen_any A n c xs _ (HX.out.below HB1.out) hc hm).mono ?_)
    rintro e w2 ⟨hb2, ⟨h0, rfl⟩ | ⟨h0, p, es, r, rfl, hr, hj⟩⟩
    · have HB2 := hide (Below.next HB1.out hb2)
      clear hb2
      go_wp2_with fail
      (with_reducible refine (ropenj_any A n c xs _ (HX.out.below HB2.out) hc hm).mono ?_)
      rintro e w3 ⟨hb3, ⟨-, rfl⟩ | ⟨h1, p, es, r, rfl, hr, hj⟩⟩
      · have HB3 := hide (Below.next HB2.out hb3)
        clear hb3
        go_wp2_with fail
        (with_reducible refine (same_nil _).mono ?_)
        rintro e w4 ⟨rfl, hb4⟩
        have HB4 := hide (Below.next HB3.out hb4)
        clear hb4 h0
        go_wp2_with fail
        go_ret
        exact ⟨rfl, HB4.out⟩
      · exact absurd h1 h0
    · have HB2 := hide (Below.next HB1.out hb2)
      have HR := hide hr
      have HJ := hide hj
      have H0 := hide h0
      clear hb2 hr hj h0
      go_wp2_with fail
      (with_reducible refine (ropenj_any A n c xs _ (HX.out.below HB2.out) hc hm).mono ?_)
      rintro e w3 ⟨hb3, ⟨h1, rfl⟩ | ⟨-, q, es', r', rfl, hr', hj'⟩⟩
      · exact absurd H0.out h1
      · obtain ⟨rfl, rfl⟩ := HR.out.uniq hr'
        have HB3 := hide (Below.next HB2.out hb3)
        have HJ3 := hide (HJ.out.below hb3)
        have HJ4 := hide hj'
        clear hb3 hr' hj' HJ
        go_wp2_with fail
        (with_reducible refine (samej_any p q _ _ _ _ es _ HJ3.out HJ4.out).mono ?_)
        rintro e w4 ⟨rfl, hb4⟩
        have HB4 := hide (Below.next HB3.out hb4)
        clear hb4 HJ3 HJ4
        go_wp2_with fail
        go_ret
        exact ⟨rfl, HB4.out⟩
end Go.Proofs.Ytjmpnpflmdpdkaa
