/- The body of JournalCuts. -/
import Derived.Test.YtjmpnpflmdpdkaaJSc
import Derived.Test.YtjmpnpflmdpdkaaJSb
namespace Go.Proofs.Ytjmpnpflmdpdkaa
open Go Go.RowKit FM

theorem jn_grow {w w2 : World} {B p : Nat} {F : Nat → Prop} {es : List Ent} (h : JN w2 B F p es) (hB : B ≤ w.heap.size) : JN w2 B (Plus F w w2) p es := by
  have hr := h.rng
  refine h.mono (fun k hk => .inl hk) (fun k hk => ?_)
  rcases hk with hk | hk
  · exact hr k hk
  · omega
theorem cutj_any (p B : Nat) (F : Nat → Prop) (es : List Ent) (w : World) (z : Int) (h : JN w B F p es) (hB : B ≤ w.heap.size) : Calls Try.prog 23 #[.pointer (some ⟨p, 0, none⟩), .int .i64 z] w fun e w' => e = .returned (.int .i64 (cutE es z : Int)) ∧ JN w' B (Plus F w w') p (cutL es z) ∧ Turn F w w' := by
  have key : Calls Try.prog 23 #[.pointer (some ⟨p, 0, none⟩), .int .i64 z] w fun e w' => e = .returned (.int .i64 (cutE es z : Int)) ∧ JN w' B F p (cutL es z) ∧ Turn F w w' := by
    by_cases h0 : z < 0
    · exact cut_low p B F es w z h h0
    · obtain ⟨i, rfl⟩ : ∃ i : Nat, z = (i : Int) := ⟨z.toNat, by omega⟩
      by_cases h1 : es.length < i
      · exact cut_high p B F es w i h h1
      · exact cut_at p B F es w i h (by omega)
  exact key.mono fun e w' ⟨a, b, c⟩ => ⟨a, jn_grow b hB, c⟩
theorem rcutj_any (p B : Nat) (F : Nat → Prop) (es : List Ent) (w : World) (z : Int) (h : RJ w B F p es) (hB : B ≤ w.heap.size) : Calls Try.prog 24 #[.pointer (some ⟨p, 0, none⟩), .int .i64 z] w fun e w' => e = .returned (.int .i64 (cutE es z : Int)) ∧ RJ w' B (Plus F w w') p (cutL es z) ∧ Turn F w w' := by
  by_cases h0 : z < 0
  · exact rcut_low p B F es w z h h0
  · obtain ⟨i, rfl⟩ : ∃ i : Nat, z = (i : Int) := ⟨z.toNat, by omega⟩
    by_cases h1 : es.length < i
    · exact rcut_high p B F es w i h h1
    · exact rcut_at p B F es w i h hB (by omega)
set_option maxRecDepth 100000 in
set_option maxHeartbeats 8000000 in
theorem cuts_law (A : Option Addr) (n c : Nat) (l : List Ent) (z : Int) (w : World) (hx : AE w A n l) (hc : n ≤ c) (hm : c ≤ maxLen) (hz1 : -128 ≤ z) (hz2 : z < 128) :
    Calls Try.prog 8 #[.slice A n c, .int .i8 z] w fun e w' => e = .returned (.bool true) ∧ Below w.heap.size w w' := by
  have HX := hide hx
  have HN := hide (show n ≤ maxLen from by omega)
  have hl := hx.len
  have wz : IntKind.i64.wrap z = z := IntWalk.i64_in _ (by omega)
  clear hx
  go_enter Try.func8, Try.ntmps8
  go_wp2_with fail
  (with_reducible refine (awake_yes _).mono ?_)
  rintro e w1 ⟨rfl, hb1⟩
  have HB1 := hide hb1
  clear hb1
  unfold maxLen at hm
  go_wp2_with fail
  obtain ⟨fb, hfb⟩ : ∃ fb, fewB l = fb := ⟨_, rfl⟩
  have HF := hide hfb
  (with_reducible refine (few_any A n c l _ (HX.out.below HB1.out) HN.out fb HF.out).mono ?_)
  rintro e w' ⟨rfl, rfl⟩
  cases fb with
  | false =>
    clear HF hfb
    go_wp2_with fail
    (with_reducible refine (awake_yes _).mono ?_)
    rintro e w2 ⟨rfl, hb2⟩
    have HB2 := hide (Below.next HB1.out hb2)
    clear hb2
    go_wp2_with fail
    go_ret
    exact ⟨rfl, HB2.out⟩
  | true =>
    have HFew := hide (fewB_iff.1 hfb)
    have HMk := hide (mk_few HFew.out)
    clear HF hfb
    go_wp2_with fail
    (with_reducible refine (made_any A n c l _ (HX.out.below HB1.out) HN.out).mono ?_)
    rintro e w2 ⟨p, q, F, G, rfl, hT⟩
    rw [HMk.out] at hT
    have HT := hide hT
    have HB2 := hide (Below.next HB1.out hT.2.2.2)
    have HJ2 := hide hT.1
    have HR2 := hide hT.2.1
    have hs2 : w1.heap.size ≤ w2.heap.size := hT.size
    clear hT
    go_wp2_with fail
    (with_reducible refine (cutj_any p w1.heap.size F l _ z HJ2.out hs2).mono ?_)
    rintro e w3 ⟨rfl, hj3, ht3⟩
    have HM3 := hide (HT.out.mid (Below.refl _ _) hj3 ht3)
    have HR3 := hide HM3.out.2.1
    have hs3 : w1.heap.size ≤ w3.heap.size := HM3.out.2.2.2.size
    clear hj3 ht3 HT HJ2 HR2
    go_wp2_with fail
    (with_reducible refine (rcutj_any q w1.heap.size G l _ z HR3.out hs3).mono ?_)
    rintro e w4 ⟨rfl, hr4, ht4⟩
    have HT4 := hide (HM3.out.two (Below.refl _ _) hr4 ht4)
    have HJ4 := hide HT4.out.1
    have HR4 := hide HT4.out.2.1
    have HB4 := hide (Below.next HB1.out HT4.out.2.2.2)
    clear hr4 ht4 HM3 HR3 HB2
    go_wp2_with fail
    (with_reducible refine (samej_any p q _ _ _ _ _ _ HJ4.out HR4.out).mono ?_)
    rintro e w5 ⟨rfl, hb5⟩
    have HJ5 := hide (HJ4.out.below hb5)
    have HB5 := hide (Below.next HB4.out hb5)
    clear hb5 HT4 HJ4 HR4 HB4
    by_cases hout : z < 0 ∨ (n : Int) < z
    · have hlen : (cutL l z).length = n := by unfold cutL; rw [hl, if_pos hout]; exact hl
      have HL := hide hlen
      clear hlen
      rcases hout with h0 | h0
      · have d0 : decide (z < 0) = true := decide_eq_true h0
        go_wp2_with fail
        (with_reducible refine (len_any p _ _ _ _ HJ5.out).mono ?_)
        rintro e w' ⟨rfl, rfl⟩
        rw [HL.out]
        go_wp2_with fail
        go_ret
        exact ⟨rfl, HB5.out⟩
      · have d0 : decide (z < 0) = false := decide_eq_false (by omega)
        have d1 : decide ((n : Int) < z) = true := decide_eq_true h0
        go_wp2_with fail
        (with_reducible refine (len_any p _ _ _ _ HJ5.out).mono ?_)
        rintro e w' ⟨rfl, rfl⟩
        rw [HL.out]
        go_wp2_with fail
        go_ret
        exact ⟨rfl, HB5.out⟩
    · obtain ⟨i, rfl⟩ : ∃ i : Nat, z = (i : Int) := ⟨z.toNat, by omega⟩
      have hi : i ≤ n := by omega
      have HE := hide (show cutL l (i : Int) = l.take i from by unfold cutL; rw [hl, if_neg (by omega)]; rfl)
      have HMk2 := hide (mk_few (few_take HFew.out i))
      have d0 : decide ((i : Int) < 0) = false := decide_eq_false (by omega)
      have d1 : decide ((n : Int) < (i : Int)) = false := decide_eq_false (by omega)
      have i1 : (0 : Int) ≤ (i : Int) := by omega
      have i2 : (i : Int) ≤ (c : Int) := by omega
      obtain ⟨N, hN⟩ : ∃ N, (jb (l.take i)).length = N := ⟨_, rfl⟩
      have HLN := hide hN
      clear hout hN
      rw [HE.out] at HJ5
      go_wp2_with fail
      (with_reducible refine (made_any A i c (l.take i) _ ((HX.out.below HB5.out).take hi) (by unfold maxLen; omega)).mono ?_)
      rintro e w6 ⟨p2, q2, F2, G2, rfl, hT⟩
      rw [HMk2.out] at hT
      have HJ6 := hide (HJ5.out.below hT.2.2.2)
      have HO6 := hide hT.1
      have HB6 := hide (Below.next HB5.out hT.2.2.2)
      clear hT HJ5 HB5
      go_wp2_with fail
      (with_reducible refine (jbytes_any p _ _ _ _ HJ6.out N HLN.out).mono ?_)
      rintro e w7 ⟨A7, c7, rfl, hr7, hb7⟩
      have HX7 := hide (RB.br hr7 (jb_by HO6.out.ok.1))
      have HO7 := hide (HO6.out.below hb7)
      have HB7 := hide (Below.next HB6.out hb7)
      clear hr7 hb7 HJ6 HO6 HB6
      go_wp2_with fail
      (with_reducible refine (jbytes_any p2 _ _ _ _ HO7.out N HLN.out).mono ?_)
      rintro e w8 ⟨A8, c8, rfl, hr8, hb8⟩
      have HX8 := hide (RB.br hr8 (jb_by HO7.out.ok.1))
      have HX9 := hide (HX7.out.below hb8)
      have HB8 := hide (Below.next HB7.out hb8)
      clear hr8 hb8 HX7 HO7 HB7
      go_wp2_with fail
      (with_reducible refine (bytes_any A7 N c7 _ A8 N c8 _ _ HX9.out HX8.out true (by simp)).mono ?_)
      rintro e w' ⟨rfl, rfl⟩
      go_wp2_with fail
      go_ret
      exact ⟨rfl, HB8.out⟩
end Go.Proofs.Ytjmpnpflmdpdkaa
