/- The fixed results that the document gives. -/
import Derived.Test.YtjmpnpflmdpdkaaJSa
namespace Go.Proofs.Ytjmpnpflmdpdkaa
open Go Go.RowKit FM

def one : List Ent := [(2, [7])]
theorem one_ok : OkE one := OkE.one (by omega) (fun x h => by simp at h; omega) (by simp)
theorem one_put : apE [] [7] = 0 ∧ apL [] 2 [7] = one := by
  have e : apE [] [7] = 0 := by decide +kernel
  exact ⟨e, by rw [apL_ok e]; rfl⟩
theorem one_len : (jb one).length = 15 := by decide +kernel
theorem one_coin : (jb one).take 5 = coin := by decide +kernel
theorem one_oE : oE ((jb one).take 14) = 0 := by decide +kernel
theorem litB {w W : World} {vs : Array Value} (xs : List Nat) {n : Nat} (hW : w.alloc (.cells vs 5) = W) (hv : vs = (cells .u8 xs).toArray) (hn : xs.length = n) (hb : By xs) : Below w.heap.size w W ∧ BR W (some ⟨w.heap.size, 0, none⟩) n xs := by
  subst hW hv
  exact ⟨(Below.refl _ _).alloc (Nat.le_refl _) _, (Own.new w .u8 5 xs).rl hn, hb⟩
theorem by7 : By [7] := fun x h => by simp at h; omega
theorem put7 (p : Nat) (B : Nat) (F : Nat → Prop) (A : Option Addr) (w : World) (h : JN w B F p []) (hB : B ≤ w.heap.size) (hd : BR w A 1 [7]) :
    Calls Try.prog 14 #[.pointer (some ⟨p, 0, none⟩), .int .u8 2, .slice A 1 1] w fun e w' => e = .returned (.int .i64 0) ∧ JN w' B (Plus F w w') p one ∧ Turn F w w' := by
  refine (putc_any p B F [] w h hB 2 (by omega) A 1 1 [7] hd (by unfold maxLen; omega)).mono ?_
  rintro e w' ⟨rfl, h1, h2⟩
  rw [one_put.2] at h1
  exact ⟨by rw [one_put.1]; rfl, h1, h2⟩
theorem len_one (p B : Nat) (F : Nat → Prop) (w : World) (h : JN w B F p one) : Calls Try.prog 21 #[.pointer (some ⟨p, 0, none⟩)] w fun e w' => e = .returned (.int .i64 1) ∧ w = w' := len_any p B F one w h
theorem len_zero (p B : Nat) (F : Nat → Prop) (w : World) (h : JN w B F p []) : Calls Try.prog 21 #[.pointer (some ⟨p, 0, none⟩)] w fun e w' => e = .returned (.int .i64 0) ∧ w = w' := len_any p B F [] w h
theorem ent_zero (p B : Nat) (F : Nat → Prop) (w : World) (h : JN w B F p one) : Calls Try.prog 26 #[.pointer (some ⟨p, 0, none⟩), .int .i64 0] w fun e w' => ∃ A c, e = .returned (.tuple #[.int .u8 2, .slice A 1 c, .int .i64 0]) ∧ BR w' A 1 [7] ∧ Below w.heap.size w w' := by
  refine (ent_at p B F one w h 0 (2, [7]) rfl).mono ?_
  rintro e w' ⟨A, n, c, rfl, h1, h2, h3⟩
  obtain rfl : 1 = n := Row.len h1
  exact ⟨A, c, rfl, h1.br h2, h3⟩
theorem ent_one (p B : Nat) (F : Nat → Prop) (w : World) (h : JN w B F p one) : Calls Try.prog 26 #[.pointer (some ⟨p, 0, none⟩), .int .i64 1] w fun e w' => ∃ A n c, e = .returned (.tuple #[.int .u8 0, .slice A n c, .int .i64 7]) ∧ Below w.heap.size w w' := by
  refine (ent_high p B F one w h 1 (by decide)).mono ?_
  rintro e w' ⟨A, n, c, rfl, h1, h2, h3⟩
  exact ⟨A, n, c, rfl, h3⟩
theorem cut_two (p B : Nat) (F : Nat → Prop) (w : World) (h : JN w B F p one) : Calls Try.prog 23 #[.pointer (some ⟨p, 0, none⟩), .int .i64 2] w fun e w' => e = .returned (.int .i64 7) ∧ w = w' := by
  obtain ⟨A, n, c, A', m, c', h1, h2, h3, h4, h5, h6⟩ := h
  have k1 : w.cell? ⟨p, 1, none⟩ = some (.slice A' m c') := h1.at_ 1
  obtain rfl : m = 1 := by rw [← h5.len, ends_len]; rfl
  clear h1 h2 h3 h4 h5 h6
  go_enter Try.func23, Try.ntmps23
  go_wp2_with fail
  go_ret
  exact ⟨rfl, rfl⟩
theorem open_14 (A : Option Addr) (c : Nat) (w : World) (hx : BR w A 14 ((jb one).take 14)) (hc : 14 ≤ c ∧ c ≤ maxLen) :
    Calls Try.prog 19 #[.slice A 14 c] w fun e w' => ∃ p F, e = .returned (.tuple #[.pointer (some ⟨p, 0, none⟩), .int .i64 9, .int .i64 0]) ∧ JN w' w.heap.size F p [] ∧ Below w.heap.size w w' := by
  refine (jopen_any A 14 c _ w hx hc.1 hc.2).mono ?_
  rintro e w' ⟨hb, ⟨h0, -⟩ | ⟨-, p, es, r, rfl, hr, hj⟩⟩
  · exact absurd one_oE h0
  · have h2 := reads_cut one_ok (n := 14) (k := 0) (by rw [one_len]; omega) (by simp) (by rw [jl_zero]; omega) (.inr (by rw [jl_succ (e := (2, [7])) rfl, jl_zero]; decide))
    obtain ⟨rfl, rfl⟩ := hr.uniq h2.1
    rw [h2.2, jl_zero]
    exact ⟨p, _, rfl, hj, hb⟩
set_option maxRecDepth 100000 in
set_option maxHeartbeats 8000000 in
theorem awake_yes (w : World) : Calls Try.prog 10 #[] w fun e w' => e = .returned (.bool true) ∧ Below w.heap.size w w' := by
  go_enter Try.func10, Try.ntmps10
  go_wp2_with fail
  (with_reducible refine (new_any _).mono ?_)
  rintro e w1 ⟨p, rfl, hj, hb⟩
  have HJ1 := hide hj
  have HB1 := hide hb
  clear hj hb
  go_wp2_with fail
  (with_reducible refine (clone_nilp _).mono ?_)
  rintro e w' ⟨rfl, rfl⟩
  go_wp2_with fail
  (with_reducible refine (len_nil _).mono ?_)
  rintro e w' ⟨rfl, rfl⟩
  go_wp2_with fail
  refine (append_nil 1 none 0 0 _).mono ?_
  rintro e w' ⟨rfl, rfl⟩
  go_wp2_with fail
  generalize hW : World.alloc w1 _ = W2
  obtain ⟨hb, hl⟩ := litB [7] hW rfl rfl by7
  have HL2 := hide hl
  have HJ2 := hide (HJ1.out.below hb)
  have HB2 := hide (HB1.out.trans (hb.mono HB1.out.size))
  have hB2 : w.heap.size ≤ W2.heap.size := HB2.out.size
  clear hW hb hl HJ1
  refine (put7 p w.heap.size _ _ _ HJ2.out hB2 HL2.out).mono ?_
  rintro e w3 ⟨rfl, hj, ht⟩
  have HJ3 := hide hj
  have HB3 := hide (ht.onto HB2.out fun k hk => (HJ2.out.rng k hk).1)
  clear hj ht HJ2 HL2 HB2
  go_wp2_with fail
  (with_reducible refine (len_one p w.heap.size _ _ HJ3.out).mono ?_)
  rintro e w' ⟨rfl, rfl⟩
  go_wp2_with fail
  (with_reducible refine (ent_zero p w.heap.size _ _ HJ3.out).mono ?_)
  rintro e w4 ⟨Ad, cd, rfl, hd, hb⟩
  have HD4 := hide hd
  have HJ4 := hide (HJ3.out.below hb)
  have HB4 := hide (Below.next HB3.out hb)
  clear hd hb HJ3 HB3
  go_wp2_with fail
  (with_reducible refine (ent_one p w.heap.size _ _ HJ4.out).mono ?_)
  rintro e w5 ⟨Ae, ne, ce, rfl, hb⟩
  have HD5 := hide (HD4.out.below hb)
  have HJ5 := hide (HJ4.out.below hb)
  have HB5 := hide (Below.next HB4.out hb)
  clear hb HJ4 HB4 HD4
  go_wp2_with fail
  (with_reducible refine (jbytes_any p w.heap.size _ one _ HJ5.out 15 one_len).mono ?_)
  rintro e w6 ⟨Ab, cb, rfl, hr, hb⟩
  have HC6 := hide (Row.le hr)
  have HR6 := hide (RB.br hr (jb_by one_ok))
  have HD6 := hide (HD5.out.below hb)
  have HJ6 := hide (HJ5.out.below hb)
  have HB6 := hide (Below.next HB5.out hb)
  clear hb HJ5 HB5 HD5 hr
  go_wp2_with fail
  generalize hW : World.alloc w6 _ = W7
  obtain ⟨hb, hl⟩ := litB [7] hW rfl rfl by7
  have HL7 := hide hl
  have HJ7 := hide (HJ6.out.below hb)
  have HB7 := hide (Below.next HB6.out hb)
  have HD7 := hide (HD6.out.below hb)
  have HR7 := hide (HR6.out.below hb)
  clear hW hb hl HJ6 HB6 HD6 HR6
  (with_reducible refine (bytes_any Ad 1 cd [7] _ 1 _ [7] _ HD7.out HL7.out true (by simp)).mono ?_)
  rintro e w' ⟨rfl, rfl⟩
  clear HL7 HD7
  have kt := run_text W7 Ab 5 cb ((jb one).take 5) (HR7.out.take_ (by omega))
  rw [one_coin] at kt
  have HS := bs_coin
  generalize bs coin = S at *
  have hcb1 : 15 ≤ cb := HC6.out.1
  have hcb2 : cb ≤ maxLen := HC6.out.2
  unfold maxLen at hcb2
  have i1 : (5 : Int) ≤ (cb : Int) := by omega
  have i2 : (14 : Int) ≤ (cb : Int) := by omega
  have HS2 : (S.toList == [67, 79, 73, 78, 49]) = true := by rw [HS]; rfl
  clear HS
  go_wp2_with fail
  (with_reducible refine (cut_two p w.heap.size _ _ HJ7.out).mono ?_)
  rintro e w' ⟨rfl, rfl⟩
  clear kt HS2 HJ7
  go_wp2_with fail
  (with_reducible refine (open_14 Ab cb _ (HR7.out.take_ (by omega)) ⟨by omega, by unfold maxLen; omega⟩).mono ?_)
  rintro e w8 ⟨p2, F2, rfl, hj, hb⟩
  have HJ8 := hide hj
  have HB8 := hide (Below.next HB7.out hb)
  clear hj hb HR7 HB7
  go_wp2_with fail
  (with_reducible refine (len_zero p2 _ _ _ HJ8.out).mono ?_)
  rintro e w' ⟨rfl, rfl⟩
  go_wp2_with fail
  go_ret
  exact ⟨rfl, HB8.out⟩
end Go.Proofs.Ytjmpnpflmdpdkaa
