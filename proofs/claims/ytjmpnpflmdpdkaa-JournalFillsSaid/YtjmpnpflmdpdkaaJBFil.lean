/- The body of JournalFills. -/
import Derived.Test.YtjmpnpflmdpdkaaJSc
namespace Go.Proofs.Ytjmpnpflmdpdkaa
open Go Go.RowKit FM

theorem zero_by {n : Nat} : By (List.replicate n 0) := fun x h => by have := List.eq_of_mem_replicate h; omega
theorem own_br {w : World} {g n : Nat} {xs : List Nat} (h : Own w g .u8 5 xs) (hn : xs.length = n) (hb : By xs) : BR w (some ⟨g, 0, none⟩) n xs := ⟨h.rl hn, hb⟩
theorem len_put (es : List Ent) (k : Nat) (d : List Nat) : (jb (es ++ [(k, d)])).length = (jb es).length + d.length + 9 := by rw [jb_snoc, List.length_append, frame_len]; show _ + (d.length + 9) = _; omega
set_option maxHeartbeats 8000000 in
theorem fills_law (k s t : Nat) (w : World) (hk : k < 256) (hs : s < 65536) (ht : t < 65536) :
    Calls Try.prog 4 #[.int .u8 (k : Int), .int .u16 (s : Int), .int .u16 (t : Int)] w fun e w' => e = .returned (.bool true) ∧ Below w.heap.size w w' := by
  obtain ⟨N, hN⟩ : ∃ N, 4000 + s % 5000 = N := ⟨_, rfl⟩
  obtain ⟨M, hM⟩ : ∃ M, t % 8193 = M := ⟨_, rfl⟩
  have hN1 : (4000 : Int) + (s : Int) % 5000 = (N : Int) := by omega
  have hM1 : (t : Int) % 8193 = (M : Int) := by omega
  have hN2 : N ≤ 8999 := by omega
  have hM2 : M ≤ 8192 := by omega
  clear hN hM
  go_enter Try.func4, Try.ntmps4
  go_wp2_with fail
  (with_reducible refine (awake_yes _).mono ?_)
  rintro e w1 ⟨rfl, hb1⟩
  have HB1 := hide hb1
  clear hb1
  go_wp2_with fail
  (with_reducible refine (new_any _).mono ?_)
  rintro e w2 ⟨p, rfl, hj, hb⟩
  have HJ2 := hide hj
  have HB2 := hide hb
  clear hj hb
  go_wp2_with fail
  go_loopw [9, 10] (fun v9 v10 wr => ∃ (i bt : Nat) (F : Nat → Prop) (es : List Ent), v9 = .int .i64 (bt : Int) ∧ v10 = .int .i64 (i : Int) ∧ i ≤ 20 ∧ Hid ((jb es).length = bt) ∧ Hid (JN wr w1.heap.size F p es) ∧ Hid (Below w1.heap.size w1 wr)) (fun _ v10 _ => 20 - (intOf v10).toNat)
  case atStart => exact ⟨0, 5, _, [], rfl, rfl, by omega, hide rfl, HJ2, HB2⟩
  case round =>
    clear HJ2 HB2
    obtain ⟨i, bt, F, es, rfl, rfl, hi, HL, HJ, HB⟩ := hrel
    have hbt : bt ≤ 65536 := by rw [← HL.out]; exact HJ.out.ok.2
    have hL := HL.out
    by_cases hlt : i < 20
    · by_cases h8 : 8192 < N
      · go_wp2_with (at_make; refine wpList_make_zero _ rfl _ _ 31 rfl 5 .u8 1 Try.underlying31 u8_info .i64 .i64 _ _ N rfl rfl (by go_num) (by go_num) (by omega) (by omega) ?_; intro g w3 hg hown hbel)
        have HZ := hide (own_br hown (n := N) (by simp) zero_by)
        have HJ3 := hide (HJ.out.below hbel)
        have HB3 := hide (HB.out.trans (hbel.mono HB.out.size))
        have hsz3 : w1.heap.size ≤ w3.heap.size := HB3.out.size
        clear hown hbel hg HJ HB
        have hE : apE es (List.replicate N 0) = 6 := apE_no (.inl (by simp; omega))
        go_wp2_with fail
        (with_reducible refine (putc_any p w1.heap.size F es _ HJ3.out hsz3 k hk _ N N (List.replicate N 0) HZ.out (by unfold maxLen; omega)).mono ?_)
        rintro e w4 ⟨rfl, hj, ht⟩
        rw [hE]
        have HJ4 := hide hj
        have HB4 := hide (ht.onto HB3.out fun k hk => (HJ3.out.rng k hk).1)
        clear hj ht HJ3 HB3 HZ
        go_wp2_with fail
        go_roundw
        case measure => simp [intOf]; omega
        case rel => exact ⟨i + 1, bt, _, es, rfl, by go_num, by omega, HL, hide (by rw [← apL_no (k := k) (d := List.replicate N 0) (es := es) (by omega)]; exact HJ4.out), HB4⟩
      · by_cases hf : 65536 < bt + N + 9
        · go_wp2_with (at_make; refine wpList_make_zero _ rfl _ _ 31 rfl 5 .u8 1 Try.underlying31 u8_info .i64 .i64 _ _ N rfl rfl (by go_num) (by go_num) (by omega) (by omega) ?_; intro g w3 hg hown hbel)
          have HZ := hide (own_br hown (n := N) (by simp) zero_by)
          have HJ3 := hide (HJ.out.below hbel)
          have HB3 := hide (HB.out.trans (hbel.mono HB.out.size))
          have hsz3 : w1.heap.size ≤ w3.heap.size := HB3.out.size
          clear hown hbel hg HJ HB
          have hE : apE es (List.replicate N 0) = 6 := apE_no (.inr (by rw [hL]; simp; omega))
          go_wp2_with fail
          (with_reducible refine (putc_any p w1.heap.size F es _ HJ3.out hsz3 k hk _ N N (List.replicate N 0) HZ.out (by unfold maxLen; omega)).mono ?_)
          rintro e w4 ⟨rfl, hj, ht⟩
          rw [hE]
          have HJ4 := hide hj
          have HB4 := hide (ht.onto HB3.out fun k hk => (HJ3.out.rng k hk).1)
          clear hj ht HJ3 HB3 HZ
          go_wp2_with fail
          go_roundw
          case measure => simp [intOf]; omega
          case rel => exact ⟨i + 1, bt, _, es, rfl, by go_num, by omega, HL, hide (by rw [← apL_no (k := k) (d := List.replicate N 0) (es := es) (by omega)]; exact HJ4.out), HB4⟩
        · go_wp2_with (at_make; refine wpList_make_zero _ rfl _ _ 31 rfl 5 .u8 1 Try.underlying31 u8_info .i64 .i64 _ _ N rfl rfl (by go_num) (by go_num) (by omega) (by omega) ?_; intro g w3 hg hown hbel)
          have HZ := hide (own_br hown (n := N) (by simp) zero_by)
          have HJ3 := hide (HJ.out.below hbel)
          have HB3 := hide (HB.out.trans (hbel.mono HB.out.size))
          have hsz3 : w1.heap.size ≤ w3.heap.size := HB3.out.size
          clear hown hbel hg HJ HB
          have hE : apE es (List.replicate N 0) = 0 := apE_ok (by simp; omega) (by rw [hL]; simp; omega)
          go_wp2_with fail
          (with_reducible refine (putc_any p w1.heap.size F es _ HJ3.out hsz3 k hk _ N N (List.replicate N 0) HZ.out (by unfold maxLen; omega)).mono ?_)
          rintro e w4 ⟨rfl, hj, ht⟩
          rw [hE]
          have HJ4 := hide hj
          have HB4 := hide (ht.onto HB3.out fun k hk => (HJ3.out.rng k hk).1)
          clear hj ht HJ3 HB3 HZ
          go_wp2_with fail
          go_roundw
          case measure => simp [intOf]; omega
          case rel => exact ⟨i + 1, bt + N + 9, _, es ++ [(k, List.replicate N 0)], by go_num, by go_num, by omega, hide (by rw [len_put, hL]; simp), hide (by rw [← apL_ok (k := k) hE]; exact HJ4.out), HB4⟩
    · obtain rfl : i = 20 := by omega
      have hB0 : w1.heap.size ≤ wr.heap.size := HB.out.size
      have d20 : decide (((20 : Nat) : Int) < 20) = false := rfl
      go_wp2_with (at_make; refine wpList_make_zero _ rfl _ _ 31 rfl 5 .u8 1 Try.underlying31 u8_info .i64 .i64 _ _ M rfl rfl (by go_num) (by go_num) (by omega) (by omega) ?_; intro g w3 hg hown hbel)
      have HZ := hide (own_br hown (n := M) (by simp) zero_by)
      have HJ3 := hide (HJ.out.below hbel)
      have HB3 := hide (HB.out.trans (hbel.mono HB.out.size))
      have hsz3 : w1.heap.size ≤ w3.heap.size := HB3.out.size
      clear hown hbel hg HJ HB
      (with_reducible refine (putc_any p w1.heap.size F es _ HJ3.out hsz3 k hk _ M M (List.replicate M 0) HZ.out (by unfold maxLen; omega)).mono ?_)
      rintro e w4 ⟨rfl, hj, ht⟩
      have HB4 := hide (Below.next HB1.out (ht.onto HB3.out fun k hk => (HJ3.out.rng k hk).1))
      clear hj ht HJ3 HB3 HZ
      by_cases hf : bt + M + 9 ≤ 65536
      · have hE : apE es (List.replicate M 0) = 0 := apE_ok (by simp; omega) (by rw [hL]; simp; omega)
        have d1 : decide ((bt : Int) + (M : Int) + 9 ≤ 65536) = true := decide_eq_true (by omega)
        rw [hE]
        go_wp2_with fail
        go_ret
        exact ⟨rfl, HB4.out⟩
      · have hE : apE es (List.replicate M 0) = 6 := apE_no (.inr (by rw [hL]; simp; omega))
        have d1 : decide ((bt : Int) + (M : Int) + 9 ≤ 65536) = false := decide_eq_false (by omega)
        rw [hE]
        go_wp2_with fail
        go_ret
        exact ⟨rfl, HB4.out⟩
end Go.Proofs.Ytjmpnpflmdpdkaa
