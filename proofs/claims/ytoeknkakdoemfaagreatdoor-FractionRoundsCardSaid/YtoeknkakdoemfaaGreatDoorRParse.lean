/- The contracts of the reference's value and Parse. -/
import Derived.Test.YtoeknkakdoemfaaGreatDoorRText
namespace Go.Proofs.YtoeknkakdoemfaaGreatDoor
open Go Go.RowKit

theorem chunk_snoc {l : List Nat} {a j x : Nat} (h : l[j]? = some x) (ha : a ≤ j) : (l.take (j + 1)).drop a = (l.take j).drop a ++ [x] := by
  have hl := lt_of_getElem? h
  rw [take_snoc l j x h, List.drop_append_of_le_length (by rw [List.length_take]; omega)]
set_option maxHeartbeats 2000000 in
theorem rvalue_any (s : ByteArray) (w : World) (hs : s.size ≤ 4000) (h : AllDig (bytesOf s)) (V : Nat) (hV : decV (bytesOf s) = V) : Calls Tryz.prog 78 #[.string s] w (GivesN V w) := by
  have HD := hide h
  have HV := hide hV
  have HL := hide (bytesOf_length s)
  clear h hV
  go_enter Tryz.func78, Tryz.ntmps78
  go_wp2_with fail
  generalize hW : w.alloc _ = W
  obtain ⟨hbW, b0, hz⟩ := boxes1 hW
  clear hW hz
  have lt0 := b0.lt
  go_loopw [3, 4, 5, 6] (fun l e _ _ wr => ∃ (k : Nat) (z : Int) (A : Option Addr) (c : Nat) (out : List Nat), -9 < z ∧ 9 * (k : Int) + z = s.size ∧ e = .int .i64 z ∧ l = .slice A k c ∧ Row wr W.heap.size .u32 71 A k c out ∧ Below W.heap.size W wr ∧
      val B9 out + B9 ^ k * decV ((bytesOf s).take z.toNat) = V ∧ ∀ x ∈ out, x < B9) (fun _ e _ _ _ => (intOf e).toNat)
  case atStart => exact ⟨0, s.size, none, 0, [], by omega, by omega, rfl, rfl, Row.nil_, Below.refl _ _, by simp only [Int.toNat_natCast]; rw [List.take_of_length_le (by rw [HL.out]; exact Nat.le_refl _), HV.out]; simp [val], fun x hx => by simp at hx⟩
  case round =>
    obtain ⟨k, z, A, c, out, hz9, hkz, rfl, rfl, hrow, hbel, hval, hall⟩ := hrel
    have HK := hide hrow.len
    have HVL := hide hval
    have HA := hide hall
    have hbs := hbel.size
    have hkc := hrow.le.1
    have hcm := hrow.le.2
    unfold maxLen at hcm
    clear hval hall
    by_cases hpos : 0 < z
    · obtain ⟨e, rfl⟩ : ∃ e : Nat, z = e := ⟨z.toNat, by omega⟩
      have hek : e ≤ s.size := by omega
      have hmx : max ((e : Int) - 9) 0 = ((e - 9 : Nat) : Int) := by omega
      have hv := HVL.out
      rw [Int.toNat_natCast] at hv
      have HS := hide (chunk_step HK.out hv (by rw [HL.out]; exact hek))
      clear hv
      go_wp2
      go_loopw [5, 6] (fun n i wq => ∃ (j v : Nat), e - 9 ≤ j ∧ j ≤ e ∧ n = .int .u32 (v : Int) ∧ i = .int .i64 (j : Int) ∧ wq = wr ∧ decV (((bytesOf s).take j).drop (e - 9)) = v) (fun _ i _ => e - (intOf i).toNat)
      case atStart => exact ⟨e - 9, 0, by omega, by omega, rfl, rfl, rfl, by rw [List.drop_eq_nil_of_le (by rw [List.length_take]; omega)]; rfl⟩
      case round =>
        obtain ⟨j, v, hj9, hje, rfl, rfl, rfl, hjv⟩ := hrel
        clear hmx
        by_cases hlt : j < e
        · have hjs : j < s.size := by omega
          have hx := bytesOf_at s j hjs
          have hxd := HD.out _ (List.mem_of_getElem? hx)
          have hvb : v < 100000000 := by
            have h1 := decV_lt (((bytesOf s).take j).drop (e - 9)) ((HD.out.take j).drop (e - 9))
            rw [hjv, List.length_drop, List.length_take, HL.out, Nat.min_eq_left (by omega)] at h1
            exact Nat.lt_of_lt_of_le h1 (Nat.pow_le_pow_right (by decide) (by omega : j - (e - 9) ≤ 8))
          have HN := hide (show decV (((bytesOf s).take (j + 1)).drop (e - 9)) = 10 * v + (s[j].toNat - 48) from by rw [chunk_snoc hx hj9, decV_snoc, hjv])
          have hx1 := hxd.1
          have hx2 := hxd.2
          clear hx hxd hjv
          go_wp2
          go_roundw
          case rel => exact ⟨j + 1, 10 * v + (s[j].toNat - 48), by omega, by omega, by congr 1; omega, by go_num, trivial, HN.out⟩
          case measure => simp [intOf]; omega
        · obtain rfl : j = e := by omega
          have hxv : v < 1000000000 := by
            have h1 := decV_lt (((bytesOf s).take j).drop (j - 9)) ((HD.out.take j).drop (j - 9))
            rw [hjv, List.length_drop, List.length_take, HL.out, Nat.min_eq_left hek] at h1
            exact Nat.lt_of_lt_of_le h1 (Nat.pow_le_pow_right (by decide) (by omega : j - (j - 9) ≤ 9))
          rw [hjv] at HS
          clear hjv
          go_wp2_with (at_builtin; refine wpList_append_rl _ rfl _ _ 22 rfl W.heap.size 71 .u32 4 Tryz.underlying22 u32_info A k c out rfl (hrow.alloc _) (some ⟨wr.heap.size, 0, none⟩) 1 1 [v] rfl (RL.one wr .u32 71 (by omega)) (by omega) (k + 1) rfl (by omega) (by simp; omega) ?_; intro A2 c2 w5 hrow1 hbel1 hsz1)
          go_roundw
          case rel => exact ⟨k + 1, (j : Int) - 9, A2, c2, out ++ [v], by omega, by omega, rfl, rfl, hrow1, (hbel.alloc hbs _).trans hbel1, by rw [show ((j : Int) - 9).toNat = j - 9 from by omega]; exact HS.out, all_snoc HA.out hxv⟩
          case measure => simp [intOf]; omega
    · have hz0 : z.toNat = 0 := by omega
      have HE := hide (show val B9 out = V from by
        have h3 := HVL.out
        rw [hz0, List.take_zero, decV_nil, Nat.mul_zero, Nat.add_zero] at h3
        exact h3)
      have HU32 := hide (show ∀ x ∈ out, x < 4294967296 from fun x hx => by have : x < 1000000000 := HA.out x hx; omega)
      have hbA := hbW.trans (hbel.mono hbW.size)
      have d2w := b0.below hbel lt0
      have hd0 : decide (0 < z) = false := by simp; omega
      have hrl := hrow.rl
      clear hz0
      go_wp2_with fail
      refine (rnorm_any A k c out _ hrl hkc (by unfold maxLen; omega) (by omega) HU32.out V HE.out).mono ?_
      rintro e w6 ⟨A6, n6, c6, rfl, r6, hn6, hc6, hb6⟩
      have q2 := (d2w.below' hb6).cell
      have g2 := (d2w.below' hb6).frozen 0
      go_wp2
      refine bodyPost_ret (v := .agg #[.slice A6 n6 c6]) (by simp [results, Tryz.results78, go_sem, q2]) rfl ?_
      exact fin_struct hbA hb6 (Nat.le_refl _) d2w r6 hn6 hc6

theorem dig_u32' (v : Nat) : ∀ x ∈ dig B9 v, x < 4294967296 := fun x hx => by
  have : x < 1000000000 := dig_lt B9 (by decide) v x hx
  omega
theorem fin_boxE' {w W : World} {g : Nat} {S A : Option Addr} {m d n c u : Nat} {t : TypeId} {er : Int} (hb : Below w.heap.size w W) (b : Box W g #[.slice S m d] t) (hg : w.heap.size ≤ g) (hr : RL W .u32 A n (dig B9 u)) (hn : n ≤ c) (hc : c ≤ maxLen) :
    GivesNE u er w (.returned (.tuple #[.agg #[.slice A n c], .int .i64 er])) (W.setCell ⟨g, 0, none⟩ (.slice A n c)) :=
  ⟨A, n, c, rfl, hr.put b _, hn, hc, hb.setCell hg _⟩
theorem rparse_full (s : ByteArray) (w : World) (hs : 4000 < s.size) : Calls Tryz.prog 46 #[.string s] w (GivesNE 0 6 w) := by
  have hd : decide (4000 < (s.size : Int)) = true := by simp; omega
  go_enter Tryz.func46, Tryz.ntmps46
  go_wp2
  refine bodyPost_ret (v := .tuple #[.agg #[.slice none 0 0], .int .i64 6]) (by simp [results, Tryz.results46, go_sem]) rfl ?_
  exact ⟨none, 0, 0, rfl, RL.nil_, by omega, by simp [maxLen], (Below.refl _ _).alloc (Nat.le_refl _) _⟩

set_option maxHeartbeats 2000000 in
theorem rparse_nodig (s : ByteArray) (w : World) (hs : s.size ≤ 4000) (h : ¬ AllDig (bytesOf s)) : Calls Tryz.prog 46 #[.string s] w (GivesNE 0 3 w) := by
  have HND := hide h
  clear h
  have hd : decide (4000 < (s.size : Int)) = false := by simp; omega
  have HL := hide (bytesOf_length s)
  go_enter Tryz.func46, Tryz.ntmps46
  go_wp2_with fail
  generalize hW : w.alloc _ = W
  obtain ⟨hbW, b0, hz⟩ := boxes1 hW
  clear hW hz
  have k0 := b0.cell
  have f0 := b0.frozen 0
  go_loopw [4] (fun i wr => ∃ k : Nat, k ≤ s.size ∧ i = .int .i64 (k : Int) ∧ wr = W ∧ AllDig ((bytesOf s).take k)) (fun i _ => s.size - (intOf i).toNat)
  case atStart => exact ⟨0, by omega, rfl, rfl, fun x hx => by simp at hx⟩
  case round =>
    obtain ⟨k, hk, rfl, rfl, hal⟩ := hrel
    by_cases hlt : k < s.size
    · have hx := bytesOf_at s k hlt
      have HA := hide hal
      have HX := hide hx
      clear hal hx
      by_cases h1 : s[k].toNat < 48
      · go_wp2
        refine bodyPost_ret (v := .tuple #[.agg #[.slice none 0 0], .int .i64 3]) (by simp [results, Tryz.results46, go_sem, k0]) rfl ?_
        exact ⟨none, 0, 0, rfl, RL.nil_, by omega, by simp [maxLen], hbW.setCell (Nat.le_refl _) _⟩
      · by_cases h2 : 57 < s[k].toNat
        · go_wp2
          refine bodyPost_ret (v := .tuple #[.agg #[.slice none 0 0], .int .i64 3]) (by simp [results, Tryz.results46, go_sem, k0]) rfl ?_
          exact ⟨none, 0, 0, rfl, RL.nil_, by omega, by simp [maxLen], hbW.setCell (Nat.le_refl _) _⟩
        · have HN : Hid (AllDig ((bytesOf s).take (k + 1))) := by
            intro y hy
            rw [take_snoc _ _ _ HX.out] at hy
            rcases List.mem_append.1 hy with h | h
            · exact HA.out y h
            · simp at h; subst h; omega
          go_wp2
          go_roundw
          case rel => exact ⟨k + 1, by omega, by go_num, trivial, HN.out⟩
          case measure => simp [intOf]; omega
    · exfalso
      apply HND.out
      rwa [List.take_of_length_le (by rw [HL.out]; omega)] at hal

set_option maxHeartbeats 2000000 in
theorem rparse_notext (s : ByteArray) (w : World) (hs : s.size ≤ 4000) (h : AllDig (bytesOf s)) (V : Nat) (hV : decV (bytesOf s) = V) (hA : ¬ asc V = bytesOf s) : Calls Tryz.prog 46 #[.string s] w (GivesNE 0 3 w) := by
  have HD := hide h
  have HV := hide hV
  obtain ⟨K, hK⟩ : ∃ K, K = 446 := ⟨_, rfl⟩
  have HLV := hide (show (dig B9 V).length ≤ K from (dig_length_le B9 (by decide) K V).2 (by
    have h1 := decV_lt _ h
    rw [hV, bytesOf_length] at h1
    rw [pow_B9]
    exact Nat.lt_of_lt_of_le h1 (Nat.pow_le_pow_right (by decide) (by omega))))
  have hKb : K ≤ 446 := by omega
  clear hK
  obtain ⟨t, ht⟩ : ∃ t, strN (asc V) = t := ⟨_, rfl⟩
  have HT := hide ht
  have hne : (t.toList == s.toList) = false := by
    have h1 : ¬ t = s := by
      intro h1
      apply hA
      rw [← h1, ← ht, bytesOf_strN (asc_digits V).lt256]
    have h2 : ¬ t.toList = s.toList := by
      intro h2
      rw [Lib.toList_data, Lib.toList_data] at h2
      exact h1 (ByteArray.ext (Array.toList_inj.1 h2))
    simpa using h2
  clear h hV hA ht
  have hd : decide (4000 < (s.size : Int)) = false := by simp; omega
  have HL := hide (bytesOf_length s)
  go_enter Tryz.func46, Tryz.ntmps46
  go_wp2_with fail
  generalize hW : w.alloc _ = W
  obtain ⟨hbW, b0, hz⟩ := boxes1 hW
  clear hW hz
  have k0 := b0.cell
  have f0 := b0.frozen 0
  go_loopw [4] (fun i wr => ∃ k : Nat, k ≤ s.size ∧ i = .int .i64 (k : Int) ∧ wr = W ∧ AllDig ((bytesOf s).take k)) (fun i _ => s.size - (intOf i).toNat)
  case atStart => exact ⟨0, by omega, rfl, rfl, fun x hx => by simp at hx⟩
  case round =>
    obtain ⟨k, hk, rfl, rfl, hal⟩ := hrel
    by_cases hlt : k < s.size
    · have hx := bytesOf_at s k hlt
      have HA := hide hal
      have HX := hide hx
      clear hal hx
      have hxd := HD.out _ (List.mem_of_getElem? HX.out)
      have h1 := hxd.1
      have h2 := hxd.2
      clear hxd
      have HN : Hid (AllDig ((bytesOf s).take (k + 1))) := by
        intro y hy
        rw [take_snoc _ _ _ HX.out] at hy
        rcases List.mem_append.1 hy with h | h
        · exact HA.out y h
        · simp at h; subst h; omega
      go_wp2
      go_roundw
      case rel => exact ⟨k + 1, by omega, by go_num, trivial, HN.out⟩
      case measure => simp [intOf]; omega
    · clear hal
      go_wp2_with fail
      refine (rvalue_any s _ hs HD.out V HV.out).mono ?_
      rintro e w4 ⟨A4, n4, c4, rfl, r4, hn4, hc4, hx⟩
      have hbW := hbW.trans (hx.mono hbW.size)
      have b0 := b0.below' hx
      have hl4 : n4 ≤ 446 := Nat.le_trans (by rw [← r4.len]; exact HLV.out) hKb
      clear hx k0 f0
      go_wp2_with fail
      generalize hW : w4.alloc _ = W5
      obtain ⟨hb5, bx, -⟩ := boxes1 hW
      clear hW
      have b0 := b0.below' hb5
      have r5 := r4.below hb5
      have hbW := hbW.trans (hb5.mono hbW.size)
      clear hb5 r4
      refine (rtext_any A4 n4 c4 _ _ r5 hn4 hc4 (by omega) (dig_u32' V) V (val_dig B9 (by decide) V)).mono ?_
      rintro e w6 ⟨rfl, hx⟩
      rw [HT.out]
      have hbW := hbW.trans (hx.mono hbW.size)
      have b0 := b0.below' hx
      have bx := bx.below' hx
      have r6 := r5.below hx
      have k0 := b0.cell
      have f0 := b0.frozen 0
      have kx := bx.cell
      have hG := fin_boxE' (er := 0) hbW b0 (Nat.le_refl _) r6 hn4 hc4
      have HG := hide hG
      clear hx r5 hG
      go_wp2
      refine bodyPost_ret (v := .tuple #[.agg #[.slice none 0 0], .int .i64 3]) (by simp [results, Tryz.results46, go_sem, k0]) rfl ?_
      exact ⟨none, 0, 0, rfl, RL.nil_, by omega, by simp [maxLen], hbW.setCell (Nat.le_refl _) _⟩

set_option maxHeartbeats 2000000 in
theorem rparse_ok (s : ByteArray) (w : World) (hs : s.size ≤ 4000) (h : AllDig (bytesOf s)) (V : Nat) (hV : decV (bytesOf s) = V) (hA : asc V = bytesOf s) : Calls Tryz.prog 46 #[.string s] w (GivesNE V 0 w) := by
  have HD := hide h
  have HV := hide hV
  obtain ⟨K, hK⟩ : ∃ K, K = 446 := ⟨_, rfl⟩
  have HLV := hide (show (dig B9 V).length ≤ K from (dig_length_le B9 (by decide) K V).2 (by
    have h1 := decV_lt _ h
    rw [hV, bytesOf_length] at h1
    rw [pow_B9]
    exact Nat.lt_of_lt_of_le h1 (Nat.pow_le_pow_right (by decide) (by omega))))
  have hKb : K ≤ 446 := by omega
  clear hK
  obtain ⟨t, ht⟩ : ∃ t, strN (asc V) = t := ⟨_, rfl⟩
  have HT := hide ht
  have hts : t = s := by rw [← ht, hA, strN_bytesOf]
  subst hts
  clear h hV hA ht
  have hd : decide (4000 < (t.size : Int)) = false := by simp; omega
  have HL := hide (bytesOf_length t)
  go_enter Tryz.func46, Tryz.ntmps46
  go_wp2_with fail
  generalize hW : w.alloc _ = W
  obtain ⟨hbW, b0, hz⟩ := boxes1 hW
  clear hW hz
  have k0 := b0.cell
  have f0 := b0.frozen 0
  go_loopw [4] (fun i wr => ∃ k : Nat, k ≤ t.size ∧ i = .int .i64 (k : Int) ∧ wr = W ∧ AllDig ((bytesOf t).take k)) (fun i _ => t.size - (intOf i).toNat)
  case atStart => exact ⟨0, by omega, rfl, rfl, fun x hx => by simp at hx⟩
  case round =>
    obtain ⟨k, hk, rfl, rfl, hal⟩ := hrel
    by_cases hlt : k < t.size
    · have hx := bytesOf_at t k hlt
      have HA := hide hal
      have HX := hide hx
      clear hal hx
      have hxd := HD.out _ (List.mem_of_getElem? HX.out)
      have h1 := hxd.1
      have h2 := hxd.2
      clear hxd
      have HN : Hid (AllDig ((bytesOf t).take (k + 1))) := by
        intro y hy
        rw [take_snoc _ _ _ HX.out] at hy
        rcases List.mem_append.1 hy with h | h
        · exact HA.out y h
        · simp at h; subst h; omega
      go_wp2
      go_roundw
      case rel => exact ⟨k + 1, by omega, by go_num, trivial, HN.out⟩
      case measure => simp [intOf]; omega
    · clear hal
      go_wp2_with fail
      refine (rvalue_any t _ hs HD.out V HV.out).mono ?_
      rintro e w4 ⟨A4, n4, c4, rfl, r4, hn4, hc4, hx⟩
      have hbW := hbW.trans (hx.mono hbW.size)
      have b0 := b0.below' hx
      have hl4 : n4 ≤ 446 := Nat.le_trans (by rw [← r4.len]; exact HLV.out) hKb
      clear hx k0 f0
      go_wp2_with fail
      generalize hW : w4.alloc _ = W5
      obtain ⟨hb5, bx, -⟩ := boxes1 hW
      clear hW
      have b0 := b0.below' hb5
      have r5 := r4.below hb5
      have hbW := hbW.trans (hb5.mono hbW.size)
      clear hb5 r4
      refine (rtext_any A4 n4 c4 _ _ r5 hn4 hc4 (by omega) (dig_u32' V) V (val_dig B9 (by decide) V)).mono ?_
      rintro e w6 ⟨rfl, hx⟩
      rw [HT.out]
      have hbW := hbW.trans (hx.mono hbW.size)
      have b0 := b0.below' hx
      have bx := bx.below' hx
      have r6 := r5.below hx
      have k0 := b0.cell
      have f0 := b0.frozen 0
      have kx := bx.cell
      have hG := fin_boxE' (er := 0) hbW b0 (Nat.le_refl _) r6 hn4 hc4
      have HG := hide hG
      clear hx r5 hG
      go_wp2
      refine bodyPost_ret (v := .tuple #[.agg #[.slice A4 n4 c4], .int .i64 0]) (by simp [results, Tryz.results46, go_sem, k0]) rfl ?_
      exact HG.out

end Go.Proofs.YtoeknkakdoemfaaGreatDoor
