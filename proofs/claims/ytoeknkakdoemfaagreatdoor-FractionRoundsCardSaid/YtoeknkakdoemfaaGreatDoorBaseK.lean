/- The contracts of natural.isText, natural.readLimb, natural.Parse. -/
import Derived.Test.YtoeknkakdoemfaaGreatDoorBaseF
import Derived.Test.YtoeknkakdoemfaaGreatDoorBox
import Derived.WalkSpells
import Derived.Test.YtoeknkakdoemfaaGreatDoorSub
import Derived.Test.YtoeknkakdoemfaaGreatDoorRNorm
namespace Go.Proofs.YtoeknkakdoemfaaGreatDoor
open Go Go.RowKit

set_option maxHeartbeats 1000000 in
theorem readLimb_any (s : ByteArray) (w : World) (hs : s.size ≤ 9) (hd : AllDig (bytesOf s)) (v : Nat) (hv : decV (bytesOf s) = v) :
    Calls Tryz.prog 68 #[.string s] w fun e w' => e = .returned (.int .u32 (v : Int)) ∧ w = w' := by
  have HD := hide hd
  have HV := hide hv
  have HL := hide (bytesOf_length s)
  clear hd hv
  go_enter Tryz.func68, Tryz.ntmps68
  go_wp2
  go_loop [3, 4, 7] (fun c _ i => ∃ k V : Nat, k ≤ s.size ∧ i = .int .i64 (k : Int) ∧ c = .int .u32 (V : Int) ∧ decV ((bytesOf s).take k) = V) (fun _ _ i => s.size - (intOf i).toNat)
  case atStart => exact ⟨0, 0, by omega, rfl, rfl, rfl⟩
  case round =>
    obtain ⟨k, V, hk, rfl, rfl, hval⟩ := hrel
    by_cases hlt : k < s.size
    · have hx := bytesOf_at s k hlt
      have hxd := HD.out _ (List.mem_of_getElem? hx)
      have hVb : V < 100000000 := by
        have h1 := decV_lt ((bytesOf s).take k) (HD.out.take k)
        rw [hval, List.length_take, HL.out, Nat.min_eq_left (by omega)] at h1
        exact Nat.lt_of_lt_of_le h1 (Nat.pow_le_pow_right (by decide) (by omega : k ≤ 8))
      have HN := hide (show decV ((bytesOf s).take (k + 1)) = 10 * V + (s[k].toNat - 48) from by rw [take_snoc _ _ _ hx, decV_snoc, hval])
      have hx1 := hxd.1
      have hx2 := hxd.2
      clear hx hxd hval
      go_wp2
      go_round
      case rel => exact ⟨k + 1, 10 * V + (s[k].toNat - 48), by omega, by go_num, by congr 1; omega, HN.out⟩
      case measure => simp [intOf]; omega
    · obtain rfl : k = s.size := by omega
      have HE := hide (show V = v from by rw [← HV.out, ← hval, List.take_of_length_le (by rw [HL.out]; exact Nat.le_refl _)])
      clear hval
      go_wp2
      go_ret
      exact ⟨ret_int (by rw [HE.out]), rfl⟩

set_option maxHeartbeats 1000000 in
theorem isText_any (s : ByteArray) (w : World) (hs : s.size ≤ maxLen) (b : Bool) (hb : b = true ↔ IsT (bytesOf s)) :
    Calls Tryz.prog 67 #[.string s] w fun e w' => e = .returned (.bool b) ∧ w = w' := by
  unfold maxLen at hs
  have HB := hide hb
  have HL := hide (bytesOf_length s)
  clear hb
  go_enter Tryz.func67, Tryz.ntmps67
  go_wp2
  go_loop [3, 6] (fun _ i => ∃ k : Nat, k ≤ s.size ∧ i = .int .i64 (k : Int) ∧ AllDig ((bytesOf s).take k)) (fun _ i => s.size - (intOf i).toNat)
  case atStart => exact ⟨0, by omega, rfl, fun x hx => by simp at hx⟩
  case round =>
    obtain ⟨k, hk, rfl, hal⟩ := hrel
    by_cases hlt : k < s.size
    · have hx := bytesOf_at s k hlt
      have HA := hide hal
      have HX := hide hx
      clear hal hx
      by_cases h1 : s[k].toNat < 48
      · have HF := hide (show b = false from by
          rcases Bool.eq_false_or_eq_true b with h | h
          · have := (HB.out.1 h).1 _ (List.mem_of_getElem? HX.out)
            omega
          · exact h)
        go_wp2
        go_ret
        exact ⟨by rw [HF.out]; rfl, rfl⟩
      · by_cases h2 : 57 < s[k].toNat
        · have HF := hide (show b = false from by
            rcases Bool.eq_false_or_eq_true b with h | h
            · have := (HB.out.1 h).1 _ (List.mem_of_getElem? HX.out)
              omega
            · exact h)
          go_wp2
          go_ret
          exact ⟨by rw [HF.out]; rfl, rfl⟩
        · have HN : Hid (AllDig ((bytesOf s).take (k + 1))) := by
            intro y hy
            rw [take_snoc _ _ _ HX.out] at hy
            rcases List.mem_append.1 hy with h | h
            · exact HA.out y h
            · simp at h; subst h; omega
          go_wp2
          go_round
          case rel => exact ⟨k + 1, by omega, by go_num, HN.out⟩
          case measure => simp [intOf]; omega
    · obtain rfl : k = s.size := by omega
      rw [List.take_of_length_le (by rw [HL.out]; exact Nat.le_refl _)] at hal
      have HA := hide hal
      have ht : s.toList = s.data.toList := Lib.toList_data s
      have HTL := hide ht
      have hbz : bytesOf s = s.toList.map UInt8.toNat := by rw [ht]; rfl
      have HBZ := hide hbz
      clear hal ht hbz
      by_cases h48 : s.toList = [48]
      · have HF := hide (show b = true from HB.out.2 ⟨HA.out, .inl (by rw [HBZ.out, h48]; rfl)⟩)
        go_wp2
        go_ret
        exact ⟨by rw [HF.out]; rfl, rfl⟩
      · have e48 : (s.toList == [48]) = false := by simpa using h48
        by_cases hnil : s.toList = []
        · have HF := hide (show b = false from by
            rcases Bool.eq_false_or_eq_true b with h | h
            · exfalso
              rcases (HB.out.1 h).2 with h1 | ⟨y, m, h1, _⟩
              · rw [HBZ.out, hnil] at h1; cases h1
              · rw [HBZ.out, hnil] at h1; cases h1
            · exact h)
          go_wp2
          go_ret
          exact ⟨by rw [HF.out]; rfl, rfl⟩
        · have enil : s.toList.isEmpty = false := by simpa using hnil
          have hpos : 0 < s.size := by
            rcases Nat.eq_zero_or_pos s.size with h | h
            · exfalso
              apply hnil
              apply List.eq_nil_of_length_eq_zero
              have := HL.out
              rw [HBZ.out, List.length_map] at this
              omega
            · exact h
          have h0 := bytesOf_at s 0 hpos
          obtain ⟨y, m, hym⟩ : ∃ y m, bytesOf s = y :: m := by
            rcases hb : bytesOf s with _ | ⟨y, m⟩
            · rw [hb] at h0; cases h0
            · exact ⟨y, m, rfl⟩
          have hy : s[0].toNat = y := by rw [hym] at h0; simpa using h0.symm
          have HYM := hide hym
          have HY := hide hy
          clear h0 hym hy
          by_cases hy48 : s[0].toNat = 48
          · have HF := hide (show b = false from by
              rcases Bool.eq_false_or_eq_true b with h | h
              · exfalso
                rcases (HB.out.1 h).2 with h1 | ⟨y', m', h1, h2⟩
                · apply h48
                  have h3 := HBZ.out
                  rw [h1] at h3
                  rcases hl : s.toList with _ | ⟨a, _ | ⟨b', r⟩⟩
                  · exact absurd hl hnil
                  · rw [hl] at h3
                    simp at h3
                    have : a = 48 := UInt8.toNat_inj.1 (by rw [← h3]; rfl)
                    rw [this]
                  · rw [hl] at h3; simp at h3
                · rw [HYM.out] at h1
                  injection h1 with h1 _
                  apply h2
                  rw [← h1, ← HY.out, hy48]
              · exact h)
            have hne : ((s[0].toNat : Int) != 48) = false := by rw [hy48]; rfl
            clear hy48
            go_wp2
            go_ret
            exact ⟨by rw [HF.out]; rfl, rfl⟩
          · have HF := hide (show b = true from HB.out.2 ⟨HA.out, .inr ⟨y, m, HYM.out, by rw [← HY.out]; exact hy48⟩⟩)
            have hne : ((s[0].toNat : Int) != 48) = true := by simp; omega
            clear hy48
            go_wp2
            go_ret
            exact ⟨by rw [HF.out]; rfl, rfl⟩
end Go.Proofs.YtoeknkakdoemfaaGreatDoor

/- The contract of natural.Parse. -/
namespace Go.Proofs.YtoeknkakdoemfaaGreatDoor
open Go Go.RowKit

theorem isText_yes (s : ByteArray) (w : World) (hs : s.size ≤ maxLen) (h : IsT (bytesOf s)) : Calls Tryz.prog 67 #[.string s] w fun e w' => e = .returned (.bool true) ∧ w = w' :=
  isText_any s w hs true ⟨(fun _ => h), (fun _ => rfl)⟩
theorem isText_no (s : ByteArray) (w : World) (hs : s.size ≤ maxLen) (h : ¬ IsT (bytesOf s)) : Calls Tryz.prog 67 #[.string s] w fun e w' => e = .returned (.bool false) ∧ w = w' :=
  isText_any s w hs false ⟨(fun h1 => by cases h1), (fun h1 => absurd h1 h)⟩
theorem parse_full (s : ByteArray) (w : World) (hs : 4000 < s.size) : Calls Tryz.prog 34 #[.string s] w (GivesNE 0 6 w) := by
  have hd : decide (4000 < (s.size : Int)) = true := by simp; omega
  go_enter Tryz.func34, Tryz.ntmps34
  go_wp2
  refine bodyPost_ret (v := .tuple #[.agg #[.slice none 0 0], .int .i64 6]) (by simp [results, Tryz.results34, go_sem]) rfl ?_
  exact ⟨none, 0, 0, rfl, RL.nil_, by omega, by simp [maxLen], (Below.refl _ _).alloc (Nat.le_refl _) _⟩
theorem parse_form (s : ByteArray) (w : World) (hs : s.size ≤ 4000) (h : ¬ IsT (bytesOf s)) : Calls Tryz.prog 34 #[.string s] w (GivesNE 0 3 w) := by
  have hd : decide (4000 < (s.size : Int)) = false := by simp; omega
  have HH := hide h
  clear h
  go_enter Tryz.func34, Tryz.ntmps34
  go_wp2_with fail
  refine (isText_no s _ (by unfold maxLen; omega) HH.out).mono ?_
  rintro e w1 ⟨rfl, rfl⟩
  go_wp2
  refine bodyPost_ret (v := .tuple #[.agg #[.slice none 0 0], .int .i64 3]) (by simp [results, Tryz.results34, go_sem]) rfl ?_
  exact ⟨none, 0, 0, rfl, RL.nil_, by omega, by simp [maxLen], (Below.refl _ _).alloc (Nat.le_refl _) _⟩

set_option maxHeartbeats 2000000 in
set_option maxRecDepth 100000 in
theorem parse_ok (s : ByteArray) (w : World) (hs : s.size ≤ 4000) (h : IsT (bytesOf s)) (V : Nat) (hV : decV (bytesOf s) = V) : Calls Tryz.prog 34 #[.string s] w (GivesNE V 0 w) := by
  have hd : decide (4000 < (s.size : Int)) = false := by simp; omega
  have HH := hide h
  have HD := hide h.1
  have HV := hide hV
  have HL := hide (bytesOf_length s)
  clear h hV
  go_enter Tryz.func34, Tryz.ntmps34
  go_wp2_with fail
  generalize hW : w.alloc _ = W
  obtain ⟨hbW, b0, hz⟩ := boxes1 hW
  clear hW hz
  refine (isText_yes s _ (by unfold maxLen; omega) HH.out).mono ?_
  rintro e w1 ⟨rfl, rfl⟩
  obtain ⟨i0, hi, hz0, hz1, hz2⟩ := info_parts u32_info
  go_wp2_with (at_make; refine wpList_make_own _ rfl _ _ 22 rfl W.heap.size 71 i0 _ 1 Tryz.underlying22 hi hz0 hz1 .i64 .i64 _ (s.size / 9 + 1) rfl rfl (by omega) (by rw [hz2]; omega) (by unfold maxLen; omega) (Nat.le_refl _) ?_; intro w3 hown3 hgr3; have hb3 : Below W.heap.size W w3 := (Below.refl _ _).grown hgr3 (Nat.le_refl _) (fun k hk => by cases hk))
  have hrow3 : Row w3 W.heap.size .u32 71 (some ⟨W.heap.size, 0, none⟩) 0 (s.size / 9 + 1) [] := hown3
  clear hown3 hgr3
  have lt0 := b0.lt
  go_loopw [4, 5] (fun l e wr => ∃ (k : Nat) (z : Int) (A : Option Addr) (c : Nat) (out : List Nat), -9 < z ∧ 9 * (k : Int) + z = s.size ∧ e = .int .i64 z ∧ l = .slice A k c ∧ Row wr W.heap.size .u32 71 A k c out ∧ Below W.heap.size W wr ∧
      val B9 out + B9 ^ k * decV ((bytesOf s).take z.toNat) = V ∧ ∀ x ∈ out, x < B9) (fun _ e _ => (intOf e).toNat)
  case atStart => exact ⟨0, s.size, _, _, [], by omega, by omega, rfl, rfl, hrow3, hb3, by simp only [Int.toNat_natCast]; rw [List.take_of_length_le (by rw [HL.out]; exact Nat.le_refl _), HV.out]; simp [val], fun x hx => by simp at hx⟩
  case round =>
    obtain ⟨k, z, A, c, out, hz9, hkz, rfl, rfl, hrow, hbel, hval, hall⟩ := hrel
    have HK := hide hrow.len
    have HVL := hide hval
    have HA := hide hall
    have hbs := hbel.size
    have hkc := hrow.le.1
    have hcm := hrow.le.2
    unfold maxLen at hcm
    clear hval hall hrow3 hb3
    by_cases hpos : 0 < z
    · obtain ⟨e, rfl⟩ : ∃ e : Nat, z = e := ⟨z.toNat, by omega⟩
      have hek : e ≤ s.size := by omega
      have hmx : max (0 : Int) ((e : Int) - 9) = ((e - 9 : Nat) : Int) := by omega
      have hv := HVL.out
      rw [Int.toNat_natCast] at hv
      have HS := hide (chunk_step HK.out hv (by rw [HL.out]; exact hek))
      have hbt : bytesOf (s.extract (e - 9) e) = ((bytesOf s).take e).drop (e - 9) := bytesOf_extract s _ _
      have hxd : AllDig (bytesOf (s.extract (e - 9) e)) := by rw [hbt]; exact (HD.out.take e).drop (e - 9)
      have hxl : (s.extract (e - 9) e).size ≤ 9 := by rw [← bytesOf_length, hbt, List.length_drop, List.length_take, HL.out]; omega
      have HXD := hide hxd
      have HXL := hide hxl
      have HBT := hide hbt
      have hxv : decV (((bytesOf s).take e).drop (e - 9)) < 1000000000 := by
        have h1 := decV_lt _ hxd
        rw [bytesOf_length] at h1
        rw [← hbt]
        exact Nat.lt_of_lt_of_le h1 (Nat.pow_le_pow_right (by decide) hxl)
      obtain ⟨x, hx⟩ : ∃ x, decV (((bytesOf s).take e).drop (e - 9)) = x := ⟨_, rfl⟩
      rw [hx] at HS hxv
      have HXV := hide (show decV (bytesOf (s.extract (e - 9) e)) = x from by rw [hbt, hx])
      clear hv hbt hxd hxl hx
      go_wp2_with fail
      refine (readLimb_any _ _ HXL.out HXD.out x HXV.out).mono ?_
      rintro e' w4 ⟨rfl, rfl⟩
      go_wp2_with (at_builtin; refine wpList_append_rl _ rfl _ _ 22 rfl W.heap.size 71 .u32 4 Tryz.underlying22 u32_info A k c out rfl (hrow.alloc _) (some ⟨wr.heap.size, 0, none⟩) 1 1 [x] rfl (RL.one wr .u32 71 (by omega)) (by omega) (k + 1) rfl (by omega) (by simp; omega) ?_; intro A2 c2 w5 hrow1 hbel1 hsz1)
      go_roundw
      case rel => exact ⟨k + 1, (e : Int) - 9, A2, c2, out ++ [x], by omega, by omega, rfl, rfl, hrow1, (hbel.alloc hbs _).trans hbel1, by rw [show ((e : Int) - 9).toNat = e - 9 from by omega]; exact HS.out, all_snoc HA.out hxv⟩
      case measure => simp [intOf]; omega
    · have hz0 : z.toNat = 0 := by omega
      have HE := hide (show trimL out = dig B9 V from by
        have h3 := HVL.out
        rw [hz0, List.take_zero, decV_nil, Nat.mul_zero, Nat.add_zero] at h3
        rw [trimL_dig B9 (by decide) out HA.out, h3])
      have q0 := (b0.below hbel lt0).cell
      have f0 := (b0.below hbel lt0).frozen 0
      have hd0 : decide (0 < z) = false := by simp; omega
      clear hz0
      go_wp2_with fail
      refine (trim_any A k c out _ hrow.rl hkc (by unfold maxLen; omega)).mono ?_
      rintro e' w4 ⟨rfl, rfl⟩
      have hlen : (trimL out).length ≤ k := by have := trimL_length_le out; rw [HK.out] at this; exact this
      have hr4 : RL wr .u32 A (trimL out).length (dig B9 V) := by
        have h4 := hrow.rl.take_ hlen
        rw [← trimL_eq_take, HE.out] at h4
        rw [HE.out]; exact h4
      have hn4 : (trimL out).length ≤ c := by omega
      generalize (trimL out).length = n4 at *
      go_wp2
      refine bodyPost_ret (v := .tuple #[.agg #[.slice A n4 c], .int .i64 0]) (by simp [results, Tryz.results34, go_sem, q0]) rfl ?_
      exact fin_structE hbW hbel (Nat.le_refl _) b0 hr4 hn4 (by unfold maxLen; omega)
end Go.Proofs.YtoeknkakdoemfaaGreatDoor
