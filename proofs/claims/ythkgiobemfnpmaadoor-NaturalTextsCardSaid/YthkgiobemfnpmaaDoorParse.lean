/- The contracts of natural.isText, natural.readLimb, natural.Parse. -/
import Derived.Test.YthkgiobemfnpmaaDoorDec
import Derived.Test.YthkgiobemfnpmaaDoorBox
import Derived.WalkSpells
namespace Go.Proofs.YthkgiobemfnpmaaDoor
open Go Go.RowKit

/-- the bytes of a string -/
def bytesOf (s : ByteArray) : List Nat := s.data.toList.map UInt8.toNat
theorem bytesOf_length (s : ByteArray) : (bytesOf s).length = s.size := by simp [bytesOf]
theorem bytesOf_at (s : ByteArray) (k : Nat) (h : k < s.size) : (bytesOf s)[k]? = some s[k].toNat := by
  unfold bytesOf
  rw [List.getElem?_map, List.getElem?_eq_getElem (by simpa using h)]
  rfl
theorem bytesOf_lt (s : ByteArray) : ∀ x ∈ bytesOf s, x < 256 := by
  intro x hx
  unfold bytesOf at hx
  obtain ⟨y, _, rfl⟩ := List.mem_map.1 hx
  exact UInt8.toNat_lt y
theorem strN_bytesOf (s : ByteArray) : strN (bytesOf s) = s := by
  apply ByteArray.ext
  simp [strN, bytesOf, Function.comp_def]
theorem bytesOf_strN {l : List Nat} (h : ∀ x ∈ l, x < 256) : bytesOf (strN l) = l := by
  unfold bytesOf strN
  simp only [List.map_map]
  conv => rhs; rw [← List.map_id l]
  apply List.map_congr_left
  intro x hx
  have := h x hx
  simp [Nat.mod_eq_of_lt this]
theorem bytesOf_inj {s t : ByteArray} (h : bytesOf s = bytesOf t) : s = t := by rw [← strN_bytesOf s, h, strN_bytesOf]
theorem bytesOf_extract (s : ByteArray) (a b : Nat) : bytesOf (s.extract a b) = ((bytesOf s).take b).drop a := by
  unfold bytesOf
  rw [← List.map_take, ← List.map_drop]
  congr 1
  simp [ByteArray.data_extract, List.drop_take]
theorem AllDig.lt256 {l : List Nat} (h : AllDig l) : ∀ x ∈ l, x < 256 := fun x hx => by have := h x hx; omega

set_option maxHeartbeats 1000000 in
theorem readLimb_any (s : ByteArray) (w : World) (hs : s.size ≤ 9) (hd : AllDig (bytesOf s)) (v : Nat) (hv : decV (bytesOf s) = v) :
    Calls Tryd.prog 56 #[.string s] w fun e w' => e = .returned (.int .u32 (v : Int)) ∧ w = w' := by
  have HD := hide hd
  have HV := hide hv
  have HL := hide (bytesOf_length s)
  clear hd hv
  go_enter Tryd.func56, Tryd.ntmps56
  go_wp2
  go_loop [3, 4, 7] (fun c _ i => ∃ k V : Nat, k ≤ s.size ∧ i = .int .i64 (k : Int) ∧ c = .int .u32 (V : Int) ∧ decV ((bytesOf s).take k) = V) (fun _ _ i => s.size - (intOf i).toNat)
  case atStart => exact ⟨0, 0, by omega, rfl, rfl, rfl⟩
  case round =>
    obtain ⟨k, V, hk, rfl, rfl, hval⟩ := hrel
    by_cases hlt : k < s.size
    · have hx := bytesOf_at s k hlt
      have hxd := HD.out _ (List.mem_of_getElem? hx)
      have hVb : V < 100000000 := by
        have h1 := decV_lt ((bytesOf s).take k) (HD.out.take k)
        rw [hval, List.length_take, HL.out, Nat.min_eq_left (by omega)] at h1
        exact Nat.lt_of_lt_of_le h1 (Nat.pow_le_pow_right (by decide) (by omega : k ≤ 8))
      have HN := hide (show decV ((bytesOf s).take (k + 1)) = 10 * V + (s[k].toNat - 48) from by rw [take_snoc _ _ _ hx, decV_snoc, hval])
      have hx1 := hxd.1
      have hx2 := hxd.2
      clear hx hxd hval
      go_wp2
      go_round
      case rel => exact ⟨k + 1, 10 * V + (s[k].toNat - 48), by omega, by go_num, by congr 1; omega, HN.out⟩
      case measure => simp [intOf]; omega
    · obtain rfl : k = s.size := by omega
      have HE := hide (show V = v from by rw [← HV.out, ← hval, List.take_of_length_le (by rw [HL.out]; exact Nat.le_refl _)])
      clear hval
      go_wp2
      go_ret
      exact ⟨ret_int (by rw [HE.out]), rfl⟩

set_option maxHeartbeats 1000000 in
theorem isText_any (s : ByteArray) (w : World) (hs : s.size ≤ maxLen) (b : Bool) (hb : b = true ↔ IsT (bytesOf s)) :
    Calls Tryd.prog 55 #[.string s] w fun e w' => e = .returned (.bool b) ∧ w = w' := by
  unfold maxLen at hs
  have HB := hide hb
  have HL := hide (bytesOf_length s)
  clear hb
  go_enter Tryd.func55, Tryd.ntmps55
  go_wp2
  go_loop [3, 6] (fun _ i => ∃ k : Nat, k ≤ s.size ∧ i = .int .i64 (k : Int) ∧ AllDig ((bytesOf s).take k)) (fun _ i => s.size - (intOf i).toNat)
  case atStart => exact ⟨0, by omega, rfl, fun x hx => by simp at hx⟩
  case round =>
    obtain ⟨k, hk, rfl, hal⟩ := hrel
    by_cases hlt : k < s.size
    · have hx := bytesOf_at s k hlt
      have HA := hide hal
      have HX := hide hx
      clear hal hx
      by_cases h1 : s[k].toNat < 48
      · have HF := hide (show b = false from by
          rcases Bool.eq_false_or_eq_true b with h | h
          · have := (HB.out.1 h).1 _ (List.mem_of_getElem? HX.out)
            omega
          · exact h)
        go_wp2
        go_ret
        exact ⟨by rw [HF.out]; rfl, rfl⟩
      · by_cases h2 : 57 < s[k].toNat
        · have HF := hide (show b = false from by
            rcases Bool.eq_false_or_eq_true b with h | h
            · have := (HB.out.1 h).1 _ (List.mem_of_getElem? HX.out)
              omega
            · exact h)
          go_wp2
          go_ret
          exact ⟨by rw [HF.out]; rfl, rfl⟩
        · have HN : Hid (AllDig ((bytesOf s).take (k + 1))) := by
            intro y hy
            rw [take_snoc _ _ _ HX.out] at hy
            rcases List.mem_append.1 hy with h | h
            · exact HA.out y h
            · simp at h; subst h; omega
          go_wp2
          go_round
          case rel => exact ⟨k + 1, by omega, by go_num, HN.out⟩
          case measure => simp [intOf]; omega
    · obtain rfl : k = s.size := by omega
      rw [List.take_of_length_le (by rw [HL.out]; exact Nat.le_refl _)] at hal
      have HA := hide hal
      have ht : s.toList = s.data.toList := Lib.toList_data s
      have HTL := hide ht
      have hbz : bytesOf s = s.toList.map UInt8.toNat := by rw [ht]; rfl
      have HBZ := hide hbz
      clear hal ht hbz
      by_cases h48 : s.toList = [48]
      · have HF := hide (show b = true from HB.out.2 ⟨HA.out, .inl (by rw [HBZ.out, h48]; rfl)⟩)
        go_wp2
        go_ret
        exact ⟨by rw [HF.out]; rfl, rfl⟩
      · have e48 : (s.toList == [48]) = false := by simpa using h48
        by_cases hnil : s.toList = []
        · have HF := hide (show b = false from by
            rcases Bool.eq_false_or_eq_true b with h | h
            · exfalso
              rcases (HB.out.1 h).2 with h1 | ⟨y, m, h1, _⟩
              · rw [HBZ.out, hnil] at h1; cases h1
              · rw [HBZ.out, hnil] at h1; cases h1
            · exact h)
          go_wp2
          go_ret
          exact ⟨by rw [HF.out]; rfl, rfl⟩
        · have enil : s.toList.isEmpty = false := by simpa using hnil
          have hpos : 0 < s.size := by
            rcases Nat.eq_zero_or_pos s.size with h | h
            · exfalso
              apply hnil
              apply List.eq_nil_of_length_eq_zero
              have := HL.out
              rw [HBZ.out, List.length_map] at this
              omega
            · exact h
          have h0 := bytesOf_at s 0 hpos
          obtain ⟨y, m, hym⟩ : ∃ y m, bytesOf s = y :: m := by
            rcases hb : bytesOf s with _ | ⟨y, m⟩
            · rw [hb] at h0; cases h0
            · exact ⟨y, m, rfl⟩
          have hy : s[0].toNat = y := by rw [hym] at h0; simpa using h0.symm
          have HYM := hide hym
          have HY := hide hy
          clear h0 hym hy
          by_cases hy48 : s[0].toNat = 48
          · have HF := hide (show b = false from by
              rcases Bool.eq_false_or_eq_true b with h | h
              · exfalso
                rcases (HB.out.1 h).2 with h1 | ⟨y', m', h1, h2⟩
                · apply h48
                  have h3 := HBZ.out
                  rw [h1] at h3
                  rcases hl : s.toList with _ | ⟨a, _ | ⟨b', r⟩⟩
                  · exact absurd hl hnil
                  · rw [hl] at h3
                    simp at h3
                    have : a = 48 := UInt8.toNat_inj.1 (by rw [← h3]; rfl)
                    rw [this]
                  · rw [hl] at h3; simp at h3
                · rw [HYM.out] at h1
                  injection h1 with h1 _
                  apply h2
                  rw [← h1, ← HY.out, hy48]
              · exact h)
            have hne : ((s[0].toNat : Int) != 48) = false := by rw [hy48]; rfl
            clear hy48
            go_wp2
            go_ret
            exact ⟨by rw [HF.out]; rfl, rfl⟩
          · have HF := hide (show b = true from HB.out.2 ⟨HA.out, .inr ⟨y, m, HYM.out, by rw [← HY.out]; exact hy48⟩⟩)
            have hne : ((s[0].toNat : Int) != 48) = true := by simp; omega
            clear hy48
            go_wp2
            go_ret
            exact ⟨by rw [HF.out]; rfl, rfl⟩
end Go.Proofs.YthkgiobemfnpmaaDoor
