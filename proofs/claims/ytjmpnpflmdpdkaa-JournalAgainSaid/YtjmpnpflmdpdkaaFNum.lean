/- Numbers of bytes: number and digits of the program, number and big of the reference. -/
import Derived.Test.YtjmpnpflmdpdkaaFByt
namespace Go.Proofs.Ytjmpnpflmdpdkaa
open Go Go.RowKit FM

theorem num_take {xs : List Nat} {k x v : Nat} (h : xs[k]? = some x) (hp : num (xs.take k) = v) : num (xs.take (k + 1)) = v * 256 + x := by
  rw [FM.take_snoc h, num_snoc, hp]
theorem num_small {xs : List Nat} {n k v : Nat} (hb : By xs) (hl : xs.length = n) (hn : n ≤ 8) (hk : k < n) (h : num (xs.take k) = v) : v < 72057594037927936 := by
  have h1 := num_lt (hb.take k)
  have h2 : (xs.take k).length ≤ 7 := by rw [List.length_take]; omega
  have h3 : 256 ^ (xs.take k).length ≤ 256 ^ 7 := Nat.pow_le_pow_right (by omega) h2
  omega
theorem num_end {xs : List Nat} {n k v s : Nat} (hk : k ≤ n) (hlt : ¬ k < n) (hl : xs.length = n) (h : num (xs.take k) = v) (hs : num xs = s) : v = s := by
  obtain rfl : k = n := by omega
  rw [List.take_of_length_le (by omega)] at h
  omega
set_option maxHeartbeats 1000000 in
theorem number_any (A : Option Addr) (n c : Nat) (xs : List Nat) (w : World) (hx : BR w A n xs) (hn : n ≤ 8) (s : Nat) (hs : num xs = s) :
    Calls Try.prog 48 #[.slice A n c] w fun e w' => e = .returned (.int .u64 (s : Int)) ∧ w = w' := by
  have HX := hide hx
  have HS := hide hs
  clear hx hs
  go_enter Try.func48, Try.ntmps48
  go_wp2_with fail
  go_loop [3, 8] (fun p i => ∃ (k v : Nat), k ≤ n ∧ i = .int .i64 (k : Int) ∧ p = .int .u64 (v : Int) ∧ Hid (num (xs.take k) = v)) (fun _ i => n - (intOf i).toNat)
  case atStart => exact ⟨0, 0, by omega, rfl, rfl, rfl⟩
  case round =>
    obtain ⟨k, v, hk, rfl, rfl, HA⟩ := hrel
    by_cases hlt : k < n
    · obtain ⟨b', o, x, rfl, hx, hxb, hcell⟩ := HX.out.at_ hlt
      have HN := hide (num_take hx HA.out)
      have hv := num_small HX.out.2 HX.out.len hn hlt HA.out
      clear hx
      go_wp2_with fail
      go_round
      case rel =>
        refine ⟨k + 1, v * 256 + x, by omega, by go_num, ?_, HN⟩
        have e1 : ((v : Int) * 256) = ((v * 2 ^ 8 : Nat) : Int) := by omega
        rw [e1, or64 _ _ (by omega) (by omega), or_sum _ _ _ (by omega)]
      case measure => simp [intOf]; omega
    · go_wp2_with fail
      go_ret
      exact ⟨ret_int (congrArg Nat.cast (num_end hk hlt HX.out.len HA.out HS.out)), rfl⟩
set_option maxHeartbeats 1000000 in
theorem rnumber_any (A : Option Addr) (n c : Nat) (xs : List Nat) (w : World) (hx : BR w A n xs) (hn : n ≤ 8) (s : Nat) (hs : num xs = s) :
    Calls Try.prog 46 #[.slice A n c] w fun e w' => e = .returned (.int .u64 (s : Int)) ∧ w = w' := by
  have HX := hide hx
  have HS := hide hs
  clear hx hs
  go_enter Try.func46, Try.ntmps46
  go_wp2_with fail
  go_loop [3, 4] (fun p i => ∃ (k v : Nat), k ≤ n ∧ i = .int .i64 (k : Int) ∧ p = .int .u64 (v : Int) ∧ Hid (num (xs.take k) = v)) (fun _ i => n - (intOf i).toNat)
  case atStart => exact ⟨0, 0, by omega, rfl, rfl, rfl⟩
  case round =>
    obtain ⟨k, v, hk, rfl, rfl, HA⟩ := hrel
    by_cases hlt : k < n
    · obtain ⟨b', o, x, rfl, hx, hxb, hcell⟩ := HX.out.at_ hlt
      have HN := hide (num_take hx HA.out)
      have hv := num_small HX.out.2 HX.out.len hn hlt HA.out
      clear hx
      go_wp2_with fail
      go_round
      case rel => exact ⟨k + 1, v * 256 + x, by omega, by go_num, by go_num, HN⟩
      case measure => simp [intOf]; omega
    · go_wp2_with fail
      go_ret
      exact ⟨ret_int (congrArg Nat.cast (num_end hk hlt HX.out.len HA.out HS.out)), rfl⟩

/-- a row of the call's own -/
def OwnB (w : World) (base g : Nat) (xs : List Nat) : Prop := Own w g .u8 5 xs ∧ base ≤ g
theorem Own.row {w : World} {base g : Nat} {k : IntKind} {t : TypeId} {xs : List Nat} (h : Own w g k t xs) (hb : base ≤ g) (hm : xs.length ≤ maxLen) {n : Nat} (hn : xs.length = n) : Row w base k t (some ⟨g, 0, none⟩) n n xs := by
  subst hn
  refine ⟨by simp [cells_length], .inr ⟨g, xs.length, _, rfl, hb, h, Nat.le_refl _, hm, by simp [cells_length], by simp; rw [List.take_of_length_le (by rw [cells_length]; exact Nat.le_refl _)]⟩⟩
theorem u8_info : (Try.prog.info? 5).map (fun i => (i.zero, i.size, i.bytes)) = some (some (.int .u8 0), 1, 1) := by kernel_rfl
/-- the digits as far as they stand -/
def pre (v m k : Nat) : List Nat := (big v m).take k ++ List.replicate (m - k) 0
theorem pre_len {v m k : Nat} (hk : k ≤ m) : (pre v m k).length = m := by simp [pre, big_len]; omega
theorem pre_zero (v m : Nat) : pre v m 0 = List.replicate m 0 := by simp [pre]
theorem pre_all (v m : Nat) : pre v m m = big v m := by simp [pre, List.take_of_length_le (Nat.le_of_eq (big_len m v))]
theorem pre_set {v m k x : Nat} (hk : k < m) (hx : v / 256 ^ (m - 1 - k) % 256 = x) : (pre v m k).set k x = pre v m (k + 1) := by
  have h1 := big_get m v k hk
  have h2 : ((big v m).take k).length = k := by simp [big_len]; omega
  unfold pre
  rw [List.set_append_right _ _ (by omega), h2, Nat.sub_self, FM.take_snoc h1, List.append_assoc]
  congr 1
  obtain ⟨j, hj⟩ : ∃ j, m - k = j + 1 := ⟨m - k - 1, by omega⟩
  have hj2 : m - (k + 1) = j := by omega
  rw [hj, hj2, List.replicate_succ, List.set_cons_zero, hx]
  rfl
theorem byte_at (v j : Nat) : ((v : Int) / 2 ^ (8 * j) % 256) = ((v / 256 ^ j % 256 : Nat) : Int) := by
  have e : (256 ^ j : Nat) = 2 ^ (8 * j) := by rw [Nat.pow_mul]
  rw [e]
  simp
/-- the digits as far as they stand, from the end -/
def post (v m k : Nat) : List Nat := List.replicate (m - k) 0 ++ (big v m).drop (m - k)
theorem post_len {v m k : Nat} (hk : k ≤ m) : (post v m k).length = m := by unfold post; rw [List.length_append, List.length_replicate, List.length_drop, big_len]; omega
theorem post_zero (v m : Nat) : post v m 0 = List.replicate m 0 := by
  unfold post
  rw [Nat.sub_zero, List.drop_eq_nil_of_le (by rw [big_len]; exact Nat.le_refl _), List.append_nil]
theorem post_all (v m : Nat) : post v m m = big v m := by simp [post]
theorem post_set {v m k j x : Nat} (hk : k < m) (hj : j + 1 + k = m) (hx : v / 256 ^ k % 256 = x) : (post v m k).set j x = post v m (k + 1) := by
  have h1 := big_get m v j (by omega)
  have e1 : m - 1 - j = k := by omega
  rw [e1, hx] at h1
  have e2 : m - k = j + 1 := by omega
  have e3 : m - (k + 1) = j := by omega
  unfold post
  rw [e2, e3, List.set_append_left _ _ (by simp), List.replicate_succ', List.set_append_right _ _ (by simp)]
  obtain ⟨hl, hg⟩ := List.getElem?_eq_some_iff.1 h1
  rw [List.drop_eq_getElem_cons hl, hg]
  simp
set_option maxHeartbeats 2000000 in
theorem digits_any (v m : Nat) (w : World) (hm : m ≤ 8) (ys : List Nat) (hy : big v m = ys) :
    Calls Try.prog 40 #[.int .u64 (v : Int), .int .i64 (m : Int)] w fun e w' => ∃ g, e = .returned (.slice (some ⟨g, 0, none⟩) m m) ∧ OwnB w' w.heap.size g ys ∧ Below w.heap.size w w' := by
  have HY := hide hy
  clear hy
  go_enter Try.func40, Try.ntmps40
  go_wp2_with (at_make; refine wpList_make_zero _ rfl _ _ 31 rfl 5 .u8 1 Try.underlying31 u8_info .i64 .i64 _ _ m rfl rfl (by go_num) (by go_num) (by omega) (by omega) ?_; intro g w3 hg hown hbel)
  go_loopw [11] (fun i wr => ∃ k : Nat, k ≤ m ∧ i = .int .i64 (k : Int) ∧ Own wr g .u8 5 (pre v m k) ∧ Below w.heap.size w wr) (fun i _ => m - (intOf i).toNat)
  case atStart => exact ⟨0, by omega, rfl, by rw [pre_zero]; exact hown, hbel⟩
  case round =>
    obtain ⟨k, hk, rfl, ho, hb⟩ := hrel
    clear hown hbel
    by_cases hlt : k < m
    · have hx : ∃ x, (pre v m k)[k]? = some x := ⟨_, List.getElem?_eq_getElem (by rw [pre_len hk]; exact hlt)⟩
      obtain ⟨x, hx⟩ := hx
      have hc := ho.cell hx
      have hf := ho.frozen k
      have HO := hide ho
      have HB := hide hb
      clear hx ho hb
      go_wp2_with fail
      go_roundw
      case rel =>
        refine ⟨k + 1, by omega, by go_num, ?_, HB.out.setCell hg _⟩
        rw [← pre_set hlt rfl]
        exact HO.out.put k (byte_at v _)
      case measure => simp [intOf]; omega
    · obtain rfl : k = m := by omega
      have HO := hide ho
      have HB := hide hb
      clear ho hb
      go_wp2_with fail
      go_ret
      exact ⟨g, rfl, ⟨by rw [← HY.out, ← pre_all]; exact HO.out, hg⟩, HB.out⟩
theorem step_div {v k : Nat} : v / 256 ^ k / 256 = v / 256 ^ (k + 1) := by rw [Nat.div_div_eq_div_mul, ← Nat.pow_succ]
set_option maxHeartbeats 2000000 in
theorem big_any (v m : Nat) (w : World) (hv : v < 18446744073709551616) (hm : m ≤ 8) (ys : List Nat) (hy : big v m = ys) :
    Calls Try.prog 43 #[.int .u64 (v : Int), .int .i64 (m : Int)] w fun e w' => ∃ g, e = .returned (.slice (some ⟨g, 0, none⟩) m m) ∧ OwnB w' w.heap.size g ys ∧ Below w.heap.size w w' := by
  have HY := hide hy
  clear hy
  go_enter Try.func43, Try.ntmps43
  go_wp2_with (at_make; refine wpList_make_zero _ rfl _ _ 31 rfl 5 .u8 1 Try.underlying31 u8_info .i64 .i64 _ _ m rfl rfl (by go_num) (by go_num) (by omega) (by omega) ?_; intro g w3 hg hown hbel)
  go_loopw [0, 6] (fun q i wr => ∃ (k x : Nat), k ≤ m ∧ x < 18446744073709551616 ∧ q = .int .u64 (x : Int) ∧ i = .int .i64 ((m : Int) - 1 - (k : Int)) ∧ Hid (x = v / 256 ^ k) ∧ Own wr g .u8 5 (post v m k) ∧ Below w.heap.size w wr) (fun _ i _ => (intOf i + 1).toNat)
  case atStart => exact ⟨0, v, by omega, hv, rfl, by go_num, hide (by simp), by rw [post_zero]; exact hown, hbel⟩
  case round =>
    obtain ⟨k, x, hk, hxb, rfl, rfl, HX, ho, hb⟩ := hrel
    clear hown hbel
    by_cases hlt : k < m
    · obtain ⟨j, hj⟩ : ∃ j, j + 1 + k = m := ⟨m - 1 - k, by omega⟩
      have ej : (m : Int) - 1 - (k : Int) = (j : Int) := by omega
      rw [ej]
      have hx : ∃ y, (post v m k)[j]? = some y := ⟨_, List.getElem?_eq_getElem (by rw [post_len hk]; omega)⟩
      obtain ⟨y, hy⟩ := hx
      have hc := ho.cell hy
      have hf := ho.frozen j
      have hlt2 := ho.lt
      have HO := hide ho
      have HB := hide hb
      have HJ := hide hj
      have hjm : j < m := by omega
      have hj0 : (0 : Int) ≤ (j : Int) := by omega
      clear hy ho hb ej hj
      go_wp2_with fail
      go_roundw
      case rel =>
        refine ⟨k + 1, x / 256, by omega, by omega, by go_num, by have := HJ.out; go_num, hide (by rw [HX.out, step_div]), ?_, HB.out.setCell hg _⟩
        rw [← post_set hlt HJ.out rfl]
        exact HO.out.put j (by rw [HX.out]; generalize v / 256 ^ k = z; omega)
      case measure => simp [intOf]
    · obtain rfl : k = m := by omega
      have HO := hide ho
      have HB := hide hb
      clear ho hb
      go_wp2_with fail
      go_ret
      exact ⟨g, rfl, ⟨by rw [← HY.out, ← post_all]; exact HO.out, hg⟩, HB.out⟩
end Go.Proofs.Ytjmpnpflmdpdkaa
