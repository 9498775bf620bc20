/- Decimal texts, the mathematics. -/
import Derived.Test.YtdoknlodnpeeoaaDoorYA
import Derived.Test.YtdoknlodnpeeoaaDoorChecked
import Derived.Lib.Strings
import Derived.Lib.Slices
import Derived.Lib.Small
import Derived.Lib.Walk
import Derived.Lib.ItoaNum
import Derived.LoopTactic
import Derived.WalkSpells
import Derived.OwnWalk
import Derived.RegionTactic
import Derived.BigRegion
import Derived.IntWalk
import Derived.Laws.BytesArg
import Derived.Deep.QuietTactic
import Derived.BigQuiet
namespace Go.Proofs.YtdoknlodnpeeoaaDoor
open Go Go.RowKit

def d9 (x k : Nat) : List Nat := (List.range k).map fun j => 48 + x / (10 ^ (9 - j) / 10) % 10
theorem d9_succ (x k : Nat) : d9 x (k + 1) = d9 x k ++ [48 + x / (10 ^ (9 - k) / 10) % 10] := by simp [d9, List.range_succ]
def dec (n x : Nat) : List Nat := (List.range n).map fun j => 48 + x / 10 ^ (n - 1 - j) % 10
def asc (x : Nat) : List Nat := dec (Lib.nDigits x) x
def strN (bs : List Nat) : ByteArray := ⟨(bs.map UInt8.ofNat).toArray⟩
theorem run_conv (w : World) (A : Option Addr) (n c : Nat) (bs : List Nat) (hr : RL w .u8 A n bs) (hn : 0 < n) : (convert 84 9 (.slice A n c)).run Tryd.prog w = .ok (.string (strN bs)) w := by
  obtain ⟨b, o, rfl, hc⟩ := hr.2 hn
  have h := run_convert_bytes_arg (P := Tryd.prog) w 84 5 Tryd.underlying84 Tryd.underlying5 b o n c (bs.map (fun x : Nat => (x : Int))) (by rw [List.length_map]; exact hr.len)
    (fun i hi => by
      have hl : i < bs.length := by rw [hr.len]; exact hi
      rw [hc i bs[i] (List.getElem?_eq_getElem hl)]
      simp [List.getD, List.getElem?_eq_getElem hl]) 9 Tryd.underlying9
  rw [h]
  simp [strOfNums, strN]
theorem asc_eq {n v : Nat} (h1 : 10 ^ n ≤ v) (h2 : v < 10 ^ (n + 1)) : asc v = dec (n + 1) v := by rw [asc, Lib.nDigits_unique n v h1 h2]
theorem asc_small {v : Nat} (h : v < 10) : asc v = [48 + v] := by
  rw [asc, Lib.nDigits_small h]
  show [48 + v / 1 % 10] = _
  rw [Nat.div_one, Nat.mod_eq_of_lt h]
theorem nDigits_pow : ∀ (m x V : Nat), V ≠ 0 → x < 10 ^ m → Lib.nDigits (x + 10 ^ m * V) = Lib.nDigits V + m
  | 0, x, V, _, hx => by
    obtain rfl : x = 0 := by simp at hx; exact hx
    simp
  | m + 1, x, V, hV, hx => by
    have e : (x + 10 ^ (m + 1) * V) / 10 = x / 10 + 10 ^ m * V := by
      rw [Nat.pow_succ, Nat.mul_comm (10 ^ m) 10, Nat.mul_assoc, Nat.add_mul_div_left _ _ (by decide)]
    have hbig : ¬ x + 10 ^ (m + 1) * V < 10 := by
      have h1 : 10 ^ 1 * 1 ≤ 10 ^ (m + 1) * V := Nat.mul_le_mul (Nat.pow_le_pow_right (by decide) (by omega)) (Nat.one_le_iff_ne_zero.2 hV)
      omega
    rw [Lib.nDigits_big hbig, e, nDigits_pow m (x / 10) V hV (by rw [Nat.pow_succ] at hx; exact (Nat.div_lt_iff_lt_mul (by decide)).2 hx)]
    omega
theorem dec_split (n m x V : Nat) (hx : x < 10 ^ m) : dec (n + m) (x + 10 ^ m * V) = dec n V ++ dec m x := by
  unfold dec
  rw [List.range_add, List.map_append, List.map_map]
  congr 1
  · apply List.map_congr_left
    intro j hj
    have hj' := List.mem_range.1 hj
    have e1 : n + m - 1 - j = m + (n - 1 - j) := by omega
    rw [e1, Nat.pow_add, ← Nat.div_div_eq_div_mul, Nat.add_mul_div_left _ _ (Nat.pow_pos (by decide)), Nat.div_eq_of_lt hx, Nat.zero_add]
  · apply List.map_congr_left
    intro j hj
    have hj' := List.mem_range.1 hj
    show 48 + (x + 10 ^ m * V) / 10 ^ (n + m - 1 - (n + j)) % 10 = 48 + x / 10 ^ (m - 1 - j) % 10
    have e1 : n + m - 1 - (n + j) = m - 1 - j := by omega
    have e2 : 10 ^ m * V = 10 ^ (m - 1 - j) * (10 * (10 ^ j * V)) := by
      have : 10 ^ m = 10 ^ (m - 1 - j) * (10 * 10 ^ j) := by
        rw [← Nat.pow_succ', ← Nat.pow_add]; congr 1; omega
      rw [this, Nat.mul_assoc, Nat.mul_assoc]
    rw [e1, e2, Nat.add_mul_div_left _ _ (Nat.pow_pos (by decide)), Nat.add_mul_mod_self_left]
theorem d9_dec (x : Nat) : d9 x 9 = dec 9 x := rfl
theorem asc_step {x V : Nat} (hV : V ≠ 0) (hx : x < 1000000000) : asc (x + B9 * V) = asc V ++ d9 x 9 := by
  have h := nDigits_pow 9 x V hV hx
  have e : Lib.nDigits (x + B9 * V) = Lib.nDigits V + 9 := h
  rw [asc, e, d9_dec, asc]
  exact dec_split _ 9 x V hx
theorem asc_pos (v : Nat) : 0 < (asc v).length := by
  rw [asc, dec, List.length_map, List.length_range, Lib.nDigits]
  split <;> omega
theorem u32_info : (Tryd.prog.info? 96).map (fun i => (i.zero, i.size, i.bytes)) = some (some (.int .u32 0), 1, 4) := by kernel_rfl
open Go

/-- the value of a list of digits, the greatest first -/
def decV (l : List Nat) : Nat := l.foldl (fun a x => 10 * a + (x - 48)) 0
theorem decV_nil : decV [] = 0 := rfl
theorem decV_snoc (l : List Nat) (x : Nat) : decV (l ++ [x]) = 10 * decV l + (x - 48) := by simp [decV]
def AllDig (l : List Nat) : Prop := ∀ x ∈ l, 48 ≤ x ∧ x ≤ 57
theorem AllDig.snoc {l : List Nat} {x : Nat} (h : AllDig (l ++ [x])) : AllDig l ∧ 48 ≤ x ∧ x ≤ 57 :=
  ⟨fun y hy => h y (by simp [hy]), h x (by simp)⟩
theorem AllDig.left {l m : List Nat} (h : AllDig (l ++ m)) : AllDig l := fun y hy => h y (by simp [hy])
theorem AllDig.right {l m : List Nat} (h : AllDig (l ++ m)) : AllDig m := fun y hy => h y (by simp [hy])
theorem AllDig.take {l : List Nat} (h : AllDig l) (k : Nat) : AllDig (l.take k) := fun y hy => h y (List.mem_of_mem_take hy)
theorem AllDig.drop {l : List Nat} (h : AllDig l) (k : Nat) : AllDig (l.drop k) := fun y hy => h y (List.mem_of_mem_drop hy)

theorem snoc_ind {α : Type} {P : List α → Prop} (h0 : P []) (h1 : ∀ l x, P l → P (l ++ [x])) : ∀ l, P l := by
  intro l
  have : ∀ m : List α, P m.reverse := by
    intro m
    induction m with
    | nil => exact h0
    | cons x m ih => rw [List.reverse_cons]; exact h1 _ _ ih
  have h := this l.reverse
  rwa [List.reverse_reverse] at h

theorem decV_append (l m : List Nat) : decV (l ++ m) = decV l * 10 ^ m.length + decV m := by
  induction m using snoc_ind with
  | h0 => simp [decV]
  | h1 m x ih =>
    rw [← List.append_assoc, decV_snoc, ih, decV_snoc, List.length_append, List.length_singleton, Nat.pow_succ]
    have e : 10 * (decV l * 10 ^ m.length) = decV l * (10 ^ m.length * 10) := by rw [Nat.mul_comm 10, Nat.mul_assoc]
    rw [Nat.mul_add, e]
    omega
theorem decV_lt (l : List Nat) (h : AllDig l) : decV l < 10 ^ l.length := by
  induction l using snoc_ind with
  | h0 => simp [decV]
  | h1 l x ih =>
    obtain ⟨h1, h2⟩ := h.snoc
    have := ih h1
    rw [decV_snoc, List.length_append, List.length_singleton, Nat.pow_succ]
    omega
theorem dec_one {d : Nat} (h : d < 10) : dec 1 d = [48 + d] := by
  show [48 + d / 1 % 10] = _
  rw [Nat.div_one, Nat.mod_eq_of_lt h]
theorem dec_succ (n v : Nat) : dec (n + 1) v = dec n (v / 10) ++ [48 + v % 10] := by
  have h := dec_split n 1 (v % 10) (v / 10) (Nat.mod_lt _ (by decide))
  rw [dec_one (Nat.mod_lt _ (by decide))] at h
  have e : v % 10 + 10 ^ 1 * (v / 10) = v := by rw [Nat.pow_one]; omega
  rwa [e] at h
theorem dec_decV (l : List Nat) (h : AllDig l) : dec l.length (decV l) = l := by
  induction l using snoc_ind with
  | h0 => rfl
  | h1 l x ih =>
    obtain ⟨h1, h2⟩ := h.snoc
    rw [List.length_append, List.length_singleton, dec_succ, decV_snoc]
    have e1 : (10 * decV l + (x - 48)) / 10 = decV l := by omega
    have e2 : 48 + (10 * decV l + (x - 48)) % 10 = x := by omega
    rw [e1, e2, ih h1]
theorem decV_dec (n v : Nat) (h : v < 10 ^ n) : decV (dec n v) = v := by
  induction n generalizing v with
  | zero => simp at h; subst h; rfl
  | succ n ih =>
    rw [dec_succ, decV_snoc, ih (v / 10) (by rw [Nat.pow_succ] at h; omega)]
    omega
theorem dec_length (n v : Nat) : (dec n v).length = n := by simp [dec]
theorem dec_digits (n v : Nat) : AllDig (dec n v) := by
  intro x hx
  unfold dec at hx
  obtain ⟨j, _, rfl⟩ := List.mem_map.1 hx
  omega
theorem dec_head (n v : Nat) (h : 10 ^ n ≤ v) (h2 : v < 10 ^ (n + 1)) : ∃ y l, dec (n + 1) v = y :: l ∧ y ≠ 48 := by
  refine ⟨48 + v / 10 ^ n % 10, (List.range n).map fun j => 48 + v / 10 ^ (n + 1 - 1 - (j + 1)) % 10, ?_, ?_⟩
  · unfold dec
    rw [List.range_succ_eq_map, List.map_cons, List.map_map]
    rfl
  · have h1 : 1 ≤ v / 10 ^ n := (Nat.le_div_iff_mul_le (Nat.pow_pos (by decide))).2 (by omega)
    have h3 : v / 10 ^ n < 10 := (Nat.div_lt_iff_lt_mul (Nat.pow_pos (by decide))).2 (by rw [Nat.pow_succ] at h2; omega)
    omega
theorem asc_zero : asc 0 = [48] := asc_small (by decide)
/-- how many digits a number has, told by its size -/
theorem asc_pow {v : Nat} (h : v ≠ 0) : ∃ n, 10 ^ n ≤ v ∧ v < 10 ^ (n + 1) ∧ asc v = dec (n + 1) v := by
  have : ∀ m v : Nat, v ≤ m → v ≠ 0 → ∃ n, 10 ^ n ≤ v ∧ v < 10 ^ (n + 1) := by
    intro m
    induction m with
    | zero => intro v h1 h2; omega
    | succ m ih =>
      intro v h1 h2
      by_cases h3 : v < 10
      · exact ⟨0, by simp; omega, by simpa using h3⟩
      · obtain ⟨n, h4, h5⟩ := ih (v / 10) (by omega) (by omega)
        refine ⟨n + 1, ?_, ?_⟩
        · rw [Nat.pow_succ]; omega
        · rw [Nat.pow_succ]; omega
  obtain ⟨n, h1, h2⟩ := this v v (Nat.le_refl _) h
  exact ⟨n, h1, h2, asc_eq h1 h2⟩
theorem asc_digits (v : Nat) : AllDig (asc v) := dec_digits _ _
theorem asc_len (v : Nat) : (asc v).length = nd v := by
  by_cases h : v = 0
  · subst h; rw [asc_zero]; rfl
  · obtain ⟨n, h1, h2, h3⟩ := asc_pow h
    rw [h3, dec_length]
    have e1 := (dig_length_le 10 (by decide) (n + 1) v).2 h2
    have e2 : ¬ (dig 10 v).length ≤ n := fun h4 => by
      have := (dig_length_le 10 (by decide) n v).1 h4
      omega
    unfold nd
    rw [if_neg h]
    omega
theorem decV_asc (v : Nat) : decV (asc v) = v := by
  by_cases h : v = 0
  · subst h; rw [asc_zero]; rfl
  · obtain ⟨n, _, h2, h3⟩ := asc_pow h
    rw [h3]; exact decV_dec _ _ h2
/-- the texts of naturals -/
def IsT (l : List Nat) : Prop := AllDig l ∧ (l = [48] ∨ ∃ y m, l = y :: m ∧ y ≠ 48)
theorem isT_asc (v : Nat) : IsT (asc v) := by
  refine ⟨asc_digits v, ?_⟩
  by_cases h : v = 0
  · subst h; exact .inl asc_zero
  · obtain ⟨n, h1, h2, h3⟩ := asc_pow h
    rw [h3]; exact .inr (dec_head n v h1 h2)
theorem decV_head {y : Nat} {m : List Nat} (h : AllDig (y :: m)) (hy : y ≠ 48) : 10 ^ m.length ≤ decV (y :: m) := by
  have e : y :: m = [y] ++ m := rfl
  rw [e, decV_append]
  have h1 := h y (by simp)
  have e2 : decV [y] = y - 48 := by simp [decV]
  rw [e2]
  have : 1 * 10 ^ m.length ≤ (y - 48) * 10 ^ m.length := Nat.mul_le_mul_right _ (by omega)
  omega
theorem asc_decV {l : List Nat} (h : IsT l) : asc (decV l) = l := by
  obtain ⟨h1, rfl | ⟨y, m, rfl, hy⟩⟩ := h
  · exact asc_zero
  · rw [asc_eq (n := m.length) (decV_head h1 hy) (decV_lt _ h1)]
    exact dec_decV _ h1
theorem isT_iff {l : List Nat} : IsT l ↔ asc (decV l) = l := ⟨asc_decV, fun h => h ▸ isT_asc _⟩
theorem asc_inj {u v : Nat} (h : asc u = asc v) : u = v := by rw [← decV_asc u, h, decV_asc]

/-- the last k limbs of a text, and what stands before them -/
theorem chunk_step {l : List Nat} {e V k : Nat} {out : List Nat} (hk : out.length = k) (h : val B9 out + B9 ^ k * decV (l.take e) = V) (he : e ≤ l.length) :
    val B9 (out ++ [decV ((l.take e).drop (e - 9))]) + B9 ^ (k + 1) * decV (l.take (e - 9)) = V := by
  have h1 : l.take e = l.take (e - 9) ++ (l.take e).drop (e - 9) := by
    have := List.take_append_drop (e - 9) (l.take e)
    rw [List.take_take, Nat.min_eq_left (by omega)] at this
    exact this.symm
  have h2 := decV_append (l.take (e - 9)) ((l.take e).drop (e - 9))
  rw [← h1, List.length_drop, List.length_take, Nat.min_eq_left he] at h2
  rw [val_snoc, hk, ← h, h2]
  rcases Nat.lt_or_ge e 9 with h9 | h9
  · have e0 : e - 9 = 0 := by omega
    rw [e0, List.take_zero, decV_nil]
    simp
  · have e9 : e - (e - 9) = 9 := by omega
    rw [e9, Nat.pow_succ, Nat.mul_add, Nat.mul_assoc, Nat.add_assoc, Nat.add_comm (B9 ^ k * decV _)]
    congr 2
    rw [Nat.mul_comm (decV _) (10 ^ 9)]
open Go Go.RowKit

/-- the bytes of a string -/
def bytesOf (s : ByteArray) : List Nat := s.data.toList.map UInt8.toNat
theorem bytesOf_length (s : ByteArray) : (bytesOf s).length = s.size := by simp [bytesOf]
theorem bytesOf_at (s : ByteArray) (k : Nat) (h : k < s.size) : (bytesOf s)[k]? = some s[k].toNat := by
  unfold bytesOf
  rw [List.getElem?_map, List.getElem?_eq_getElem (by simpa using h)]
  rfl
theorem bytesOf_lt (s : ByteArray) : ∀ x ∈ bytesOf s, x < 256 := by
  intro x hx
  unfold bytesOf at hx
  obtain ⟨y, _, rfl⟩ := List.mem_map.1 hx
  exact UInt8.toNat_lt y
theorem strN_bytesOf (s : ByteArray) : strN (bytesOf s) = s := by
  apply ByteArray.ext
  simp [strN, bytesOf, Function.comp_def]
theorem bytesOf_strN {l : List Nat} (h : ∀ x ∈ l, x < 256) : bytesOf (strN l) = l := by
  unfold bytesOf strN
  simp only [List.map_map]
  conv => rhs; rw [← List.map_id l]
  apply List.map_congr_left
  intro x hx
  have := h x hx
  simp [Nat.mod_eq_of_lt this]
theorem bytesOf_inj {s t : ByteArray} (h : bytesOf s = bytesOf t) : s = t := by rw [← strN_bytesOf s, h, strN_bytesOf]
theorem bytesOf_extract (s : ByteArray) (a b : Nat) : bytesOf (s.extract a b) = ((bytesOf s).take b).drop a := by
  unfold bytesOf
  rw [← List.map_take, ← List.map_drop]
  congr 1
  simp [ByteArray.data_extract, List.drop_take]
theorem AllDig.lt256 {l : List Nat} (h : AllDig l) : ∀ x ∈ l, x < 256 := fun x hx => by have := h x hx; omega

theorem bytesOf_append (a b : ByteArray) : bytesOf (a ++ b) = bytesOf a ++ bytesOf b := by
  unfold bytesOf
  rw [ByteArray.data_append, Array.toList_append, List.map_append]
end Go.Proofs.YtdoknlodnpeeoaaDoor
