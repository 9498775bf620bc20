/- The contracts of bits.Len64 below 2^32, log10Pow2, numDigits below 10^9. -/
import Derived.Test.YtoeknkakdoemfaaGreatDoorBaseC
import Derived.Lib.Strings
import Derived.Lib.Slices
import Derived.Lib.Small
import Derived.Lib.Walk
import Derived.Lib.ItoaNum
import Derived.Deep.QuietTactic
import Derived.BigQuiet
import Derived.Lib.AppendStr
import Derived.Laws.BytesArg
import Derived.OwnWalk
import Derived.Test.YtoeknkakdoemfaaGreatDoorPow
import Derived.Test.YtoeknkakdoemfaaGreatDoorBaseB
import Derived.Test.YtoeknkakdoemfaaGreatDoorSimple
namespace Go.Proofs.YtoeknkakdoemfaaGreatDoor
open Go Go.RowKit

/-- the table of the powers of ten -/
def Tab (w : World) : Prop := ∀ k < 20, w.cell? ⟨1, k, none⟩ = some (.int .u64 ((10 ^ k : Nat) : Int))
theorem Tab.lt {w : World} (h : Tab w) : 1 < w.heap.size := World.block_lt_of_cell? w ⟨1, 0, none⟩ (h 0 (by decide))
theorem Tab.below {w w' : World} (h : Tab w) (hb : Below w.heap.size w w') : Tab w' := fun k hk => (hb.cell (p := ⟨1, k, none⟩) h.lt).trans (h k hk)
theorem Tab.drewN {w : World} (h : Tab w) (m : Nat) : Tab (w.drewN m) := h

set_option maxHeartbeats 4000000 in
set_option maxRecDepth 100000 in
theorem len64_a (x : Int) (w : World) (h0 : 0 ≤ x) (h1 : x < 256) (L : Nat) (hL : L ≤ 8) (e : Lib.len8 (x) = (L : Int)) :
    Calls Tryz.prog 139 #[.int .u64 x] w fun e w' => e = .returned (.int .i64 ((L : Int))) ∧ w' = w := by
  have q0 : 0 ≤ x := by omega
  have q1 : x ≤ 255 := by omega
  go_enter Tryz.func139, Tryz.ntmps139
  go_wp2
  go_ret
  exact ⟨rfl, rfl⟩
set_option maxHeartbeats 4000000 in
set_option maxRecDepth 100000 in
theorem len64_b (x : Int) (w : World) (h0 : 256 ≤ x) (h1 : x < 65536) (L : Nat) (hL : L ≤ 8) (e : Lib.len8 (x / 256) = (L : Int)) :
    Calls Tryz.prog 139 #[.int .u64 x] w fun e w' => e = .returned (.int .i64 (8 + (L : Int))) ∧ w' = w := by
  have q0 : 0 ≤ x / 256 := by omega
  have q1 : x / 256 ≤ 255 := by omega
  go_enter Tryz.func139, Tryz.ntmps139
  go_wp2
  go_ret
  exact ⟨rfl, rfl⟩
set_option maxHeartbeats 4000000 in
set_option maxRecDepth 100000 in
theorem len64_c (x : Int) (w : World) (h0 : 65536 ≤ x) (h1 : x < 16777216) (L : Nat) (hL : L ≤ 8) (e : Lib.len8 (x / 65536) = (L : Int)) :
    Calls Tryz.prog 139 #[.int .u64 x] w fun e w' => e = .returned (.int .i64 (16 + (L : Int))) ∧ w' = w := by
  have q0 : 0 ≤ x / 65536 := by omega
  have q1 : x / 65536 ≤ 255 := by omega
  go_enter Tryz.func139, Tryz.ntmps139
  go_wp2
  go_ret
  exact ⟨rfl, rfl⟩
set_option maxHeartbeats 4000000 in
set_option maxRecDepth 100000 in
theorem len64_d (x : Int) (w : World) (h0 : 16777216 ≤ x) (h1 : x < 1000000000) (L : Nat) (hL : L ≤ 8) (e : Lib.len8 (x / 65536 / 256) = (L : Int)) :
    Calls Tryz.prog 139 #[.int .u64 x] w fun e w' => e = .returned (.int .i64 (24 + (L : Int))) ∧ w' = w := by
  have q0 : 0 ≤ x / 65536 / 256 := by omega
  have q1 : x / 65536 / 256 ≤ 255 := by omega
  go_enter Tryz.func139, Tryz.ntmps139
  go_wp2
  go_ret
  exact ⟨rfl, rfl⟩
theorem l8nat (i : Int) (j : Nat) (h : i = (j : Int)) (hj : j < 256) : Lib.len8 i = ((Lib.bitLen j : Nat) : Int) := by
  subst h
  rw [Lib.len8_of _ (by omega) (by omega), Int.toNat_natCast]
theorem len64_any (x : Nat) (w : World) (h1 : x < 1000000000) (B : Nat) (hB : Lib.bitLen x = B) :
    Calls Tryz.prog 139 #[.int .u64 (x : Int)] w fun e w' => e = .returned (.int .i64 (B : Int)) ∧ w' = w := by
  by_cases a : x < 256
  · subst hB
    exact len64_a x w (by omega) (by omega) _ (Lib.bitLen_le8 ⟨x, a⟩) (l8nat _ x rfl a)
  · by_cases b : x < 65536
    · have h := len64_b x w (by omega) (by omega) _ (Lib.bitLen_le8 ⟨x / 256, by omega⟩) (l8nat _ (x / 256) (by omega) (by omega))
      rw [Lib.bitLen_shift8 x (by omega) (by omega)] at hB
      subst hB
      exact h
    · by_cases c : x < 16777216
      · have h := len64_c x w (by omega) (by omega) _ (Lib.bitLen_le8 ⟨x / 65536, by omega⟩) (l8nat _ (x / 65536) (by omega) (by omega))
        rw [Lib.bitLen_shift16 x (by omega) (by omega)] at hB
        subst hB
        exact h
      · have h := len64_d x w (by omega) (by omega) _ (Lib.bitLen_le8 ⟨x / 16777216, by omega⟩) (l8nat _ (x / 16777216) (by omega) (by omega))
        rw [Lib.bitLen_shift24 x (by omega) (by omega)] at hB
        subst hB
        exact h

theorem log10_any (x : Nat) (w : World) (hx : x ≤ 64) (v : Nat) (hv : Lib.l10 x = v) : Calls Tryz.prog 138 #[.int .i64 (x : Int)] w fun e w' => e = .returned (.int .i64 (v : Int)) ∧ w' = w := by
  have e : (x : Int) * 78913 / 262144 = (v : Int) := by rw [← hv]; unfold Lib.l10; omega
  have HV := hide hv
  clear hv
  go_enter Tryz.func138, Tryz.ntmps138
  go_wp2
  go_ret
  exact ⟨rfl, rfl⟩
theorem bool2_any (b : Bool) (w : World) : Calls Tryz.prog 140 #[.bool b] w fun e w' => e = .returned (.int .i64 (if b then 1 else 0)) ∧ w' = w := by
  cases b
  · go_enter Tryz.func140, Tryz.ntmps140
    go_wp2
    go_ret
    exact ⟨rfl, rfl⟩
  · go_enter Tryz.func140, Tryz.ntmps140
    go_wp2
    go_ret
    exact ⟨rfl, rfl⟩

theorem numDigits_any (x : Nat) (w : World) (hT : Tab w) (h1 : 1 ≤ x) (hx : x < 1000000000) (n : Nat) (hn : Lib.nDigits x = n) :
    Calls Tryz.prog 126 #[.int .u64 (x : Int)] w fun e w' => e = .returned (.int .i64 (n : Int)) ∧ w' = w := by
  obtain ⟨q1, q2⟩ := Lib.numDigits_eq x h1 (by omega)
  obtain ⟨L, hL⟩ : ∃ L, L = Lib.bitLen x := ⟨_, rfl⟩
  have hL64 : L ≤ 64 := by rw [hL]; exact Lib.bitLen_le x 64 (Nat.le_refl _) (by omega)
  rw [← hL] at q1 q2
  obtain ⟨v, hv⟩ : ∃ v, Lib.l10 L = v := ⟨_, rfl⟩
  rw [hv] at q1 q2
  rw [hn] at q1
  have hcell := hT v (by omega)
  obtain ⟨P, hP⟩ : ∃ P, P = 10 ^ v := ⟨_, rfl⟩
  rw [← hP] at hcell q1
  have hPb : P ≤ 10000000000000000000 := by rw [hP]; exact Nat.pow_le_pow_right (by decide) q2
  have HL := hide hL
  have HV := hide hv
  have HQ := hide q1
  have hvI : (v : Int) < 20 := by omega
  have hvI0 : 0 ≤ (v : Int) := by omega
  clear hT hL hv q1 hn hP
  by_cases hge : P ≤ x
  · have hn1 : Hid (v + 1 = n) := by have := HQ.out; rwa [if_pos hge] at this
    have hd : decide ((P : Int) ≤ (x : Int)) = true := by simp; omega
    go_enter Tryz.func126, Tryz.ntmps126
    go_wp2_with fail
    refine (len64_any x _ hx L HL.out.symm).mono ?_
    rintro e w' ⟨rfl, rfl⟩
    go_wp2_with fail
    refine (log10_any L _ hL64 v HV.out).mono ?_
    rintro e w' ⟨rfl, rfl⟩
    go_wp2_with fail
    refine (bool2_any true _).mono ?_
    rintro e w' ⟨rfl, rfl⟩
    go_wp2
    go_ret
    exact ⟨ret_int (by have := hn1.out; omega), rfl⟩
  · have hn1 : Hid (v = n) := by have := HQ.out; rwa [if_neg hge, Nat.add_zero] at this
    have hd : decide ((P : Int) ≤ (x : Int)) = false := by simp; omega
    go_enter Tryz.func126, Tryz.ntmps126
    go_wp2_with fail
    refine (len64_any x _ hx L HL.out.symm).mono ?_
    rintro e w' ⟨rfl, rfl⟩
    go_wp2_with fail
    refine (log10_any L _ hL64 v HV.out).mono ?_
    rintro e w' ⟨rfl, rfl⟩
    go_wp2_with fail
    refine (bool2_any false _).mono ?_
    rintro e w' ⟨rfl, rfl⟩
    go_wp2
    go_ret
    exact ⟨ret_int (by have := hn1.out; omega), rfl⟩
end Go.Proofs.YtoeknkakdoemfaaGreatDoor

/- The contract of internal/strconv.small. -/
namespace Go.Proofs.YtoeknkakdoemfaaGreatDoor
open Go Go.RowKit

/-- the decimal form of a number, as bytes -/
def asc (x : Nat) : List Nat := dec (Lib.nDigits x) x
def SD : ByteArray := ⟨#[48, 49, 50, 51, 52, 53, 54, 55, 56, 57, 97, 98, 99, 100, 101, 102, 103, 104, 105, 106, 107, 108, 109, 110, 111, 112, 113, 114, 115, 116, 117, 118, 119, 120, 121, 122]⟩
theorem sd_get : ∀ x < 10, (SD.extract x (x + 1)).data.toList.map UInt8.toNat = [48 + x] := by decide +kernel
theorem sm_get2 : ∀ x < 100, (SM.extract (x * 2) (x * 2 + 2)).data.toList.map UInt8.toNat = [48 + x / 10, 48 + x % 10] := by decide +kernel
theorem str_of {s : ByteArray} {l : List Nat} (h : s.data.toList.map UInt8.toNat = l) : Lib.strCells s = cells .u8 l ∧ s.size = l.length := by
  subst h
  refine ⟨by simp [Lib.strCells, cells], ?_⟩
  rw [List.length_map, Array.length_toList]; rfl

set_option maxRecDepth 100000 in
theorem smallS_any (x : Nat) (w : World) (h : x < 100) : Calls Tryz.prog 125 #[.int .i64 (x : Int)] w fun e w' => (∃ s, e = .returned (.string s) ∧ Lib.strCells s = cells .u8 (asc x) ∧ s.size = (asc x).length ∧ (asc x).length ≤ 2) ∧ w' = w := by
  by_cases h1 : x < 10
  · have e : asc x = [48 + x] := by
      rw [asc, Lib.nDigits_small h1]
      show [48 + x / 1 % 10] = _
      rw [Nat.div_one, Nat.mod_eq_of_lt h1]
    obtain ⟨a1, a2⟩ := str_of (sd_get x h1)
    rw [← e] at a1 a2
    have hl : (asc x).length ≤ 2 := by rw [e]; simp
    have A1 := hide a1
    have A2 := hide a2
    have A3 := hide hl
    clear e a1 a2 hl
    go_enter Tryz.func125, Tryz.ntmps125
    go_wp2
    go_ret
    exact ⟨⟨SD.extract x (x + 1), rfl, A1.out, A2.out, A3.out⟩, rfl⟩
  · have e : asc x = [48 + x / 10, 48 + x % 10] := by
      rw [asc, Lib.nDigits_unique 1 x (by omega) (by omega)]
      show [48 + x / 10 % 10, 48 + x / 1 % 10] = _
      rw [Nat.div_one, Nat.mod_eq_of_lt (by omega : x / 10 < 10)]
    obtain ⟨a1, a2⟩ := str_of (sm_get2 x h)
    rw [← e] at a1 a2
    have hl : (asc x).length ≤ 2 := by rw [e]; simp
    have A1 := hide a1
    have A2 := hide a2
    have A3 := hide hl
    clear e a1 a2 hl
    go_enter Tryz.func125, Tryz.ntmps125
    go_wp2
    go_ret
    exact ⟨⟨SM.extract (x * 2) (x * 2 + 2), rfl, A1.out, A2.out, A3.out⟩, rfl⟩
end Go.Proofs.YtoeknkakdoemfaaGreatDoor

/- The contract of strconv.AppendUint below 10^9. -/
namespace Go.Proofs.YtoeknkakdoemfaaGreatDoor
open Go Go.RowKit

theorem nd_cases (x : Nat) (h1 : 100 ≤ x) (h2 : x < 1000000000) :
    (Lib.nDigits x = 3 ∧ x < 1000) ∨ (Lib.nDigits x = 4 ∧ 1000 ≤ x ∧ x < 10000) ∨ (Lib.nDigits x = 5 ∧ 10000 ≤ x ∧ x < 100000) ∨ (Lib.nDigits x = 6 ∧ 100000 ≤ x ∧ x < 1000000) ∨
    (Lib.nDigits x = 7 ∧ 1000000 ≤ x ∧ x < 10000000) ∨ (Lib.nDigits x = 8 ∧ 10000000 ≤ x ∧ x < 100000000) ∨ (Lib.nDigits x = 9 ∧ 100000000 ≤ x) := by
  by_cases a3 : x < 1000
  · exact .inl ⟨Lib.nDigits_unique 2 x (by omega) (by omega), a3⟩
  · by_cases a4 : x < 10000
    · exact .inr (.inl ⟨Lib.nDigits_unique 3 x (by omega) (by omega), by omega, a4⟩)
    · by_cases a5 : x < 100000
      · exact .inr (.inr (.inl ⟨Lib.nDigits_unique 4 x (by omega) (by omega), by omega, a5⟩))
      · by_cases a6 : x < 1000000
        · exact .inr (.inr (.inr (.inl ⟨Lib.nDigits_unique 5 x (by omega) (by omega), by omega, a6⟩)))
        · by_cases a7 : x < 10000000
          · exact .inr (.inr (.inr (.inr (.inl ⟨Lib.nDigits_unique 6 x (by omega) (by omega), by omega, a7⟩))))
          · by_cases a8 : x < 100000000
            · exact .inr (.inr (.inr (.inr (.inr (.inl ⟨Lib.nDigits_unique 7 x (by omega) (by omega), by omega, a8⟩)))))
            · exact .inr (.inr (.inr (.inr (.inr (.inr ⟨Lib.nDigits_unique 8 x (by omega) (by omega), by omega⟩)))))

theorem fmt_any (g x n : Nat) (w : World) (hz : Own w g .u8 131 (List.replicate 24 0)) (h1 : 100 ≤ x) (h2 : x < 1000000000) (hn : Lib.nDigits x = n) :
    Calls Tryz.prog 127 #[.slice (some ⟨g, 0, none⟩) n 24, .int .u64 (x : Int)] w (Fmted n x g w) := by
  rcases nd_cases x h1 h2 with ⟨e, b⟩ | ⟨e, a, b⟩ | ⟨e, a, b⟩ | ⟨e, a, b⟩ | ⟨e, a, b⟩ | ⟨e, a, b⟩ | ⟨e, a⟩ <;> (rw [e] at hn; subst hn)
  · exact fmt3 g x w hz h1 b
  · exact fmt4 g x w hz a b
  · exact fmt5 g x w hz a b
  · exact fmt6 g x w hz a b
  · exact fmt7 g x w hz a b
  · exact fmt8 g x w hz a b
  · exact fmt9 g x w hz a h2

theorem nd_le (x : Nat) (h1 : 100 ≤ x) (h2 : x < 1000000000) : 3 ≤ Lib.nDigits x ∧ Lib.nDigits x ≤ 9 := by
  rcases nd_cases x h1 h2 with h | h | h | h | h | h | h <;> omega
theorem own24 (w : World) : Own (w.alloc (Obj.cells #[Value.int IntKind.u8 0, Value.int IntKind.u8 0, Value.int IntKind.u8 0, Value.int IntKind.u8 0, Value.int IntKind.u8 0, Value.int IntKind.u8 0, Value.int IntKind.u8 0, Value.int IntKind.u8 0, Value.int IntKind.u8 0, Value.int IntKind.u8 0, Value.int IntKind.u8 0, Value.int IntKind.u8 0,
    Value.int IntKind.u8 0, Value.int IntKind.u8 0, Value.int IntKind.u8 0, Value.int IntKind.u8 0, Value.int IntKind.u8 0, Value.int IntKind.u8 0, Value.int IntKind.u8 0, Value.int IntKind.u8 0, Value.int IntKind.u8 0, Value.int IntKind.u8 0, Value.int IntKind.u8 0, Value.int IntKind.u8 0] 131)) w.heap.size .u8 131 (List.replicate 24 0) := heap_alloc_new w _

set_option maxHeartbeats 1000000 in
set_option maxRecDepth 100000 in
theorem appU_big (base : Nat) (A : Option Addr) (n c : Nat) (bs : List Nat) (x : Nat) (w : World) (hb : base ≤ w.heap.size) (hr : Row w base .u8 5 A n c bs) (hN : n ≤ 100000000) (h1 : 100 ≤ x) (h2 : x < 1000000000) (hT : Tab w) :
    Calls Tryz.prog 110 #[.slice A n c, .int .u64 (x : Int), .int .i64 10] w (GivesRow base (bs ++ asc x) w) := by
  obtain ⟨m, hm⟩ : ∃ m, Lib.nDigits x = m := ⟨_, rfl⟩
  obtain ⟨m1, m2⟩ := nd_le x h1 h2
  rw [hm] at m1 m2
  have HM := hide hm
  clear hm
  have hsl : ∀ (w : World) (a : Addr), (Instr.sliceAt 131 (.pointer (some a)) none (some (.int .i64 (m : Int))) none).run Tryz.prog w = .ok (.slice (some a) m 24) w := by
    intro w a
    have e24 : Tryz.prog.arrayLen 131 = 24 := by kernel_rfl
    have hm24 : (m : Int) ≤ (Tryz.prog.arrayLen 131 : Int) := by omega
    rw [run_sliceAt_array_h w 131 a (by kernel_rfl) .i64 (m : Int) (by omega) hm24]
    have e1 : ∀ w : World, (sizeOf (Tryz.prog.elem 131)).run Tryz.prog w = .ok 1 w := fun w => by kernel_rfl
    rw [e1, e24]
    simp [Result.andThen, slicedAt, Addr.add]
  have hm0 : 0 ≤ (m : Int) := by omega
  go_enter Tryz.func110, Tryz.ntmps110
  go_wp2_with fail
  have ho := own24 w
  have hW : Below w.heap.size w _ := (Below.refl w.heap.size w).alloc (Nat.le_refl _) (Obj.cells #[Value.int IntKind.u8 0, Value.int IntKind.u8 0, Value.int IntKind.u8 0, Value.int IntKind.u8 0, Value.int IntKind.u8 0, Value.int IntKind.u8 0, Value.int IntKind.u8 0, Value.int IntKind.u8 0, Value.int IntKind.u8 0, Value.int IntKind.u8 0, Value.int IntKind.u8 0, Value.int IntKind.u8 0,
    Value.int IntKind.u8 0, Value.int IntKind.u8 0, Value.int IntKind.u8 0, Value.int IntKind.u8 0, Value.int IntKind.u8 0, Value.int IntKind.u8 0, Value.int IntKind.u8 0, Value.int IntKind.u8 0, Value.int IntKind.u8 0, Value.int IntKind.u8 0, Value.int IntKind.u8 0, Value.int IntKind.u8 0] 131)
  generalize World.alloc w _ = W at *
  have hTW := hT.below hW
  have hrW := hr.below hW (Nat.le_refl _)
  refine (numDigits_any x W hTW (by omega) h2 m HM.out).mono ?_
  rintro e w1 ⟨rfl, rfl⟩
  go_wp2_with fail
  refine (fmt_any w.heap.size x m w1 ho h1 h2 HM.out).mono ?_
  rintro e w2 ⟨rfl, hg2, zs, hz2, hl2, htk⟩
  have hb2 : Below w.heap.size w w2 := below_only hW hg2 hW.size (Nat.le_refl _)
  have hr2 : Row w2 base .u8 5 A n c bs := hr.below hb2 (Nat.le_refl _)
  have hrl : RL w2 .u8 (some ⟨w.heap.size, 0, none⟩) m (dec m x) := by
    have h3 := (hz2.rl (n := 24) hl2).take_ (m := m) (by omega)
    rwa [htk] at h3
  have hbs2 : base ≤ w2.heap.size := Nat.le_trans hb hb2.size
  have HA := hide (show bs ++ dec m x = bs ++ asc x from by rw [asc, HM.out])
  clear ho hW hTW hrW hz2 hl2 htk hg2 hT
  go_wp2_with (at_builtin; refine wpList_append_rl _ rfl _ _ 75 rfl base 5 .u8 1 Tryz.underlying75 u8_info A n c bs rfl hr2 (some ⟨w.heap.size, 0, none⟩) m 24 (dec m x) rfl hrl (by omega) (n + m) rfl (by omega) hbs2 ?_; intro A' c' w3 hrow3 hbel3 hsz3)
  go_ret
  rw [HA.out] at hrow3
  exact ⟨A', n + m, c', rfl, hrow3, (hb2.mono hb).trans hbel3, Nat.le_trans hb2.size hsz3⟩

theorem row_of_own {w : World} {base : Nat} {v : Value} {m : Nat} {bs l : List Nat} {u : List Value} {t : TypeId} (h : w.ownsRow base t 1 v m (cells .u8 bs ++ u)) (hu : u = cells .u8 l) : ∃ A m' c, v = .slice A m' c ∧ Row w base .u8 t A m' c (bs ++ l) := by
  subst hu
  rw [← cells_append] at h
  rcases h.2 with ⟨h1, h0⟩ | ⟨g, cap, cur, h1, _⟩
  · subst h0
    exact ⟨none, 0, 0, h1, by rw [h1] at h; exact h⟩
  · exact ⟨_, m, cap, h1, by rw [h1] at h; exact h⟩
set_option maxHeartbeats 1000000 in
theorem appU_small (base : Nat) (A : Option Addr) (n c : Nat) (bs : List Nat) (x : Nat) (w : World) (hb : base ≤ w.heap.size) (hr : Row w base .u8 5 A n c bs) (hN : n ≤ 100000000) (h2 : x < 100) :
    Calls Tryz.prog 110 #[.slice A n c, .int .u64 (x : Int), .int .i64 10] w (GivesRow base (bs ++ asc x) w) := by
  go_enter Tryz.func110, Tryz.ntmps110
  go_wp2_with fail
  refine (smallS_any x w h2).mono ?_
  rintro e w1 ⟨⟨s, rfl, hs, hsz, hl⟩, rfl⟩
  have HS := hide hs
  have HZ := hide hsz
  have hs2 : s.size ≤ 2 := by omega
  clear hs hsz
  obtain ⟨i0, hi, hz0, hz1, hz2⟩ := info_parts u8_info
  go_wp2_with (at_builtin; refine Lib.wpList_append_own_string _ rfl _ _ 75 9 rfl base 5 i0 Tryz.underlying75 Tryz.underlying9 hi hz0 hz1 hz2 (.slice A n c) n (cells .u8 bs) rfl hr s rfl (by simp only [maxLen]; omega) (by omega) hb ?_; intro v' w2 hown hgr _)
  obtain ⟨A', m', c', rfl, hrow⟩ := row_of_own hown HS.out
  go_ret
  refine ⟨A', m', c', rfl, hrow, (Below.refl _ _).grown hgr hb (fun j hj => (World.ownsRow.lt hr j hj).1), hgr.size⟩
end Go.Proofs.YtoeknkakdoemfaaGreatDoor

/- The contract of natural.Text. -/
namespace Go.Proofs.YtoeknkakdoemfaaGreatDoor
open Go Go.RowKit

/-- a string of bytes -/
def strN (bs : List Nat) : ByteArray := ⟨(bs.map UInt8.ofNat).toArray⟩
theorem run_conv (w : World) (A : Option Addr) (n c : Nat) (bs : List Nat) (hr : RL w .u8 A n bs) (hn : 0 < n) : (convert 75 9 (.slice A n c)).run Tryz.prog w = .ok (.string (strN bs)) w := by
  obtain ⟨b, o, rfl, hc⟩ := hr.2 hn
  have h := run_convert_bytes_arg (P := Tryz.prog) w 75 5 Tryz.underlying75 Tryz.underlying5 b o n c (bs.map (fun x : Nat => (x : Int))) (by rw [List.length_map]; exact hr.len)
    (fun i hi => by
      have hl : i < bs.length := by rw [hr.len]; exact hi
      rw [hc i bs[i] (List.getElem?_eq_getElem hl)]
      simp [List.getD, List.getElem?_eq_getElem hl]) 9 Tryz.underlying9
  rw [h]
  simp [strOfNums, strN]

theorem asc_eq {n v : Nat} (h1 : 10 ^ n ≤ v) (h2 : v < 10 ^ (n + 1)) : asc v = dec (n + 1) v := by rw [asc, Lib.nDigits_unique n v h1 h2]
theorem asc_small {v : Nat} (h : v < 10) : asc v = [48 + v] := by
  rw [asc, Lib.nDigits_small h]
  show [48 + v / 1 % 10] = _
  rw [Nat.div_one, Nat.mod_eq_of_lt h]
theorem nDigits_pow : ∀ (m x V : Nat), V ≠ 0 → x < 10 ^ m → Lib.nDigits (x + 10 ^ m * V) = Lib.nDigits V + m
  | 0, x, V, _, hx => by
    obtain rfl : x = 0 := by simp at hx; exact hx
    simp
  | m + 1, x, V, hV, hx => by
    have e : (x + 10 ^ (m + 1) * V) / 10 = x / 10 + 10 ^ m * V := by
      rw [Nat.pow_succ, Nat.mul_comm (10 ^ m) 10, Nat.mul_assoc, Nat.add_mul_div_left _ _ (by decide)]
    have hbig : ¬ x + 10 ^ (m + 1) * V < 10 := by
      have h1 : 10 ^ 1 * 1 ≤ 10 ^ (m + 1) * V := Nat.mul_le_mul (Nat.pow_le_pow_right (by decide) (by omega)) (Nat.one_le_iff_ne_zero.2 hV)
      omega
    rw [Lib.nDigits_big hbig, e, nDigits_pow m (x / 10) V hV (by rw [Nat.pow_succ] at hx; exact (Nat.div_lt_iff_lt_mul (by decide)).2 hx)]
    omega
theorem dec_split (n m x V : Nat) (hx : x < 10 ^ m) : dec (n + m) (x + 10 ^ m * V) = dec n V ++ dec m x := by
  unfold dec
  rw [List.range_add, List.map_append, List.map_map]
  congr 1
  · apply List.map_congr_left
    intro j hj
    have hj' := List.mem_range.1 hj
    have e1 : n + m - 1 - j = m + (n - 1 - j) := by omega
    rw [e1, Nat.pow_add, ← Nat.div_div_eq_div_mul, Nat.add_mul_div_left _ _ (Nat.pow_pos (by decide)), Nat.div_eq_of_lt hx, Nat.zero_add]
  · apply List.map_congr_left
    intro j hj
    have hj' := List.mem_range.1 hj
    show 48 + (x + 10 ^ m * V) / 10 ^ (n + m - 1 - (n + j)) % 10 = 48 + x / 10 ^ (m - 1 - j) % 10
    have e1 : n + m - 1 - (n + j) = m - 1 - j := by omega
    have e2 : 10 ^ m * V = 10 ^ (m - 1 - j) * (10 * (10 ^ j * V)) := by
      have : 10 ^ m = 10 ^ (m - 1 - j) * (10 * 10 ^ j) := by
        rw [← Nat.pow_succ', ← Nat.pow_add]; congr 1; omega
      rw [this, Nat.mul_assoc, Nat.mul_assoc]
    rw [e1, e2, Nat.add_mul_div_left _ _ (Nat.pow_pos (by decide)), Nat.add_mul_mod_self_left]
theorem d9_dec (x : Nat) : d9 x 9 = dec 9 x := rfl
theorem asc_step {x V : Nat} (hV : V ≠ 0) (hx : x < 1000000000) : asc (x + B9 * V) = asc V ++ d9 x 9 := by
  have h := nDigits_pow 9 x V hV hx
  have e : Lib.nDigits (x + B9 * V) = Lib.nDigits V + 9 := h
  rw [asc, e, d9_dec, asc]
  exact dec_split _ 9 x V hx
theorem asc_pos (v : Nat) : 0 < (asc v).length := by
  rw [asc, dec, List.length_map, List.length_range, Lib.nDigits]
  split <;> omega
theorem asc_len_small {x : Nat} (h : x < 1000000000) : (asc x).length ≤ 9 := by
  rw [asc, dec, List.length_map, List.length_range]
  by_cases h1 : x < 100
  · by_cases h2 : x < 10
    · rw [Lib.nDigits_small h2]; omega
    · rw [Lib.nDigits_unique 1 x (by omega) (by omega)]; omega
  · exact (nd_le x (by omega) h).2

theorem appendUint_any (base : Nat) (A : Option Addr) (n c : Nat) (bs : List Nat) (x : Nat) (w : World) (hb : base ≤ w.heap.size) (hr : Row w base .u8 5 A n c bs) (hN : n ≤ 100000000) (h2 : x < 1000000000) (hT : Tab w) :
    Calls Tryz.prog 89 #[.slice A n c, .int .u64 (x : Int), .int .i64 10] w (GivesRow base (bs ++ asc x) w) := by
  have H : Hid (Calls Tryz.prog 110 #[.slice A n c, .int .u64 (x : Int), .int .i64 10] w (GivesRow base (bs ++ asc x) w)) := by
    by_cases h : x < 100
    · exact appU_small base A n c bs x w hb hr hN h
    · exact appU_big base A n c bs x w hb hr hN (by omega) h2 hT
  clear hr hT
  go_enter Tryz.func89, Tryz.ntmps89
  go_wp2_with fail
  refine H.out.mono ?_
  rintro e w1 ⟨A1, n1, c1, rfl, h1, h2, h3⟩
  go_wp2
  go_ret
  exact ⟨A1, n1, c1, rfl, h1, h2, h3⟩

set_option maxHeartbeats 1000000 in
theorem text_any (A : Option Addr) (n c : Nat) (xs : List Nat) (w : World) (hr : RL w .u32 A n xs) (hn : n ≤ c) (hc : c ≤ maxLen) (hN : n ≤ 900000) (hx : ∀ x ∈ xs, x < 4294967296) (hT : Tab w) (v : Nat) (hv : val B9 xs = v) :
    Calls Tryz.prog 59 #[.agg #[.slice A n c]] w fun e w' => e = .returned (.string (strN (asc v))) ∧ Below w.heap.size w w' := by
  have HX := hide hx
  have HV := hide hv
  clear hx hv
  go_enter Tryz.func59, Tryz.ntmps59
  go_wp2_with fail
  have HB := box1 w (.slice A n c) 24
  generalize w.alloc (Obj.cells #[Value.slice A n c] 24) = W at HB ⊢
  obtain ⟨hW, _, _⟩ := HB
  refine (canon_any A n c xs _ (hr.below hW) hn hc (by omega) HX.out).mono ?_
  rintro e w1 ⟨A1, n1, c1, rfl, hr1, hn1, hc1, hb1⟩
  have hl1 : n1 ≤ n + 1 := dig_len_u32 hr1.len hr.len HX.out
  have hb2 := hW.trans (hb1.mono hW.size)
  have hT1 := hT.below hb2
  rw [HV.out] at hr1
  clear hr hb1 hT
  by_cases h0 : n1 = 0
  · subst h0
    have HE := hide (show asc v = [48] from by
      rw [(dig_eq_nil B9 (by decide)).1 (List.eq_nil_of_length_eq_zero hr1.len)]
      exact asc_small (by decide))
    clear hr1 hT1
    go_wp2
    go_ret
    refine ⟨?_, hb2⟩
    rw [HE.out]; rfl
  · obtain ⟨b, o, t, rfl, ht, hcell⟩ := hr1.at_ (j := n1 - 1) (by omega)
    have htb : t < 1000000000 := dig_lt B9 (by decide) v t (List.mem_of_getElem? ht)
    have htop := (nd_top hr1.len h0 ht).2
    have hn0 : ((n1 : Int) == 0) = false := by simp; exact h0
    have HVT := hide (show val B9 ((dig B9 v).drop (n1 - 1)) = t from by
      rw [val_drop_step B9 ht, List.drop_eq_nil_of_le (by rw [hr1.len]; omega)]; simp [val])
    clear ht
    have hblt : b < w1.heap.size := hr1.lt (by omega) b o rfl
    obtain ⟨i0, hi, hz0, hz1, hz2⟩ := info_parts u8_info
    go_wp2_with (at_make; refine wpList_make_own _ rfl _ _ 75 rfl w1.heap.size 5 i0 _ 1 Tryz.underlying75 hi hz0 hz1 .i64 .i64 _ (9 * n1) rfl rfl (by omega) (by rw [hz2]; omega) (by unfold maxLen; omega) (Nat.le_refl _) ?_; intro w3 hown3 hgr3; have hb3 : Below w1.heap.size w1 w3 := (Below.refl _ _).grown hgr3 (Nat.le_refl _) (fun k hk => by cases hk); have hcell3 : w3.cell? ⟨b, o + (n1 - 1), none⟩ = some (.int .u32 (t : Int)) := (hb3.cell (p := ⟨b, o + (n1 - 1), none⟩) hblt).trans hcell)
    have hrow3 : Row w3 w1.heap.size .u8 5 (some ⟨w1.heap.size, 0, none⟩) 0 (9 * n1) [] := hown3
    have hr3 := hr1.below hb3
    have hT3 := hT1.below hb3
    clear hown3 hgr3
    refine (appendUint_any w1.heap.size _ 0 _ [] t w3 hb3.size hrow3 (by omega) htb hT3).mono ?_
    rintro e w4 ⟨A4, n4, c4, rfl, hrow4, hb4, hsz4⟩
    have hbel4 := hb3.trans hb4
    rw [List.nil_append] at hrow4
    have hl4 : n4 ≤ 9 := by rw [← hrow4.len]; exact asc_len_small htb
    clear hrow3 hb3 hr3 hT3 hb4 hcell3 hcell
    go_wp2
    go_loopw [5, 6] (fun s i wr => ∃ (k : Nat) (A : Option Addr) (m c V : Nat), k + 1 ≤ n1 ∧ i = .int .i64 ((k : Int) - 1) ∧ s = .slice A m c ∧ Row wr w1.heap.size .u8 5 A m c (asc V) ∧ Below w1.heap.size w1 wr ∧ val B9 ((dig B9 v).drop k) = V ∧ V ≠ 0 ∧ m + 9 * k ≤ 9 * n1) (fun _ i _ => (intOf i + 1).toNat)
    case atStart => exact ⟨n1 - 1, A4, n4, c4, t, by omega, by go_num, rfl, hrow4, hbel4, HVT.out, htop, by omega⟩
    case round =>
      obtain ⟨k, A5, m, c5, V, hk, rfl, rfl, hrow, hbr, hval, hVne, hmk⟩ := hrel
      clear hrow4 hbel4
      by_cases hk0 : k = 0
      · subst hk0
        have hVv : V = v := by rw [← hval]; exact val_dig B9 (by decide) v
        rw [hVv] at hrow
        have hconv := run_conv wr A5 m c5 (asc v) hrow.rl (by have := asc_pos v; have := hrow.len; omega)
        have hbF := hb2.trans (hbr.mono hb2.size)
        clear hval hVv
        go_wp2
        go_ret
        exact ⟨rfl, hbF⟩
      · obtain ⟨k, rfl⟩ : ∃ j, k = j + 1 := ⟨k - 1, by omega⟩
        have hr5 := hr1.below hbr
        obtain ⟨x, hx, hcell⟩ := hr5.cell (j := k) (by omega)
        have hxb : x < 1000000000 := dig_lt B9 (by decide) v x (List.mem_of_getElem? hx)
        have HN := hide (show val B9 ((dig B9 v).drop k) = x + B9 * V from by rw [val_drop_step B9 hx, hval])
        have HA := hide (show asc (x + B9 * V) = asc V ++ d9 x 9 from asc_step hVne hxb)
        have hne : x + B9 * V ≠ 0 := by
          have := Nat.mul_pos (show 0 < B9 by decide) (Nat.pos_of_ne_zero hVne)
          omega
        have hbs := hbr.size
        clear hx hval
        rw [show (((k + 1 : Nat) : Int) - 1) = (k : Int) from by omega]
        go_wp2_with fail
        refine (appendLimb_any w1.heap.size A5 m c5 (asc V) x wr hbs hrow (by omega) hxb).mono ?_
        rintro e w6 ⟨A6, n6, c6, rfl, hrow6, hb6, hsz6⟩
        have hl6 : n6 = m + 9 := by
          have h1 := hrow6.len
          rw [List.length_append, hrow.len] at h1
          simp [d9] at h1
          omega
        have HL6 := hide hl6
        rw [← HA.out] at hrow6
        clear hl6
        go_wp2
        go_roundw
        case rel => exact ⟨k, A6, n6, c6, x + B9 * V, by omega, rfl, rfl, hrow6, hbr.trans hb6, HN.out, hne, by have := HL6.out; omega⟩
        case measure => simp [intOf]
end Go.Proofs.YtoeknkakdoemfaaGreatDoor

/- The contracts at canonical arguments. -/
namespace Go.Proofs.YtoeknkakdoemfaaGreatDoor
open Go Go.RowKit

theorem dig_u32 (v : Nat) : ∀ x ∈ dig B9 v, x < 4294967296 := fun x hx => by
  have : x < 1000000000 := dig_lt B9 (by decide) v x hx
  omega
theorem len_le {v n k : Nat} (h : (dig B9 v).length = n) (hv : v < B9 ^ k) : n ≤ k := by rw [← h]; exact (dig_length_le B9 (by decide) k v).2 hv

section
variable (A : Option Addr) (n c u : Nat) (A' : Option Addr) (m d v : Nat) (w : World) (hr : RL w .u32 A n (dig B9 u)) (hn : n ≤ c) (hc : c ≤ maxLen) (hN : n ≤ 900000) (hr' : RL w .u32 A' m (dig B9 v)) (hm : m ≤ d) (hd : d ≤ maxLen) (hM : m ≤ 900000)
include hr hn hc hN
theorem text_d (hT : Tab w) (s : ByteArray) (hs : strN (asc u) = s) : Calls Tryz.prog 59 #[.agg #[.slice A n c]] w fun e w' => e = .returned (.string s) ∧ Below w.heap.size w w' := by
  subst hs
  exact text_any A n c _ w hr hn hc hN (dig_u32 u) hT u (val_dig B9 (by decide) u)
theorem digits_d (r : Nat) (h : nd u = r) : Calls Tryz.prog 108 #[.agg #[.slice A n c]] w fun e w' => e = .returned (.int .i64 (r : Int)) ∧ Below w.heap.size w w' := by
  have := digits_any A n c _ w hr hn hc hN (dig_u32 u)
  rw [val_dig B9 (by decide), h] at this
  exact this
include hr' hm hd hM
theorem cmp_d (r : Int) (h : cmpI u v = r) : Calls Tryz.prog 63 #[.agg #[.slice A n c], .agg #[.slice A' m d]] w fun e w' => e = .returned (.int .i64 r) ∧ Below w.heap.size w w' := by
  have := cmp_any A n c _ A' m d _ w hr hn hc hN (dig_u32 u) hr' hm hd hM (dig_u32 v)
  rw [val_dig B9 (by decide), val_dig B9 (by decide), h] at this
  exact this
theorem add_d (T : Nat) (h : u + v = T) : Calls Tryz.prog 51 #[.agg #[.slice A n c], .agg #[.slice A' m d]] w (GivesN T w) :=
  add_any A n c _ A' m d _ w hr hn hc hN (dig_u32 u) hr' hm hd hM (dig_u32 v) T (by rw [val_dig B9 (by decide), val_dig B9 (by decide), h])
theorem mul_d (T : Nat) (h : u * v = T) : Calls Tryz.prog 52 #[.agg #[.slice A n c], .agg #[.slice A' m d]] w (GivesN T w) :=
  mul_any A n c _ A' m d _ w hr hn hc hN (dig_u32 u) hr' hm hd hM (dig_u32 v) T (by rw [val_dig B9 (by decide), val_dig B9 (by decide), h])
theorem sub_d (T : Nat) (r : Int) (hT : subU u v = T) (h : subE u v = r) : Calls Tryz.prog 77 #[.agg #[.slice A n c], .agg #[.slice A' m d]] w (GivesNE T r w) := by
  have := sub_any A n c _ A' m d _ w hr hn hc hN (dig_u32 u) hr' hm hd hM (dig_u32 v)
  rw [val_dig B9 (by decide), val_dig B9 (by decide), hT, h] at this
  exact this
theorem divMod_d (q r : Nat) (hv : v ≠ 0) (hq : u / v = q) (hrr : u % v = r) : Calls Tryz.prog 42 #[.agg #[.slice A n c], .agg #[.slice A' m d]] w (GivesDM q r 0 w) := by
  have := divMod_any A n c _ A' m d _ w hr hn hc hN (dig_u32 u) hr' hm hd hM (dig_u32 v)
  rw [val_dig B9 (by decide), val_dig B9 (by decide), hq, hrr] at this
  exact this.mono fun e w' h => h.1 hv
end
theorem divMod_zero (A : Option Addr) (n c u : Nat) (A' : Option Addr) (m d : Nat) (ys : List Nat) (w : World) (hr : RL w .u32 A n (dig B9 u)) (hn : n ≤ c) (hc : c ≤ maxLen) (hN : n ≤ 900000) (hr' : RL w .u32 A' m ys) (hm : m ≤ d) (hd : d ≤ maxLen) (hM : m ≤ 900000)
    (hy : ∀ x ∈ ys, x < 4294967296) (h0 : val B9 ys = 0) : Calls Tryz.prog 42 #[.agg #[.slice A n c], .agg #[.slice A' m d]] w (GivesDM 0 0 12 w) :=
  (divMod_any A n c _ A' m d _ w hr hn hc hN (dig_u32 u) hr' hm hd hM hy).mono fun _ _ h => h.2 h0

theorem str3 : strN (asc 3) = ⟨#[51]⟩ := by rw [asc_small (by decide)]; rfl
theorem str2 : strN (asc 2) = ⟨#[50]⟩ := by rw [asc_small (by decide)]; rfl
theorem str6 : strN (asc 6) = ⟨#[54]⟩ := by rw [asc_small (by decide)]; rfl
theorem str1024 : strN (asc 1024) = ⟨#[49, 48, 50, 52]⟩ := by rw [asc_eq (n := 3) (by decide) (by decide)]; decide +kernel
theorem strBig : strN (asc 1000000007) = ⟨#[49, 48, 48, 48, 48, 48, 48, 48, 48, 55]⟩ := by rw [asc_eq (n := 9) (by decide) (by decide)]; decide +kernel
theorem nd1000 : nd 1000 = 4 := by decide +kernel
theorem dig4e9 : dig B9 4000000000 = [0, 4] := by
  rw [dig_pos B9 (by decide) _ (by decide)]
  show 0 :: dig B9 4 = _
  rw [dig_small B9 (by decide) 4 (by decide) (by decide)]
end Go.Proofs.YtoeknkakdoemfaaGreatDoor
