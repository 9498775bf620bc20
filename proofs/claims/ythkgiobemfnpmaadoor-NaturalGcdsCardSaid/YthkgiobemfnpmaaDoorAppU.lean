/- The contract of strconv.AppendUint below 10^9. -/
import Derived.Test.YthkgiobemfnpmaaDoorFmtB
import Derived.Test.YthkgiobemfnpmaaDoorFmtC
import Derived.Test.YthkgiobemfnpmaaDoorFmtD
import Derived.Test.YthkgiobemfnpmaaDoorFmtE
import Derived.Test.YthkgiobemfnpmaaDoorNumD
import Derived.Lib.AppendStr
import Derived.Test.YthkgiobemfnpmaaDoorSmal
namespace Go.Proofs.YthkgiobemfnpmaaDoor
open Go Go.RowKit

theorem nd_cases (x : Nat) (h1 : 100 ≤ x) (h2 : x < 1000000000) :
    (Lib.nDigits x = 3 ∧ x < 1000) ∨ (Lib.nDigits x = 4 ∧ 1000 ≤ x ∧ x < 10000) ∨ (Lib.nDigits x = 5 ∧ 10000 ≤ x ∧ x < 100000) ∨ (Lib.nDigits x = 6 ∧ 100000 ≤ x ∧ x < 1000000) ∨
    (Lib.nDigits x = 7 ∧ 1000000 ≤ x ∧ x < 10000000) ∨ (Lib.nDigits x = 8 ∧ 10000000 ≤ x ∧ x < 100000000) ∨ (Lib.nDigits x = 9 ∧ 100000000 ≤ x) := by
  by_cases a3 : x < 1000
  · exact .inl ⟨Lib.nDigits_unique 2 x (by omega) (by omega), a3⟩
  · by_cases a4 : x < 10000
    · exact .inr (.inl ⟨Lib.nDigits_unique 3 x (by omega) (by omega), by omega, a4⟩)
    · by_cases a5 : x < 100000
      · exact .inr (.inr (.inl ⟨Lib.nDigits_unique 4 x (by omega) (by omega), by omega, a5⟩))
      · by_cases a6 : x < 1000000
        · exact .inr (.inr (.inr (.inl ⟨Lib.nDigits_unique 5 x (by omega) (by omega), by omega, a6⟩)))
        · by_cases a7 : x < 10000000
          · exact .inr (.inr (.inr (.inr (.inl ⟨Lib.nDigits_unique 6 x (by omega) (by omega), by omega, a7⟩))))
          · by_cases a8 : x < 100000000
            · exact .inr (.inr (.inr (.inr (.inr (.inl ⟨Lib.nDigits_unique 7 x (by omega) (by omega), by omega, a8⟩)))))
            · exact .inr (.inr (.inr (.inr (.inr (.inr ⟨Lib.nDigits_unique 8 x (by omega) (by omega), by omega⟩)))))

theorem fmt_any (g x n : Nat) (w : World) (hz : Own w g .u8 74 (List.replicate 24 0)) (h1 : 100 ≤ x) (h2 : x < 1000000000) (hn : Lib.nDigits x = n) :
    Calls Tryd.prog 69 #[.slice (some ⟨g, 0, none⟩) n 24, .int .u64 (x : Int)] w (Fmted n x g w) := by
  rcases nd_cases x h1 h2 with ⟨e, b⟩ | ⟨e, a, b⟩ | ⟨e, a, b⟩ | ⟨e, a, b⟩ | ⟨e, a, b⟩ | ⟨e, a, b⟩ | ⟨e, a⟩ <;> (rw [e] at hn; subst hn)
  · exact fmt3 g x w hz h1 b
  · exact fmt4 g x w hz a b
  · exact fmt5 g x w hz a b
  · exact fmt6 g x w hz a b
  · exact fmt7 g x w hz a b
  · exact fmt8 g x w hz a b
  · exact fmt9 g x w hz a h2

theorem nd_le (x : Nat) (h1 : 100 ≤ x) (h2 : x < 1000000000) : 3 ≤ Lib.nDigits x ∧ Lib.nDigits x ≤ 9 := by
  rcases nd_cases x h1 h2 with h | h | h | h | h | h | h <;> omega
theorem own24 (w : World) : Own (w.alloc (Obj.cells #[Value.int IntKind.u8 0, Value.int IntKind.u8 0, Value.int IntKind.u8 0, Value.int IntKind.u8 0, Value.int IntKind.u8 0, Value.int IntKind.u8 0, Value.int IntKind.u8 0, Value.int IntKind.u8 0, Value.int IntKind.u8 0, Value.int IntKind.u8 0, Value.int IntKind.u8 0, Value.int IntKind.u8 0,
    Value.int IntKind.u8 0, Value.int IntKind.u8 0, Value.int IntKind.u8 0, Value.int IntKind.u8 0, Value.int IntKind.u8 0, Value.int IntKind.u8 0, Value.int IntKind.u8 0, Value.int IntKind.u8 0, Value.int IntKind.u8 0, Value.int IntKind.u8 0, Value.int IntKind.u8 0, Value.int IntKind.u8 0] 74)) w.heap.size .u8 74 (List.replicate 24 0) := heap_alloc_new w _

set_option maxHeartbeats 1000000 in
set_option maxRecDepth 100000 in
theorem appU_big (base : Nat) (A : Option Addr) (n c : Nat) (bs : List Nat) (x : Nat) (w : World) (hb : base ≤ w.heap.size) (hr : Row w base .u8 5 A n c bs) (hN : n ≤ 100000000) (h1 : 100 ≤ x) (h2 : x < 1000000000) (hT : Tab w) :
    Calls Tryd.prog 64 #[.slice A n c, .int .u64 (x : Int), .int .i64 10] w (GivesRow base (bs ++ asc x) w) := by
  obtain ⟨m, hm⟩ : ∃ m, Lib.nDigits x = m := ⟨_, rfl⟩
  obtain ⟨m1, m2⟩ := nd_le x h1 h2
  rw [hm] at m1 m2
  have HM := hide hm
  clear hm
  have hsl : ∀ (w : World) (a : Addr), (Instr.sliceAt 74 (.pointer (some a)) none (some (.int .i64 (m : Int))) none).run Tryd.prog w = .ok (.slice (some a) m 24) w := by
    intro w a
    have e24 : Tryd.prog.arrayLen 74 = 24 := by kernel_rfl
    have hm24 : (m : Int) ≤ (Tryd.prog.arrayLen 74 : Int) := by omega
    rw [run_sliceAt_array_h w 74 a (by kernel_rfl) .i64 (m : Int) (by omega) hm24]
    have e1 : ∀ w : World, (sizeOf (Tryd.prog.elem 74)).run Tryd.prog w = .ok 1 w := fun w => by kernel_rfl
    rw [e1, e24]
    simp [Result.andThen, slicedAt, Addr.add]
  have hm0 : 0 ≤ (m : Int) := by omega
  go_enter Tryd.func64, Tryd.ntmps64
  go_wp2_with fail
  have ho := own24 w
  have hW : Below w.heap.size w _ := (Below.refl w.heap.size w).alloc (Nat.le_refl _) (Obj.cells #[Value.int IntKind.u8 0, Value.int IntKind.u8 0, Value.int IntKind.u8 0, Value.int IntKind.u8 0, Value.int IntKind.u8 0, Value.int IntKind.u8 0, Value.int IntKind.u8 0, Value.int IntKind.u8 0, Value.int IntKind.u8 0, Value.int IntKind.u8 0, Value.int IntKind.u8 0, Value.int IntKind.u8 0,
    Value.int IntKind.u8 0, Value.int IntKind.u8 0, Value.int IntKind.u8 0, Value.int IntKind.u8 0, Value.int IntKind.u8 0, Value.int IntKind.u8 0, Value.int IntKind.u8 0, Value.int IntKind.u8 0, Value.int IntKind.u8 0, Value.int IntKind.u8 0, Value.int IntKind.u8 0, Value.int IntKind.u8 0] 74)
  generalize World.alloc w _ = W at *
  have hTW := hT.below hW
  have hrW := hr.below hW (Nat.le_refl _)
  refine (numDigits_any x W hTW (by omega) h2 m HM.out).mono ?_
  rintro e w1 ⟨rfl, rfl⟩
  go_wp2_with fail
  refine (fmt_any w.heap.size x m w1 ho h1 h2 HM.out).mono ?_
  rintro e w2 ⟨rfl, hg2, zs, hz2, hl2, htk⟩
  have hb2 : Below w.heap.size w w2 := below_only hW hg2 hW.size (Nat.le_refl _)
  have hr2 : Row w2 base .u8 5 A n c bs := hr.below hb2 (Nat.le_refl _)
  have hrl : RL w2 .u8 (some ⟨w.heap.size, 0, none⟩) m (dec m x) := by
    have h3 := (hz2.rl (n := 24) hl2).take_ (m := m) (by omega)
    rwa [htk] at h3
  have hbs2 : base ≤ w2.heap.size := Nat.le_trans hb hb2.size
  have HA := hide (show bs ++ dec m x = bs ++ asc x from by rw [asc, HM.out])
  clear ho hW hTW hrW hz2 hl2 htk hg2 hT
  go_wp2_with (at_builtin; refine wpList_append_rl _ rfl _ _ 60 rfl base 5 .u8 1 Tryd.underlying60 u8_info A n c bs rfl hr2 (some ⟨w.heap.size, 0, none⟩) m 24 (dec m x) rfl hrl (by omega) (n + m) rfl (by omega) hbs2 ?_; intro A' c' w3 hrow3 hbel3 hsz3)
  go_ret
  rw [HA.out] at hrow3
  exact ⟨A', n + m, c', rfl, hrow3, (hb2.mono hb).trans hbel3, Nat.le_trans hb2.size hsz3⟩

theorem row_of_own {w : World} {base : Nat} {v : Value} {m : Nat} {bs l : List Nat} {u : List Value} {t : TypeId} (h : w.ownsRow base t 1 v m (cells .u8 bs ++ u)) (hu : u = cells .u8 l) : ∃ A m' c, v = .slice A m' c ∧ Row w base .u8 t A m' c (bs ++ l) := by
  subst hu
  rw [← cells_append] at h
  rcases h.2 with ⟨h1, h0⟩ | ⟨g, cap, cur, h1, _⟩
  · subst h0
    exact ⟨none, 0, 0, h1, by rw [h1] at h; exact h⟩
  · exact ⟨_, m, cap, h1, by rw [h1] at h; exact h⟩
set_option maxHeartbeats 1000000 in
theorem appU_small (base : Nat) (A : Option Addr) (n c : Nat) (bs : List Nat) (x : Nat) (w : World) (hb : base ≤ w.heap.size) (hr : Row w base .u8 5 A n c bs) (hN : n ≤ 100000000) (h2 : x < 100) :
    Calls Tryd.prog 64 #[.slice A n c, .int .u64 (x : Int), .int .i64 10] w (GivesRow base (bs ++ asc x) w) := by
  go_enter Tryd.func64, Tryd.ntmps64
  go_wp2_with fail
  refine (smallS_any x w h2).mono ?_
  rintro e w1 ⟨⟨s, rfl, hs, hsz, hl⟩, rfl⟩
  have HS := hide hs
  have HZ := hide hsz
  have hs2 : s.size ≤ 2 := by omega
  clear hs hsz
  obtain ⟨i0, hi, hz0, hz1, hz2⟩ := info_parts u8_info
  go_wp2_with (at_builtin; refine Lib.wpList_append_own_string _ rfl _ _ 60 9 rfl base 5 i0 Tryd.underlying60 Tryd.underlying9 hi hz0 hz1 hz2 (.slice A n c) n (cells .u8 bs) rfl hr s rfl (by simp only [maxLen]; omega) (by omega) hb ?_; intro v' w2 hown hgr _)
  obtain ⟨A', m', c', rfl, hrow⟩ := row_of_own hown HS.out
  go_ret
  refine ⟨A', m', c', rfl, hrow, (Below.refl _ _).grown hgr hb (fun j hj => (World.ownsRow.lt hr j hj).1), hgr.size⟩
end Go.Proofs.YthkgiobemfnpmaaDoor
