/- slices.Grow, slices.Concat. -/
import Derived.Test.YtalbdclcappjpaaGreatDK
import Derived.Deep.LoopGhost
import Derived.IntWalk
namespace Go.Proofs.YtalbdclcappjpaaGreat
open Go Go.RowKit Go.Lib
def szc (n m : Nat) : Nat → Nat
  | 0 => 0
  | 1 => n
  | _ => n + m

set_option maxHeartbeats 2000000 in
theorem growM_pos (n : Nat) (w : World) (h0 : 0 < n) (hn : n ≤ 100000) :
    Calls Tryz.prog 76 #[.slice none 0 0, .int .i64 (n : Int)] w fun e w' => ∃ A c, e = .returned (.slice A 0 c) ∧ Ow eM w' w.heap.size A 0 c [] ∧ Below w.heap.size w w' := by
  obtain ⟨i, hi, hz, hs, hb⟩ := info_parts infoM
  have hold : (Builtin.firstCells i.size 0 (.slice none 0 0)).run Tryz.prog w.drew = .ok ([] : List Value).toArray w.drew := run_firstCells_none w.drew i.size 0 0 0
  have h := fun ty => Lib.run_append_grow_zeros (P := Tryz.prog) w 40 3 ty 46 i (Value.agg #[.int .i64 0, .int .i64 0]) .i64 .i64 Tryz.underlying40 Tryz.underlying3 hi hz none 0 0 [] hold n h0 (by omega) (by omega) (by omega) (by rw [hb]; omega) (growslice_fits (by omega) (by rw [hb]; omega))
  have hge := grownCap_ge w (0 + n) 0 46
  have hle := grownCap_le_maxLen w (0 + n) 0 46 (by unfold maxLen; omega)
  simp only [Nat.zero_add] at h hge hle
  have hrow := fun (G : Nat) (hG : n ≤ G) (hG2 : G ≤ maxLen) => show Ow eM (w.drew.alloc (.cells ((([] : List Value).toArray ++ Builtin.zeroCells (Value.agg #[.int .i64 0, .int .i64 0]).cells n) ++ Builtin.zeroCells (Value.agg #[.int .i64 0, .int .i64 0]).cells (G - n)) 46)) w.heap.size (some ⟨w.heap.size, 0, none⟩) 0 G [] from
    ⟨rfl, .inr ⟨w.heap.size, G, ((([] : List Value).toArray ++ Builtin.zeroCells (Value.agg #[.int .i64 0, .int .i64 0]).cells n) ++ Builtin.zeroCells (Value.agg #[.int .i64 0, .int .i64 0]).cells (G - n)), rfl, Nat.le_refl _, heap_alloc_new w.drew _, Nat.zero_le _, hG2, by show _ = G * 2; simp [size_zeroCells, Value.cells]; omega, by show List.take (0 * 2) _ = []; simp⟩⟩
  have hrow := hide (hrow _ hge hle)
  have hbel := hide ((Below.refl w.heap.size w).drew.alloc (Nat.le_refl _) (.cells ((([] : List Value).toArray ++ Builtin.zeroCells (Value.agg #[.int .i64 0, .int .i64 0]).cells n) ++ Builtin.zeroCells (Value.agg #[.int .i64 0, .int .i64 0]).cells (grownCap w n 0 46 - n)) 46))
  have hi1 : ¬ ((n : Int) < 0) := by omega
  have w1 : wrap64 ((n : Int) - 0) = (n : Int) := by unfold wrap64; omega
  generalize hG : grownCap w n 0 46 = G at *
  generalize w.drew.alloc _ = W at *
  have H := hide h
  unfold maxLen at hle
  clear hi hz hs hb hold h hG
  go_enter Tryz.func76, Tryz.ntmps76
  go_wp2_with (at_builtin; refine Lib.wpList_append_run _ rfl _ _ _ _ rfl _ _ rfl rfl _ _ (H.out _) ?_)
  go_ret
  exact ⟨_, _, rfl, hrow.out, hbel.out⟩
set_option maxHeartbeats 2000000 in
theorem growM_zero (w : World) :
    Calls Tryz.prog 76 #[.slice none 0 0, .int .i64 0] w fun e w' => ∃ A c, e = .returned (.slice A 0 c) ∧ Ow eM w' w.heap.size A 0 c [] ∧ Below w.heap.size w w' := by
  go_enter Tryz.func76, Tryz.ntmps76
  go_wp2_with fail
  go_ret
  exact ⟨_, _, rfl, Ow.nil_ _ _, Below.refl _ _⟩
theorem growM_any (n : Nat) (w : World) (hn : n ≤ 100000) :
    Calls Tryz.prog 76 #[.slice none 0 0, .int .i64 (n : Int)] w fun e w' => ∃ A c, e = .returned (.slice A 0 c) ∧ Ow eM w' w.heap.size A 0 c [] ∧ Below w.heap.size w w' := by
  rcases Nat.eq_zero_or_pos n with h | h
  · subst h
    exact growM_zero w
  · exact growM_pos n w h hn
theorem srcM {w : World} {A : Option Addr} {n : Nat} {ys : List Mk} (h : SL eM w A n ys) : 0 < n → ∃ a, A = some a ∧ ∀ j u, (flatE eM ys)[j]? = some u → w.cell? (a.add j) = some u := fun hm => by
  obtain ⟨b, o, e, hl, hc⟩ := h.2 hm
  exact ⟨_, e, fun j u hj => by
    have ea : (⟨b, o, none⟩ : Addr).add j = ⟨b, o + j, none⟩ := by unfold Addr.add; split <;> simp_all
    rw [ea]; exact hc j u hj⟩
/-- an own row that is new since a world -/
def FrM (w0 w : World) (v : Value) (ys : List Mk) : Prop := ∃ A c, v = .slice A ys.length c ∧ Ow eM w w0.heap.size A ys.length c ys ∧ Below w0.heap.size w0 w
def catM (xs ys : List Mk) : Nat → List Mk
  | 0 => []
  | 1 => xs
  | _ => xs ++ ys
set_option maxHeartbeats 4000000 in
theorem concatM_any (g : Nat) (A : Option Addr) (n c : Nat) (xs : List Mk) (A' : Option Addr) (m d : Nat) (ys : List Mk) (w : World) (t : TypeId) (hg : Box w g #[.slice A n c, .slice A' m d] t) (hx : SL eM w A n xs) (hy : SL eM w A' m ys) (hn : n ≤ 1000) (hm : m ≤ 1000) :
    Calls Tryz.prog 56 #[.slice (some ⟨g, 0, none⟩) 2 2] w fun e w' => ∃ v, e = .returned v ∧ FrM w w' v (xs ++ ys) := by
  have HX := hide hx
  have HY := hide hy
  have HG := hide hg
  have HL := hide (And.intro hx.1 hy.1)
  have k0 : w.cell? ⟨g, 0, none⟩ = some (.slice A n c) := hg.at_ 0
  have k1 : w.cell? ⟨g, 1, none⟩ = some (.slice A' m d) := hg.at_ 1
  clear hx hy hg
  go_enter Tryz.func56, Tryz.ntmps56
  go_wp2_with fail
  go_loopg [3, 11] 2 (fun gk s i wr => ∃ j : Nat, j + gk = 2 ∧ i = .int .i64 (j : Int) ∧ s = .int .i64 (szc n m j : Int) ∧ w = wr)
  case atStart => exact ⟨0, by omega, rfl, rfl, rfl⟩
  case round =>
    obtain ⟨j, hj, rfl, rfl, rfl⟩ := hrel
    have hc : j = 0 ∨ j = 1 ∨ j = 2 := by omega
    rcases hc with rfl | rfl | rfl
    · obtain rfl : gk = 2 := by omega
      rw [show szc n m 0 = 0 from rfl]
      clear hj
      go_wp2_with fail
      go_roundg 1
      case measure => omega
      case rel => exact ⟨1, by omega, by go_num, by show _ = Value.int .i64 (n : Int); go_num, rfl⟩
    · obtain rfl : gk = 1 := by omega
      rw [show szc n m 1 = n from rfl]
      clear hj
      go_wp2_with fail
      go_roundg 0
      case measure => omega
      case rel => exact ⟨2, by omega, by go_num, by show _ = Value.int .i64 ((n + m : Nat) : Int); go_num, rfl⟩
    · obtain rfl : gk = 0 := by omega
      rw [show szc n m 2 = n + m from rfl]
      clear hj
      go_wp2_with fail
      refine (growM_any (n + m) w (by omega)).mono ?_
      rintro e w1 ⟨A1, c1, rfl, hr, hb⟩
      have HR := hide hr
      have HB := hide hb
      clear hr hb k0 k1
      go_wp2_with fail
      go_loopg [6, 27] 2 (fun gk s i wr => ∃ (j : Nat), j + gk = 2 ∧ i = .int .i64 (j : Int) ∧ Hid (FrM w wr s (catM xs ys j)))
      case atStart => exact ⟨0, by omega, rfl, hide ⟨A1, c1, rfl, HR.out, HB.out⟩⟩
      case round =>
        obtain ⟨j, hj, rfl, HF⟩ := hrel
        obtain ⟨A2, c2, rfl, hr2, hb2⟩ := HF.out
        have HR2 := hide hr2
        have HB2 := hide hb2
        have hwr := hb2.size
        have k0 : wr.cell? ⟨g, 0, none⟩ = some (.slice A n c) := (HG.out.below' hb2).at_ 0
        have k1 : wr.cell? ⟨g, 1, none⟩ = some (.slice A' m d) := (HG.out.below' hb2).at_ 1
        clear hr2 hb2
        have hc : j = 0 ∨ j = 1 ∨ j = 2 := by omega
        rcases hc with rfl | rfl | rfl
        · obtain rfl : gk = 2 := by omega
          rw [show catM xs ys 0 = [] from rfl] at HR2 ⊢
          clear hj
          go_wp2_with (at_builtin; refine wpList_app_ow _ rfl _ _ 40 rfl w.heap.size 46 _ 2 16 Tryz.underlying40 infoM rfl (by decide) _ _ _ (flatE eM []) rfl HR2.out A n c (flatE eM xs) rfl (by rw [flatE_len, HL.out.1]; rfl) (srcM (HX.out.keep HB2.out)) (flatE_one xs) (by decide) (by simp; omega) hwr ?_; intro A3 c3 w3 r1 r2 r3)
          go_roundg 1
          case measure => omega
          case rel =>
            refine ⟨1, by omega, by go_num, hide ⟨A3, c3, ?_, ?_, Turn.onto HB2.out r2 fun k hk => (HR2.out.blk k hk).1⟩⟩
            · show _ = Value.slice A3 xs.length c3
              rw [HL.out.1]
            · show Ow eM w3 w.heap.size A3 xs.length c3 xs
              unfold Ow
              have e1 : ([] : List Mk).length + n = xs.length := by rw [HL.out.1]; simp
              rw [e1] at r1
              exact r1
        · obtain rfl : gk = 1 := by omega
          rw [show catM xs ys 1 = xs from rfl] at HR2 ⊢
          clear hj
          go_wp2_with (at_builtin; refine wpList_app_ow _ rfl _ _ 40 rfl w.heap.size 46 _ 2 16 Tryz.underlying40 infoM rfl (by decide) _ _ _ (flatE eM xs) rfl HR2.out A' m d (flatE eM ys) rfl (by rw [flatE_len, HL.out.2]; rfl) (srcM (HY.out.keep HB2.out)) (flatE_one ys) (by decide) (by rw [HL.out.1]; omega) hwr ?_; intro A3 c3 w3 r1 r2 r3)
          go_roundg 0
          case measure => omega
          case rel =>
            have e1 : xs.length + m = (xs ++ ys).length := by rw [List.length_append, HL.out.2]
            refine ⟨2, by omega, by go_num, hide ⟨A3, c3, ?_, ?_, Turn.onto HB2.out r2 fun k hk => (HR2.out.blk k hk).1⟩⟩
            · show _ = Value.slice A3 (xs ++ ys).length c3
              rw [← e1]
            · show Ow eM w3 w.heap.size A3 (xs ++ ys).length c3 (xs ++ ys)
              unfold Ow
              rw [flatE_app]
              rw [e1] at r1
              exact r1
        · obtain rfl : gk = 0 := by omega
          go_wp2_with fail
          go_ret
          exact ⟨_, rfl, HF.out⟩

set_option maxHeartbeats 2000000 in
theorem growD_pos (n : Nat) (w : World) (h0 : 0 < n) (hn : n ≤ 100000) :
    Calls Tryz.prog 73 #[.slice none 0 0, .int .i64 (n : Int)] w fun e w' => ∃ A c, e = .returned (.slice A 0 c) ∧ Ow eD w' w.heap.size A 0 c [] ∧ Below w.heap.size w w' := by
  obtain ⟨i, hi, hz, hs, hb⟩ := info_parts infoD
  have hold : (Builtin.firstCells i.size 0 (.slice none 0 0)).run Tryz.prog w.drew = .ok ([] : List Value).toArray w.drew := run_firstCells_none w.drew i.size 0 0 0
  have h := fun ty => Lib.run_append_grow_zeros (P := Tryz.prog) w 38 3 ty 44 i (Value.agg #[.int .i64 0, .int .i64 0, .int .i64 0, .int .i64 0, .int .i64 0]) .i64 .i64 Tryz.underlying38 Tryz.underlying3 hi hz none 0 0 [] hold n h0 (by omega) (by omega) (by omega) (by rw [hb]; omega) (growslice_fits (by omega) (by rw [hb]; omega))
  have hge := grownCap_ge w (0 + n) 0 44
  have hle := grownCap_le_maxLen w (0 + n) 0 44 (by unfold maxLen; omega)
  simp only [Nat.zero_add] at h hge hle
  have hrow := fun (G : Nat) (hG : n ≤ G) (hG2 : G ≤ maxLen) => show Ow eD (w.drew.alloc (.cells ((([] : List Value).toArray ++ Builtin.zeroCells (Value.agg #[.int .i64 0, .int .i64 0, .int .i64 0, .int .i64 0, .int .i64 0]).cells n) ++ Builtin.zeroCells (Value.agg #[.int .i64 0, .int .i64 0, .int .i64 0, .int .i64 0, .int .i64 0]).cells (G - n)) 44)) w.heap.size (some ⟨w.heap.size, 0, none⟩) 0 G [] from
    ⟨rfl, .inr ⟨w.heap.size, G, ((([] : List Value).toArray ++ Builtin.zeroCells (Value.agg #[.int .i64 0, .int .i64 0, .int .i64 0, .int .i64 0, .int .i64 0]).cells n) ++ Builtin.zeroCells (Value.agg #[.int .i64 0, .int .i64 0, .int .i64 0, .int .i64 0, .int .i64 0]).cells (G - n)), rfl, Nat.le_refl _, heap_alloc_new w.drew _, Nat.zero_le _, hG2, by show _ = G * 5; simp [size_zeroCells, Value.cells]; omega, by show List.take (0 * 5) _ = []; simp⟩⟩
  have hrow := hide (hrow _ hge hle)
  have hbel := hide ((Below.refl w.heap.size w).drew.alloc (Nat.le_refl _) (.cells ((([] : List Value).toArray ++ Builtin.zeroCells (Value.agg #[.int .i64 0, .int .i64 0, .int .i64 0, .int .i64 0, .int .i64 0]).cells n) ++ Builtin.zeroCells (Value.agg #[.int .i64 0, .int .i64 0, .int .i64 0, .int .i64 0, .int .i64 0]).cells (grownCap w n 0 44 - n)) 44))
  have hi1 : ¬ ((n : Int) < 0) := by omega
  have w1 : wrap64 ((n : Int) - 0) = (n : Int) := by unfold wrap64; omega
  generalize hG : grownCap w n 0 44 = G at *
  generalize w.drew.alloc _ = W at *
  have H := hide h
  unfold maxLen at hle
  clear hi hz hs hb hold h hG
  go_enter Tryz.func73, Tryz.ntmps73
  go_wp2_with (at_builtin; refine Lib.wpList_append_run _ rfl _ _ _ _ rfl _ _ rfl rfl _ _ (H.out _) ?_)
  go_ret
  exact ⟨_, _, rfl, hrow.out, hbel.out⟩
set_option maxHeartbeats 2000000 in
theorem growD_zero (w : World) :
    Calls Tryz.prog 73 #[.slice none 0 0, .int .i64 0] w fun e w' => ∃ A c, e = .returned (.slice A 0 c) ∧ Ow eD w' w.heap.size A 0 c [] ∧ Below w.heap.size w w' := by
  go_enter Tryz.func73, Tryz.ntmps73
  go_wp2_with fail
  go_ret
  exact ⟨_, _, rfl, Ow.nil_ _ _, Below.refl _ _⟩
theorem growD_any (n : Nat) (w : World) (hn : n ≤ 100000) :
    Calls Tryz.prog 73 #[.slice none 0 0, .int .i64 (n : Int)] w fun e w' => ∃ A c, e = .returned (.slice A 0 c) ∧ Ow eD w' w.heap.size A 0 c [] ∧ Below w.heap.size w w' := by
  rcases Nat.eq_zero_or_pos n with h | h
  · subst h
    exact growD_zero w
  · exact growD_pos n w h hn
theorem srcD {w : World} {A : Option Addr} {n : Nat} {ys : List Dec} (h : SL eD w A n ys) : 0 < n → ∃ a, A = some a ∧ ∀ j u, (flatE eD ys)[j]? = some u → w.cell? (a.add j) = some u := fun hm => by
  obtain ⟨b, o, e, hl, hc⟩ := h.2 hm
  exact ⟨_, e, fun j u hj => by
    have ea : (⟨b, o, none⟩ : Addr).add j = ⟨b, o + j, none⟩ := by unfold Addr.add; split <;> simp_all
    rw [ea]; exact hc j u hj⟩
/-- an own row that is new since a world -/
def FrD (w0 w : World) (v : Value) (ys : List Dec) : Prop := ∃ A c, v = .slice A ys.length c ∧ Ow eD w w0.heap.size A ys.length c ys ∧ Below w0.heap.size w0 w
def catD (xs ys : List Dec) : Nat → List Dec
  | 0 => []
  | 1 => xs
  | _ => xs ++ ys
set_option maxHeartbeats 4000000 in
theorem concatD_any (g : Nat) (A : Option Addr) (n c : Nat) (xs : List Dec) (A' : Option Addr) (m d : Nat) (ys : List Dec) (w : World) (t : TypeId) (hg : Box w g #[.slice A n c, .slice A' m d] t) (hx : SL eD w A n xs) (hy : SL eD w A' m ys) (hn : n ≤ 1000) (hm : m ≤ 1000) :
    Calls Tryz.prog 53 #[.slice (some ⟨g, 0, none⟩) 2 2] w fun e w' => ∃ v, e = .returned v ∧ FrD w w' v (xs ++ ys) := by
  have HX := hide hx
  have HY := hide hy
  have HG := hide hg
  have HL := hide (And.intro hx.1 hy.1)
  have k0 : w.cell? ⟨g, 0, none⟩ = some (.slice A n c) := hg.at_ 0
  have k1 : w.cell? ⟨g, 1, none⟩ = some (.slice A' m d) := hg.at_ 1
  clear hx hy hg
  go_enter Tryz.func53, Tryz.ntmps53
  go_wp2_with fail
  go_loopg [3, 11] 2 (fun gk s i wr => ∃ j : Nat, j + gk = 2 ∧ i = .int .i64 (j : Int) ∧ s = .int .i64 (szc n m j : Int) ∧ w = wr)
  case atStart => exact ⟨0, by omega, rfl, rfl, rfl⟩
  case round =>
    obtain ⟨j, hj, rfl, rfl, rfl⟩ := hrel
    have hc : j = 0 ∨ j = 1 ∨ j = 2 := by omega
    rcases hc with rfl | rfl | rfl
    · obtain rfl : gk = 2 := by omega
      rw [show szc n m 0 = 0 from rfl]
      clear hj
      go_wp2_with fail
      go_roundg 1
      case measure => omega
      case rel => exact ⟨1, by omega, by go_num, by show _ = Value.int .i64 (n : Int); go_num, rfl⟩
    · obtain rfl : gk = 1 := by omega
      rw [show szc n m 1 = n from rfl]
      clear hj
      go_wp2_with fail
      go_roundg 0
      case measure => omega
      case rel => exact ⟨2, by omega, by go_num, by show _ = Value.int .i64 ((n + m : Nat) : Int); go_num, rfl⟩
    · obtain rfl : gk = 0 := by omega
      rw [show szc n m 2 = n + m from rfl]
      clear hj
      go_wp2_with fail
      refine (growD_any (n + m) w (by omega)).mono ?_
      rintro e w1 ⟨A1, c1, rfl, hr, hb⟩
      have HR := hide hr
      have HB := hide hb
      clear hr hb k0 k1
      go_wp2_with fail
      go_loopg [6, 27] 2 (fun gk s i wr => ∃ (j : Nat), j + gk = 2 ∧ i = .int .i64 (j : Int) ∧ Hid (FrD w wr s (catD xs ys j)))
      case atStart => exact ⟨0, by omega, rfl, hide ⟨A1, c1, rfl, HR.out, HB.out⟩⟩
      case round =>
        obtain ⟨j, hj, rfl, HF⟩ := hrel
        obtain ⟨A2, c2, rfl, hr2, hb2⟩ := HF.out
        have HR2 := hide hr2
        have HB2 := hide hb2
        have hwr := hb2.size
        have k0 : wr.cell? ⟨g, 0, none⟩ = some (.slice A n c) := (HG.out.below' hb2).at_ 0
        have k1 : wr.cell? ⟨g, 1, none⟩ = some (.slice A' m d) := (HG.out.below' hb2).at_ 1
        clear hr2 hb2
        have hc : j = 0 ∨ j = 1 ∨ j = 2 := by omega
        rcases hc with rfl | rfl | rfl
        · obtain rfl : gk = 2 := by omega
          rw [show catD xs ys 0 = [] from rfl] at HR2 ⊢
          clear hj
          go_wp2_with (at_builtin; refine wpList_app_ow _ rfl _ _ 38 rfl w.heap.size 44 _ 5 40 Tryz.underlying38 infoD rfl (by decide) _ _ _ (flatE eD []) rfl HR2.out A n c (flatE eD xs) rfl (by rw [flatE_len, HL.out.1]; rfl) (srcD (HX.out.keep HB2.out)) (flatE_one xs) (by decide) (by simp; omega) hwr ?_; intro A3 c3 w3 r1 r2 r3)
          go_roundg 1
          case measure => omega
          case rel =>
            refine ⟨1, by omega, by go_num, hide ⟨A3, c3, ?_, ?_, Turn.onto HB2.out r2 fun k hk => (HR2.out.blk k hk).1⟩⟩
            · show _ = Value.slice A3 xs.length c3
              rw [HL.out.1]
            · show Ow eD w3 w.heap.size A3 xs.length c3 xs
              unfold Ow
              have e1 : ([] : List Dec).length + n = xs.length := by rw [HL.out.1]; simp
              rw [e1] at r1
              exact r1
        · obtain rfl : gk = 1 := by omega
          rw [show catD xs ys 1 = xs from rfl] at HR2 ⊢
          clear hj
          go_wp2_with (at_builtin; refine wpList_app_ow _ rfl _ _ 38 rfl w.heap.size 44 _ 5 40 Tryz.underlying38 infoD rfl (by decide) _ _ _ (flatE eD xs) rfl HR2.out A' m d (flatE eD ys) rfl (by rw [flatE_len, HL.out.2]; rfl) (srcD (HY.out.keep HB2.out)) (flatE_one ys) (by decide) (by rw [HL.out.1]; omega) hwr ?_; intro A3 c3 w3 r1 r2 r3)
          go_roundg 0
          case measure => omega
          case rel =>
            have e1 : xs.length + m = (xs ++ ys).length := by rw [List.length_append, HL.out.2]
            refine ⟨2, by omega, by go_num, hide ⟨A3, c3, ?_, ?_, Turn.onto HB2.out r2 fun k hk => (HR2.out.blk k hk).1⟩⟩
            · show _ = Value.slice A3 (xs ++ ys).length c3
              rw [← e1]
            · show Ow eD w3 w.heap.size A3 (xs ++ ys).length c3 (xs ++ ys)
              unfold Ow
              rw [flatE_app]
              rw [e1] at r1
              exact r1
        · obtain rfl : gk = 0 := by omega
          go_wp2_with fail
          go_ret
          exact ⟨_, rfl, HF.out⟩
end Go.Proofs.YtalbdclcappjpaaGreat
