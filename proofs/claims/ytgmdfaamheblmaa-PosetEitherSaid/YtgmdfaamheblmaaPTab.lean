/- The reference's Valid, Table. -/
import Derived.Test.YtgmdfaamheblmaaPDig
import Derived.Deep.WholeRow
namespace Go.Proofs.Ytgmdfaamheblmaa
open Go Go.RowKit PM

set_option maxHeartbeats 4000000 in
theorem dig_long (N : Nat) (A : Option Addr) (m c : Nat) (w : World) (hN : N ≤ 24) (hmn : N * N < m) :
    Calls Try.prog 36 #[.int .i64 (N : Int), .slice A m c] w fun e w' => e = .returned (.bool false) ∧ Below w.heap.size w w' := by
  have hq24 : N * N ≤ 576 := Nat.mul_le_mul hN hN
  obtain ⟨q, hq⟩ : ∃ q, N * N = q := ⟨_, rfl⟩
  rw [hq] at hmn hq24
  have hqi : (N : Int) * (N : Int) = (q : Int) := by rw [← hq]; exact (Int.natCast_mul N N).symm
  have W0 : IntKind.i64.wrap ((N : Int) * (N : Int)) = (q : Int) := by rw [hqi]; exact IntWalk.i64_in _ (by omega)
  have d0 : decide ((N : Int) < 0) = false := decide_eq_false (by omega)
  have d1 : decide ((24 : Int) < (N : Int)) = false := decide_eq_false (by omega)
  have d2 : decide ((q : Int) < (m : Int)) = true := decide_eq_true (by omega)
  clear hq hqi
  go_enter Try.func36, Try.ntmps36
  go_wp2_with fail
  go_ret
  exact ⟨rfl, Below.refl _ _⟩
theorem dig_any (n : Int) (A : Option Addr) (m c : Nat) (l : List (Int × Int)) (w : World) (hx : YL w A m l) (r : Bool) (hr : vB n l = r) :
    Calls Try.prog 36 #[.int .i64 n, .slice A m c] w fun e w' => e = .returned (.bool r) ∧ Below w.heap.size w w' := by
  by_cases h0 : n < 0
  · have d0 : decide (n < 0) = true := decide_eq_true h0
    obtain rfl : r = false := by rw [← hr]; unfold vB; rw [decide_eq_false (by omega), Bool.false_and]
    clear hx hr
    go_enter Try.func36, Try.ntmps36
    go_wp2_with fail
    go_ret
    exact ⟨rfl, Below.refl _ _⟩
  · by_cases h1 : 24 < n
    · have d0 : decide (n < 0) = false := decide_eq_false h0
      have d1 : decide (24 < n) = true := decide_eq_true h1
      obtain rfl : r = false := by rw [← hr]; unfold vB; rw [decide_eq_false (by omega), Bool.false_and]
      clear hx hr
      go_enter Try.func36, Try.ntmps36
      go_wp2_with fail
      go_ret
      exact ⟨rfl, Below.refl _ _⟩
    · obtain ⟨N, rfl⟩ : ∃ N : Nat, n = (N : Int) := ⟨n.toNat, by omega⟩
      by_cases h2 : N * N < m
      · obtain rfl : r = false := by
          rcases r with _ | _
          · rfl
          · exfalso
            obtain ⟨M, bs, e, rfl, hd⟩ := vB_true hr
            obtain rfl : N = M := by omega
            have h3 := hd.len
            have h4 := hx.1
            simp at h4
            omega
        exact dig_long N A m c w (by omega) h2
      · exact dig_loop N A m c l w hx (by omega) (by omega) r (by
          unfold vB at hr
          rwa [decide_eq_true (by omega), Bool.true_and] at hr)
set_option maxHeartbeats 1000000 in
theorem rvalid_any (n : Int) (A : Option Addr) (m c : Nat) (l : List (Int × Int)) (w : World) (hx : YL w A m l) (r : Bool) (hr : vB n l = r) :
    Calls Try.prog 14 #[.int .i64 n, .slice A m c] w fun e w' => e = .returned (.bool r) ∧ Below w.heap.size w w' := by
  have HX := hide hx
  have HR := hide hr
  clear hx hr
  go_enter Try.func14, Try.ntmps14
  go_wp2_with fail
  refine (dig_any n A m c l _ HX.out r HR.out).mono ?_
  rintro e w1 ⟨rfl, B⟩
  go_wp2_with fail
  go_ret
  exact ⟨rfl, B⟩
/-- the cells of a table -/
def cT (T : Nat → Nat → Bool) : Array Value := ((List.range 576).map fun q => Value.bool (T (q / 24) (q % 24))).toArray
theorem cT_size (T) : (cT T).size = 576 := by simp [cT]
theorem cT_info (T) : (Try.prog.info? 49).map (·.size) = some (cT T).size := by rw [cT_size]; kernel_rfl
theorem cT_one (T) : (cT T).all (·.oneCell') = true := by
  rw [Array.all_eq_true_iff_forall_mem]
  intro v hv
  simp only [cT, List.mem_toArray, List.mem_map] at hv
  obtain ⟨q, _, rfl⟩ := hv
  rfl
theorem cT_get (T : Nat → Nat → Bool) {q : Nat} (h : q < 576) : (cT T)[q]? = some (.bool (T (q / 24) (q % 24))) := by
  unfold cT
  rw [List.getElem?_toArray, List.getElem?_map, List.getElem?_range h]; rfl
theorem cT_at (T : Nat → Nat → Bool) {i j : Nat} (hi : i < 24) (hj : j < 24) : (cT T)[i * 24 + j]? = some (.bool (T i j)) := by
  rw [cT_get T (by omega), show (i * 24 + j) / 24 = i by omega, show (i * 24 + j) % 24 = j by omega]
theorem cT_ext {T U : Nat → Nat → Bool} (h : ∀ i j, i < 24 → j < 24 → T i j = U i j) : cT T = cT U := by
  apply Array.ext_getElem?
  intro q
  by_cases hq : q < 576
  · rw [cT_get T hq, cT_get U hq, h _ _ (by omega) (Nat.mod_lt _ (by decide))]
  · rw [Array.getElem?_eq_none (by rw [cT_size]; omega), Array.getElem?_eq_none (by rw [cT_size]; omega)]
theorem cT_set {T U : Nat → Nat → Bool} {i j : Nat} (hi : i < 24) (hj : j < 24) (h : ∀ a b, ¬(a = i ∧ b = j) → T a b = U a b) : (cT T).setIfInBounds (i * 24 + j) (.bool (U i j)) = cT U := by
  apply Array.ext_getElem?
  intro q
  rw [Array.getElem?_setIfInBounds]
  by_cases hq : q < 576
  · rw [cT_get U hq]
    by_cases e : i * 24 + j = q
    · subst e
      rw [if_pos rfl, if_pos (by rw [cT_size]; omega), show (i * 24 + j) / 24 = i by omega, show (i * 24 + j) % 24 = j by omega]
    · rw [if_neg e, cT_get T hq, h _ _ (by rintro ⟨e1, e2⟩; omega)]
  · rw [Array.getElem?_eq_none (by rw [cT_size]; omega)]
    by_cases e : i * 24 + j = q
    · omega
    · rw [if_neg e, Array.getElem?_eq_none (by rw [cT_size]; omega)]
/-- a table in a block -/
def OT (w : World) (g : Nat) (T : Nat → Nat → Bool) : Prop := Box w g (cT T) 49
section
variable {w w' : World} {g : Nat} {T U : Nat → Nat → Bool}
theorem OT.row (h : OT w g T) : w.heap[g]? = some (.cells (cT T) 49 (0, 0)) := h
theorem OT.lt (h : OT w g T) : g < w.heap.size := Box.lt h
theorem OT.cell (h : OT w g T) {i j : Nat} (hi : i < 24) (hj : j < 24) : w.cell? ⟨g, i * 24 + j, none⟩ = some (.bool (T i j)) := (Box.at_ h _).trans (cT_at T hi hj)
theorem OT.frozen (h : OT w g T) (j : Nat) : w.frozen? ⟨g, j, none⟩ = false := Box.frozen h j
theorem OT.below' (h : OT w g T) (hb : Below w.heap.size w w') : OT w' g T := Box.below' h hb
theorem OT.far (h : OT w g T) {p : Addr} (hp : g ≠ p.block) (u : Value) : OT (w.setCell p u) g T := Box.far h hp u
theorem OT.drew (h : OT w g T) : OT w.drew g T := h
theorem OT.drewN (h : OT w g T) (m : Nat) : OT (w.drewN m) g T := h
theorem OT.cast (h : OT w g T) (e : ∀ i j, i < 24 → j < 24 → T i j = U i j) : OT w g U := by unfold OT at *; rwa [← cT_ext e]
theorem OT.put (h : OT w g T) {i j : Nat} (hi : i < 24) (hj : j < 24) (hs : ∀ a b, ¬(a = i ∧ b = j) → T a b = U a b) {v : Bool} (e : v = U i j) : OT (w.setCell ⟨g, i * 24 + j, none⟩ (.bool v)) g U := by
  have := Box.set_ h (i * 24 + j) (.bool v)
  rw [e, cT_set hi hj hs] at this
  rw [e]
  exact this
theorem OT.setRow (h : OT w g T) (U : Nat → Nat → Bool) : OT (w.setRow g (cT U)) g U := setRow_heap w g _ _ _ _ h
theorem OT.setOther (h : OT w g T) {k : Nat} (hk : g ≠ k) (cs : Array Value) : OT (w.setRow k cs) g T := (setRow_other w k g cs hk).trans h
end
theorem boxT {w W : World} {c0 c1 : Array Value} (hW : (w.alloc (.cells c0 49)).alloc (.cells c1 49) = W) (R S : Nat → Nat → Bool) (h0 : c0 = cT R) (h1 : c1 = cT S) :
    Below w.heap.size w W ∧ OT W w.heap.size R ∧ OT W (w.heap.size + 1) S := by
  subst h0; subst h1
  exact boxD hW
theorem boxT1 {w W : World} {c0 : Array Value} (hW : w.alloc (.cells c0 49) = W) (R : Nat → Nat → Bool) (h0 : c0 = cT R) :
    Below w.heap.size w W ∧ OT W w.heap.size R := by
  subst h0
  obtain ⟨a, b, _⟩ := boxC hW
  exact ⟨a, b⟩
theorem zeroT (w : World) : (zeroValue 49).run Try.prog w = .ok (.agg (cT noR)) w := (zero_of_info (P := Try.prog) (t := 49) (v := .agg (cT noR)) (n := 576) (by kernel_rfl)).1 w
/-- within row i of the k-th turn, those below j done -/
def RJ (V : Nat → Nat → Bool) (k i j : Nat) : Nat → Nat → Bool := fun a b => if a < i ∨ (a = i ∧ b < j) then st k V a b else V a b
theorem RJ_zero (V k) : RJ V k 0 0 = V := by
  funext a b
  exact if_neg (by omega)
theorem RJ_ik (V : Nat → Nat → Bool) (k i j : Nat) : RJ V k i j i k = V i k := by
  unfold RJ st
  split
  · cases V i k <;> simp
  · rfl
theorem RJ_kj (V : Nat → Nat → Bool) (k i j b : Nat) : RJ V k i j k b = V k b := by
  unfold RJ st
  split
  · cases V k b <;> simp
  · rfl
theorem RJ_next {V : Nat → Nat → Bool} {k i j a b : Nat} (h : ¬(a = i ∧ b = j)) : RJ V k i j a b = RJ V k i (j + 1) a b := by
  unfold RJ
  by_cases h1 : a < i ∨ (a = i ∧ b < j)
  · rw [if_pos h1, if_pos (by omega)]
  · rw [if_neg h1, if_neg (by omega)]
theorem RJ_at (V : Nat → Nat → Bool) (k i j : Nat) : RJ V k i j i j = V i j := if_neg (by omega)
theorem RJ_step (V : Nat → Nat → Bool) (k i j : Nat) : RJ V k i (j + 1) i j = (V i j || (V i k && V k j)) := if_pos (by omega)
theorem RJ_row {n : Nat} {T : Nat → Nat → Bool} (hT : Fits n T) (k i a b : Nat) : RJ (war T k) k i n a b = RJ (war T k) k (i + 1) 0 a b := by
  unfold RJ
  by_cases h1 : a < i ∨ (a = i ∧ b < n)
  · rw [if_pos h1, if_pos (by omega)]
  · rw [if_neg h1]
    split
    · have h0 : ∀ x, n ≤ b → war T k x b = false := fun x hb => by
        rcases hw : war T k x b with _ | _
        · rfl
        · have := ((war_sound T k x b hw).fits hT).2; omega
      unfold st
      rw [h0 a (by omega), h0 k (by omega), Bool.and_false]; rfl
    · rfl
theorem RJ_end {n : Nat} {T : Nat → Nat → Bool} (hT : Fits n T) (k a b : Nat) : RJ (war T k) k n 0 a b = war T (k + 1) a b := by
  rw [← RI_end hT k a b]
  unfold RJ RI
  by_cases h : a < n
  · rw [if_pos (by omega), if_pos h]
  · rw [if_neg (by omega), if_neg h]
set_option maxHeartbeats 16000000 in
theorem table_any (A : Option Addr) (m c : Nat) (n : Nat) (bs : List (Nat × Nat)) (w : World) (hd : Dig n bs) (hx : YL w A m (bs.map zA)) :
    Calls Try.prog 38 #[.int .i64 (n : Int), .slice A m c] w fun e w' => e = .returned (.agg (cT (war (adj bs) n))) ∧ Below w.heap.size w w' := by
  have HX := hide hx
  have HD := hide hd
  have hn := hd.le
  have hml : m ≤ 576 := by have := hd.len576; have := hx.1; simp at this; omega
  have HT := hide hd.adj
  have hz := zeroT
  obtain ⟨T, hTT⟩ : ∃ T, adj bs = T := ⟨_, rfl⟩
  have HTT := hide hTT
  rw [hTT] at HT ⊢
  clear hx hd hTT
  go_enter Try.func38, Try.ntmps38
  go_wp2_with fail
  clear hz
  generalize hW : (w.alloc _).alloc _ = W
  obtain ⟨B, o4, o5⟩ := boxT hW noR noR rfl rfl
  clear hW
  go_loopw [6] (fun v6 wr => ∃ (k : Nat), k ≤ m ∧ v6 = .int .i64 ((k : Nat) : Int) ∧ Below w.heap.size w wr ∧ OT wr w.heap.size noR ∧ OT wr (w.heap.size + 1) (adj (bs.take k))) (fun v6 _ => m - (RowKit.intOf v6).toNat)
  case atStart => exact ⟨0, by omega, rfl, B, o4, o5⟩
  case round =>
    clear B o4 o5
    obtain ⟨k, hk, rfl, B, o4, o5⟩ := hrel
    by_cases hlt : k < m
    · obtain ⟨b, o, y, rfl, hbl, hy, k0, k1⟩ := (HX.out.keep B).at_ hlt
      obtain ⟨⟨p, q⟩, hp, rfl⟩ := zA_at hy
      have hf := HD.out.fits _ (List.mem_of_getElem? hp)
      simp only at hf
      have hp24 : p < 24 := by omega
      have hq24 : q < 24 := by omega
      simp only [zA] at k0 k1
      have HP := hide hp
      clear hy hp
      have z0 := o5.cell hp24 hq24
      have z3 := o5.frozen (p * 24 + q)
      have i1 : (0 : Int) ≤ (p : Int) := by omega
      have i2 : (p : Int) < 24 := by omega
      have i3 : (0 : Int) ≤ (q : Int) := by omega
      have i4 : (q : Int) < 24 := by omega
      have i5 : (0 : Int) ≤ (k : Int) := by omega
      have i6 : (k : Int) < (m : Int) := by omega
      go_wp2_with fail
      refine wp_region_still_tail 12 (by kernel_rfl) (by kernel_rfl) ?_
      simp only [List.take_succ_cons, List.take_zero, List.drop_succ_cons, List.drop_zero]
      iterate 12 still_step
      refine wpStill_nil ?_
      change wpList _ _ _ _ _ wr.drew
      go_wp2_with fail
      go_roundw
      case measure => simp [RowKit.intOf]; omega
      case rel =>
        exact ⟨k + 1, by omega, by go_num, (B.drew).setCell (by simp) _, o4.drew.far (by simp) _, OT.put (T := adj (bs.take k)) o5.drew hp24 hq24 (fun x y h => by
          rw [take_nextA HP.out, adj_snoc]
          have : (x == p && y == q) = false := by
            rw [Bool.eq_false_iff]
            intro e
            rw [Bool.and_eq_true, beq_iff_eq, beq_iff_eq] at e
            exact h e
          rw [this, Bool.or_false]) (by rw [take_nextA HP.out, adj_snoc]; simp)⟩
    · obtain rfl : k = m := by omega
      have HE : Hid (bs.take k = bs) := List.take_of_length_le (by have := HX.out.1; simp at this; omega)
      rw [HE.out, HTT.out] at o5
      have d6 : decide ((k : Int) < (k : Int)) = false := decide_eq_false (by omega)
      clear HE hlt HX HD HTT
      go_wp2_with fail
      go_loopw [7] (fun v7 wr => ∃ (k : Nat), k ≤ n ∧ v7 = .int .i64 ((k : Nat) : Int) ∧ Below w.heap.size w wr ∧ OT wr w.heap.size noR ∧ OT wr (w.heap.size + 1) (war T k)) (fun v7 _ => n - (RowKit.intOf v7).toNat)
      case atStart => exact ⟨0, by omega, rfl, B, o4, o5⟩
      case round =>
        clear B o4 o5 d6
        obtain ⟨x, hk2, rfl, B, o4, o5⟩ := hrel
        by_cases hlt : x < n
        · have hx24 : x < 24 := by omega
          have hxn : (x : Int) < (n : Int) := by omega
          obtain ⟨V, hV⟩ : ∃ V, war T x = V := ⟨_, rfl⟩
          have HV := hide (show ∀ a b, RJ V x n 0 a b = war T (x + 1) a b from by rw [← hV]; exact fun a b => RJ_end HT.out x a b)
          have HW := hide (show ∀ i a b, RJ V x i n a b = RJ V x (i + 1) 0 a b from by rw [← hV]; exact fun i a b => RJ_row HT.out x i a b)
          rw [hV] at o5
          rw [← RJ_zero V x] at o5
          have j1 : (0 : Int) ≤ (x : Int) := by omega
          have j2 : (x : Int) < 24 := by omega
          clear hV
          go_wp2_with fail
          go_loopw [8] (fun v8 wr => ∃ (i : Nat), i ≤ n ∧ v8 = .int .i64 ((i : Nat) : Int) ∧ Below w.heap.size w wr ∧ OT wr w.heap.size noR ∧ OT wr (w.heap.size + 1) (RJ V x i 0)) (fun v8 _ => n - (RowKit.intOf v8).toNat)
          case atStart => exact ⟨0, by omega, rfl, B, o4, o5⟩
          case round =>
            clear B o4 o5
            obtain ⟨i, hi, rfl, B, o4, o5⟩ := hrel
            by_cases hlt2 : i < n
            · have hi24 : i < 24 := by omega
              have hin : (i : Int) < (n : Int) := by omega
              have i1 : (0 : Int) ≤ (i : Int) := by omega
              have i2 : (i : Int) < 24 := by omega
              go_wp2_with fail
              go_loopw [9] (fun v9 wr => ∃ (j : Nat), j ≤ n ∧ v9 = .int .i64 ((j : Nat) : Int) ∧ Below w.heap.size w wr ∧ OT wr w.heap.size noR ∧ OT wr (w.heap.size + 1) (RJ V x i j)) (fun v9 _ => n - (RowKit.intOf v9).toNat)
              case atStart => exact ⟨0, by omega, rfl, B, o4, o5⟩
              case round =>
                clear B o4 o5
                obtain ⟨j, hj, rfl, B, o4, o5⟩ := hrel
                by_cases hlt3 : j < n
                · have hj24 : j < 24 := by omega
                  have hjn : (j : Int) < (n : Int) := by omega
                  have l1 : (0 : Int) ≤ (j : Int) := by omega
                  have l2 : (j : Int) < 24 := by omega
                  have y0 : wr.cell? ⟨w.heap.size + 1, i * 24 + x, none⟩ = some (.bool (V i x)) := by rw [← RJ_ik V x i j]; exact o5.cell hi24 hx24
                  have y1 : wr.cell? ⟨w.heap.size + 1, x * 24 + j, none⟩ = some (.bool (V x j)) := by rw [← RJ_kj V x i j j]; exact o5.cell hx24 hj24
                  have y2 := o5.cell hi24 hj24
                  have y3 := o5.frozen (i * 24 + j)
                  have HST := hide (RJ_step V x i j)
                  have HAT := hide (RJ_at V x i j)
                  obtain ⟨r1, h1⟩ : ∃ r, V i x = r := ⟨_, rfl⟩
                  obtain ⟨r2, h2⟩ : ∃ r, V x j = r := ⟨_, rfl⟩
                  rw [h1] at y0 HST
                  rw [h2] at y1 HST
                  clear h1 h2
                  cases r1 with
                  | true =>
                    cases r2 with
                    | true =>
                      go_wp2_with fail
                      go_roundw
                      case measure => simp [RowKit.intOf]; omega
                      case rel => exact ⟨j + 1, by omega, by go_num, B.setCell (by simp) _, o4.far (by simp) _, OT.put (T := RJ V x i j) o5 hi24 hj24 (fun a b h => RJ_next h) (by rw [HST.out]; simp)⟩
                    | false =>
                      go_wp2_with fail
                      go_roundw
                      case measure => simp [RowKit.intOf]; omega
                      case rel => exact ⟨j + 1, by omega, by go_num, B, o4, o5.cast fun a b _ _ => by
                        by_cases h : a = i ∧ b = j
                        · obtain ⟨rfl, rfl⟩ := h
                          rw [HST.out, HAT.out]; simp
                        · exact RJ_next h⟩
                  | false =>
                    go_wp2_with fail
                    go_roundw
                    case measure => simp [RowKit.intOf]; omega
                    case rel => exact ⟨j + 1, by omega, by go_num, B, o4, o5.cast fun a b _ _ => by
                      by_cases h : a = i ∧ b = j
                      · obtain ⟨rfl, rfl⟩ := h
                        rw [HST.out, HAT.out]; simp
                      · exact RJ_next h⟩
                · obtain rfl : j = n := by omega
                  have d7 : decide ((j : Int) < (j : Int)) = false := decide_eq_false (by omega)
                  go_wp2_with fail
                  go_roundw
                  case measure => simp [RowKit.intOf]; omega
                  case rel => exact ⟨i + 1, by omega, by go_num, B, o4, o5.cast fun a b _ _ => HW.out i a b⟩
            · obtain rfl : i = n := by omega
              have d7 : decide ((i : Int) < (i : Int)) = false := decide_eq_false (by omega)
              go_wp2_with fail
              go_roundw
              case measure => simp [RowKit.intOf]; omega
              case rel => exact ⟨x + 1, by omega, by go_num, B, o4, o5.cast fun a b _ _ => HV.out a b⟩
        · obtain rfl : x = n := by omega
          have d7 : decide ((x : Int) < (x : Int)) = false := decide_eq_false (by omega)
          go_wp2_with (first | (refine wpList_load_row rfl 49 _ rfl (w.heap.size + 1) rfl 49 _ (0, 0) _ o5.row Try.underlying49 rfl (cT_info _) ?_) | (refine wpList_store_row rfl 49 _ _ rfl (w.heap.size) _ rfl rfl 49 _ o4.row (cT_info _) (by rw [cT_size, cT_size]) (cT_one _) ?_))
          have hr := (o4.setRow (war T x)).row
          refine bodyPost_ret (v := .agg (cT (war T x))) (results_cell_row rfl _ _ w.heap.size 49 _ (0, 0) _ rfl hr Try.underlying49 rfl (cT_info _)) rfl ?_
          exact ⟨rfl, below_row B (Nat.le_refl _) _⟩
end Go.Proofs.Ytgmdfaamheblmaa
