/- The reference's distances. -/
import Derived.Test.YtgmdfaamheblmaaPRLv
import Derived.Test.YtgmdfaamheblmaaPVld
import Derived.Test.YtgmdfaamheblmaaPCyc
namespace Go.Proofs.Ytgmdfaamheblmaa
open Go Go.RowKit PM

/-- a block of ints, of either sign -/
def FI (w : World) (g n : Nat) (o : Nat → Int) : Prop := w.heap[g]? = some (.cells ((List.range n).map fun i => Value.int .i64 (o i)).toArray 3 (0, 0))
section
variable {w w' : World} {g n : Nat} {o o' : Nat → Int}
theorem FI.lt (h : FI w g n o) : g < w.heap.size := by
  rcases Nat.lt_or_ge g w.heap.size with hlt | hge
  · exact hlt
  · unfold FI at h; rw [Array.getElem?_eq_none hge] at h; cases h
theorem FI.cell (h : FI w g n o) {i : Nat} (hi : i < n) : w.cell? ⟨g, i, none⟩ = some (.int .i64 (o i)) := by
  rw [cell_of_row w g i _ 3 (0, 0) h, List.getElem?_toArray, List.getElem?_map, List.getElem?_range hi]; rfl
theorem FI.frozen (h : FI w g n o) (j : Nat) : w.frozen? ⟨g, j, none⟩ = false := frozen_of_row w g j _ 3 h
theorem FI.below' (h : FI w g n o) (hb : Below w.heap.size w w') : FI w' g n o := (hb.block g h.lt).trans h
theorem FI.drew (h : FI w g n o) : FI w.drew g n o := h
theorem FI.cast (h : FI w g n o) (e : ∀ i, i < n → o i = o' i) : FI w g n o' := by
  unfold FI at *
  rw [h]
  congr 3
  exact List.map_congr_left fun i hi => by rw [e i (List.mem_range.1 hi)]
theorem FI.put (h : FI w g n o) (i : Nat) (v : Int) : FI (w.setCell ⟨g, i, none⟩ (.int .i64 v)) g n (updI o i v) := by
  have e : ((List.range n).map fun j => Value.int .i64 (o j)).set i (.int .i64 v) = (List.range n).map fun j => Value.int .i64 (updI o i v j) := by
    apply List.ext_getElem?
    intro j
    rw [List.getElem?_set, List.getElem?_map, List.getElem?_map]
    by_cases hj : i = j
    · subst hj
      by_cases hn : i < n
      · simp [hn, updI]
      · simp [hn]
    · rw [if_neg hj]
      by_cases hn : j < n
      · simp [hn, updI, show ¬j = i from fun e => hj e.symm]
      · simp [hn]
  unfold FI at h ⊢
  rw [← e]
  simp [World.setCell, Array.getElem?_modify, h]
theorem FI.of (h : Own w g .i64 3 (lvL n fun _ => 0)) : FI w g n fun _ => 0 := by
  unfold FI
  unfold Own at h
  rw [h]
  congr 2
  unfold cells lvL
  rw [List.map_map]; rfl
theorem FI.box (h : FI w g n o) : Box w g ((List.range n).map fun i => Value.int .i64 (o i)).toArray 3 := h
end
theorem updI_same (o : Nat → Int) (i v) : updI o i v i = v := if_pos rfl
theorem updI_ne {o : Nat → Int} {i v j} (h : j ≠ i) : updI o i v j = o j := if_neg h
theorem foldl_nextF {bs : List (Nat × Nat)} {k : Nat} {p : Nat × Nat} {α : Type} (f : α → Nat × Nat → α) (o : α) (h : bs[k]? = some p) : (bs.take (k + 1)).foldl f o = f ((bs.take k).foldl f o) p := by
  rw [take_nextA h, List.foldl_append]; rfl
set_option maxHeartbeats 16000000 in
theorem rfar_any (n : Nat) (A : Option Addr) (m c v : Nat) (bs : List (Nat × Nat)) (w : World) (hx : YL w A m (bs.map zA)) (hd : Dig n bs) (hv : v < n) :
    Calls Try.prog 47 #[.int .i64 (n : Int), .slice A m c, .int .i64 (v : Int), .int .i64 (v : Int)] w fun e w' => (∃ g, e = .returned (.slice (some ⟨g, 0, none⟩) n n) ∧ w.heap.size ≤ g ∧ FI w' g n (far bs v n)) ∧ Below w.heap.size w w' := by
  have HX := hide hx
  have HD := hide hd
  have hn := hd.le
  have hml : m ≤ 576 := by have := hd.len576; have := hx.1; simp at this; omega
  have HBL := hide (show bs.length ≤ m from by have := hx.1; simp at this; omega)
  clear hx hd
  go_enter Try.func47, Try.ntmps47
  go_wp2_with (at_make; refine wpList_make_zero _ rfl _ _ 33 rfl 3 .i64 8 Try.underlying33 int_info .i64 .i64 _ _ n rfl rfl rfl rfl (by omega) (by omega) ?_; intro g9 w9 hg9 ho9 hb9)
  rw [lvL_zero] at ho9
  have ho9 := FI.of ho9
  have HG := hide hg9
  go_loopw [10] (fun v10 wr => ∃ (i : Nat), i ≤ n ∧ v10 = .int .i64 ((i : Nat) : Int) ∧ Below w.heap.size w wr ∧ FI wr g9 n (fun j => if j < i then -1 else 0)) (fun v10 _ => n - (RowKit.intOf v10).toNat)
  case atStart => exact ⟨0, by omega, rfl, hb9, ho9.cast fun j _ => rfl⟩
  case round =>
    clear hb9 ho9
    obtain ⟨i, hi, rfl, B, ho⟩ := hrel
    by_cases hlt : i < n
    · have i1 : (0 : Int) ≤ (i : Int) := by omega
      have i2 : (i : Int) < (n : Int) := by omega
      have y1 := ho.cell hlt
      have y2 := ho.frozen i
      go_wp2_with fail
      go_roundw
      case measure => simp [RowKit.intOf]; omega
      case rel => exact ⟨i + 1, by omega, by go_num, B.setCell HG.out _, (ho.put i (-1)).cast fun j _ => by
          unfold updI
          by_cases h : j = i
          · rw [if_pos h, if_pos (by omega)]
          · rw [if_neg h]
            show (if j < i then (-1 : Int) else 0) = if j < i + 1 then -1 else 0
            by_cases h2 : j < i
            · rw [if_pos h2, if_pos (by omega)]
            · rw [if_neg h2, if_neg (by omega)]⟩
    · obtain rfl : i = n := by omega
      have d2 : decide ((i : Int) < (i : Int)) = false := decide_eq_false (by omega)
      have i1 : (0 : Int) ≤ (v : Int) := by omega
      have i2 : (v : Int) < (i : Int) := by omega
      have y1 := ho.cell hv
      have y2 := ho.frozen v
      clear hlt hi
      go_wp2_with fail
      have hb0 := B.setCell (p := ⟨g9, v, none⟩) HG.out (.int .i64 0)
      have ho0 : FI (wr.setCell ⟨g9, v, none⟩ (.int .i64 0)) g9 i (far bs v 0) := (ho.put v 0).cast fun j hj => by
        show updI _ v 0 j = if j = v then 0 else -1
        unfold updI
        by_cases h : j = v
        · rw [if_pos h, if_pos h]
        · rw [if_neg h, if_neg h]
          show (if j < i then (-1 : Int) else 0) = -1
          rw [if_pos hj]
      generalize wr.setCell _ _ = W at *
      clear ho B y1 y2
      go_loopw [11] (fun v11 wr => ∃ (k : Nat), k ≤ i ∧ v11 = .int .i64 ((k + 1 : Nat) : Int) ∧ Below w.heap.size w wr ∧ FI wr g9 i (far bs v k)) (fun v11 _ => i + 1 - (RowKit.intOf v11).toNat)
      case atStart => exact ⟨0, by omega, rfl, hb0, ho0⟩
      case round =>
        clear hb0 ho0
        obtain ⟨k, hk, rfl, B, ho⟩ := hrel
        by_cases hlt : k < i
        · have hkn : (k : Int) + 1 ≤ (i : Int) := by omega
          go_wp2_with fail
          go_loopw [12] (fun v12 wr => ∃ (j : Nat), j ≤ m ∧ v12 = .int .i64 ((j : Nat) : Int) ∧ Below w.heap.size w wr ∧ FI wr g9 i ((bs.take j).foldl (frelax v k) (far bs v k))) (fun v12 _ => m - (RowKit.intOf v12).toNat)
          case atStart => exact ⟨0, by omega, rfl, B, ho⟩
          case round =>
            clear B ho
            obtain ⟨j, hj, rfl, B, ho⟩ := hrel
            by_cases hlt2 : j < m
            · obtain ⟨b, o, y, rfl, hbl, hy, k0, k1⟩ := (HX.out.keep B).at_ hlt2
              obtain ⟨⟨p, q⟩, hp, rfl⟩ := zA_at hy
              have hf := HD.out.fits _ (List.mem_of_getElem? hp)
              simp only at hf
              obtain ⟨hpn, hqn, -⟩ := hf
              simp only [zA] at k0 k1
              obtain ⟨L, hL⟩ : ∃ L, (bs.take j).foldl (frelax v k) (far bs v k) = L := ⟨_, rfl⟩
              have HN := hide (show (bs.take (j + 1)).foldl (frelax v k) (far bs v k) = frelax v k L (p, q) from by rw [foldl_nextF _ _ hp, hL])
              rw [hL] at ho
              have y0 := ho.cell hpn
              have y1 := ho.cell hqn
              have y2 := ho.frozen p
              have i1 : (0 : Int) ≤ (p : Int) := by omega
              have i2 : (p : Int) < (i : Int) := by omega
              have i3 : (0 : Int) ≤ (q : Int) := by omega
              have i4 : (q : Int) < (i : Int) := by omega
              have j1 : (0 : Int) ≤ (j : Int) := by omega
              have j2 : (j : Int) < (m : Int) := by omega
              have HO := hide ho
              obtain ⟨x, hx⟩ : ∃ x, L p = x := ⟨_, rfl⟩
              obtain ⟨z, hz⟩ : ∃ z, L q = z := ⟨_, rfl⟩
              rw [hx] at y0
              rw [hz] at y1
              have HNO := hide (show ¬((v ≤ p ∧ v ≤ q) ∧ x < 0 ∧ z = (k : Int)) → frelax v k L (p, q) = L from fun h => by
                unfold frelax
                rw [if_neg fun hc => h ⟨⟨hc.1, hc.2.1⟩, by rw [← hx]; exact hc.2.2.1, by rw [← hz]; exact hc.2.2.2⟩])
              have HYE := hide (show v ≤ p → v ≤ q → x < 0 → z = (k : Int) → frelax v k L (p, q) = updI L p ((k : Int) + 1) from fun h1 h2 h3 h4 => by
                unfold frelax
                rw [if_pos ⟨h1, h2, by rw [← hx] at h3; exact h3, by rw [← hz] at h4; exact h4⟩])
              clear hx hz hy hp hL ho
              by_cases c1 : v ≤ p
              · have e1 : (v : Int) ≤ (p : Int) := by omega
                by_cases c2 : v ≤ q
                · have e2 : (v : Int) ≤ (q : Int) := by omega
                  by_cases c3 : x < 0
                  · by_cases c4 : z = (k : Int)
                    · have HU := hide (HYE.out c1 c2 c3 c4)
                      subst c4
                      clear HYE HNO
                      go_wp2_with fail
                      go_roundw
                      case measure => simp [RowKit.intOf]; omega
                      case rel => exact ⟨j + 1, by omega, by go_num, B.setCell HG.out _, (HO.out.put p _).cast fun _ _ => by rw [HN.out, HU.out]⟩
                    · have HU := hide (HNO.out fun h => c4 h.2.2)
                      have e4 : (z == (k : Int)) = false := beq_eq_false_iff_ne.2 c4
                      clear HYE HNO
                      go_wp2_with fail
                      go_roundw
                      case measure => simp [RowKit.intOf]; omega
                      case rel => exact ⟨j + 1, by omega, by go_num, B, HO.out.cast fun _ _ => by rw [HN.out, HU.out]⟩
                  · have HU := hide (HNO.out fun h => c3 h.2.1)
                    have e3 : decide (x < 0) = false := decide_eq_false c3
                    clear HYE HNO
                    go_wp2_with fail
                    go_roundw
                    case measure => simp [RowKit.intOf]; omega
                    case rel => exact ⟨j + 1, by omega, by go_num, B, HO.out.cast fun _ _ => by rw [HN.out, HU.out]⟩
                · have HU := hide (HNO.out fun h => c2 h.1.2)
                  have e2 : decide ((v : Int) ≤ (q : Int)) = false := decide_eq_false (by omega)
                  clear HYE HNO
                  go_wp2_with fail
                  go_roundw
                  case measure => simp [RowKit.intOf]; omega
                  case rel => exact ⟨j + 1, by omega, by go_num, B, HO.out.cast fun _ _ => by rw [HN.out, HU.out]⟩
              · have HU := hide (HNO.out fun h => c1 h.1.1)
                have e1 : decide ((v : Int) ≤ (p : Int)) = false := decide_eq_false (by omega)
                clear HYE HNO
                go_wp2_with fail
                go_roundw
                case measure => simp [RowKit.intOf]; omega
                case rel => exact ⟨j + 1, by omega, by go_num, B, HO.out.cast fun _ _ => by rw [HN.out, HU.out]⟩
            · obtain rfl : j = m := by omega
              have HF := hide (show (bs.take j).foldl (frelax v k) (far bs v k) = far bs v (k + 1) from by rw [List.take_of_length_le HBL.out]; rfl)
              have d2 : decide ((j : Int) < (j : Int)) = false := decide_eq_false (by omega)
              go_wp2_with fail
              go_roundw
              case measure => simp [RowKit.intOf]; omega
              case rel => exact ⟨k + 1, by omega, by go_num, B, ho.cast fun _ _ => by rw [HF.out]⟩
        · obtain rfl : k = i := by omega
          have d2 : decide ((k : Int) + 1 ≤ (k : Int)) = false := decide_eq_false (by omega)
          clear hlt
          go_wp2_with fail
          go_ret
          exact ⟨⟨g9, rfl, HG.out, ho⟩, B⟩
end Go.Proofs.Ytgmdfaamheblmaa
