/- The reference's Norm and Sub once more, with the place where their results lie. -/
import Derived.Test.YthkgiobemfnpmaaDoorRSub
namespace Go.Proofs.YthkgiobemfnpmaaDoor
open Go Go.RowKit

/-- the slice lies in a block that is new since w -/
def Fresh (w : World) (A : Option Addr) (n : Nat) : Prop := 0 < n → ∃ b o, A = some ⟨b, o, none⟩ ∧ w.heap.size ≤ b
def GivesNF (u : Nat) (w : World) (e : Ending) (w' : World) : Prop :=
  ∃ A n c, e = .returned (.agg #[.slice A n c]) ∧ RL w' .u32 A n (dig B9 u) ∧ n ≤ c ∧ c ≤ maxLen ∧ Below w.heap.size w w' ∧ Fresh w A n
def GivesNEF (u : Nat) (er : Int) (w : World) (e : Ending) (w' : World) : Prop :=
  ∃ A n c, e = .returned (.tuple #[.agg #[.slice A n c], .int .i64 er]) ∧ RL w' .u32 A n (dig B9 u) ∧ n ≤ c ∧ c ≤ maxLen ∧ Below w.heap.size w w' ∧ Fresh w A n
theorem gives_fresh {u : Nat} {w w' : World} {A : Option Addr} {n c : Nat} (h : GivesN u w (.returned (.agg #[.slice A n c])) w') (hf : Fresh w A n) : GivesNF u w (.returned (.agg #[.slice A n c])) w' := by
  obtain ⟨A', n', c', e, h1, h2, h3, h4⟩ := h
  injection e with e; injection e with e; injection e with e; injection e with e _; injection e with e1 e2 e3
  subst e1; subst e2; subst e3
  exact ⟨_, _, _, rfl, h1, h2, h3, h4, hf⟩
theorem gives_freshE {u : Nat} {er : Int} {w w' : World} {A : Option Addr} {n c : Nat} (h : GivesNE u er w (.returned (.tuple #[.agg #[.slice A n c], .int .i64 er])) w') (hf : Fresh w A n) : GivesNEF u er w (.returned (.tuple #[.agg #[.slice A n c], .int .i64 er])) w' := by
  obtain ⟨A', n', c', e, h1, h2, h3, h4⟩ := h
  injection e with e; injection e with e; injection e with e; injection e with e _; injection e with e; injection e with e; injection e with e _; injection e with e1 e2 e3
  subst e1; subst e2; subst e3
  exact ⟨_, _, _, rfl, h1, h2, h3, h4, hf⟩
theorem row_base {w : World} {base n c : Nat} {k : IntKind} {t : TypeId} {A : Option Addr} {xs : List Nat} (h : Row w base k t A n c xs) (b o : Nat) (e : A = some ⟨b, o, none⟩) : base ≤ b := by
  subst e
  rcases h.2 with ⟨h1, _⟩ | ⟨g, cap, cur, hv, _⟩
  · cases h1
  · injection hv with e1 _ _
    injection e1 with e1
    injection e1 with e1 _
    subst e1
    exact (World.ownsRow.lt h b rfl).1
theorem Fresh.sp {w : World} {A : Option Addr} {n g : Nat} (h : Fresh w A n) (hg : g < w.heap.size) : Sp A n g := by
  intro hn b o e
  obtain ⟨b', o', e', hb⟩ := h hn
  rw [e] at e'
  injection e' with e'
  injection e' with e1 _
  omega
theorem RL.off {w : World} {k : IntKind} {A : Option Addr} {n : Nat} {xs : List Nat} {p : Addr} (h : RL w k A n xs) (hs : Sp A n p.block) (u : Value) : RL (w.setCell p u) k A n xs :=
  ⟨h.1, fun hn => by
    obtain ⟨b, o, e, hc⟩ := h.2 hn
    have hne := hs hn b o e
    exact ⟨b, o, e, fun j x hx => (World.cell?_of_block (a := ⟨b, o + j, none⟩) (Below.heap_setCell w p u b hne)).trans (hc j x hx)⟩⟩

set_option maxHeartbeats 1000000 in
theorem rnorm_fresh (A : Option Addr) (n c : Nat) (xs : List Nat) (w : World) (hr : RL w .u32 A n xs) (hn : n ≤ c) (_hc : c ≤ maxLen) (hN : n ≤ 900000) (hx : ∀ x ∈ xs, x < 4294967296) (V : Nat) (hV : val B9 xs = V) :
    Calls Tryd.prog 23 #[.agg #[.slice A n c]] w (GivesNF V w) := by
  have HX := hide hx
  have HL := hide hr.len
  have HV := hide hV
  clear hx hV
  go_enter Tryd.func23, Tryd.ntmps23
  go_wp2_with fail
  generalize hW : (w.alloc _).alloc _ = W
  obtain ⟨hbW, h1, h2, hz⟩ := boxPR hW
  have hrW := hr.below hbW
  have hz0 : w.heap.size < W.heap.size := by omega
  have hz1 : w.heap.size + 1 < W.heap.size := by omega
  have H2 := hide h2
  clear hW hr hz h2
  go_loopw [3, 4, 5] (fun s v i wr => ∃ (k C c' : Nat) (A' : Option Addr) (out : List Nat), k ≤ n + 1 ∧ C ≤ 4 ∧ (n < k → C = 0) ∧ s = .slice A' k c' ∧ v = .int .u64 (C : Int) ∧ i = .int .i64 (k : Int) ∧ Row wr W.heap.size .u32 49 A' k c' out ∧ Below W.heap.size W wr ∧
      val B9 out + B9 ^ k * C = val B9 (xs.take k) ∧ ∀ x ∈ out, x < B9) (fun _ _ i _ => n + 1 - (intOf i).toNat)
  case atStart => exact ⟨0, 0, 0, none, [], by omega, by omega, fun _ => rfl, rfl, rfl, rfl, Row.nil_, Below.refl _ _, by simp [val], fun x hx => by simp at hx⟩
  case round =>
    obtain ⟨k, C, c', A', out, hk, hC, hC0, rfl, rfl, rfl, hrow, hbel, hval, hall⟩ := hrel
    have hcl : wr.cell? ⟨w.heap.size, 0, none⟩ = some (.slice A n c) := (hbel.cell (p := ⟨w.heap.size, 0, none⟩) hz0).trans h1
    have HK := hide hrow.len
    have HVL := hide hval
    have HA := hide hall
    have HC0 := hide hC0
    have hbs := hbel.size
    have hkc := hrow.le.1
    have hcm := hrow.le.2
    unfold maxLen at hcm
    clear hval hall hC0
    by_cases hlt : k < n
    · obtain ⟨b, o, x, rfl, hx, hcell⟩ := (hrW.below hbel).at_ hlt
      have hxb := HX.out x (List.mem_of_getElem? hx)
      have HS := hide (show val B9 (out ++ [(C + x) % B9]) + B9 ^ (k + 1) * ((C + x) / B9) = val B9 (xs.take (k + 1)) from by
        rw [app_step B9 out (C + x) HK.out, val_take_succ B9 hx, ← HVL.out, Nat.mul_add, Nat.add_assoc])
      clear hx h1
      go_wp2_with (at_builtin; refine wpList_append_rl _ rfl _ _ 22 rfl W.heap.size 49 .u32 4 Tryd.underlying22 u32_info A' k c' out rfl (hrow.alloc _) (some ⟨wr.heap.size, 0, none⟩) 1 1 [(C + x) % B9] rfl (RL.one wr .u32 49 (by show _ = (((C + x) % 1000000000 : Nat) : Int); omega)) (by omega) (k + 1) rfl (by omega) (by simp; omega) ?_; intro A2 c2 w1 hrow1 hbel1 hsz1)
      go_roundw
      case rel => exact ⟨k + 1, (C + x) / B9, c2, A2, out ++ [(C + x) % B9], by omega, by show (C + x) / 1000000000 ≤ 4; omega, fun h => absurd h (by omega), rfl, by show _ = Value.int .u64 (((C + x) / 1000000000 : Nat) : Int); go_num, by go_num, hrow1, (hbel.alloc hbs _).trans hbel1, HS.out, all_snoc HA.out (Nat.mod_lt _ (by decide))⟩
      case measure => simp [intOf]; omega
    · by_cases h0 : C = 0
      · subst h0
        have HD := hide (show trimL out = dig B9 V from by
          have h3 := HVL.out
          rw [Nat.mul_zero, Nat.add_zero, List.take_of_length_le (by rw [HL.out]; omega), HV.out] at h3
          rw [trimL_dig B9 (by decide) out HA.out, h3])
        have hbF := hbel
        have hcl1 : wr.cell? ⟨w.heap.size + 1, 0, none⟩ = some (.slice none 0 0) := (hbel.cell (p := ⟨w.heap.size + 1, 0, none⟩) hz1).trans (by rw [cell_of_row _ _ _ _ _ _ H2.out]; rfl)
        have hfl1 : wr.frozen? ⟨w.heap.size + 1, 0, none⟩ = false := (hbel.frozen (p := ⟨w.heap.size + 1, 0, none⟩) hz1).trans (frozen_of_row _ _ _ _ _ H2.out)
        go_wp2
        go_loopg [3] k (fun gk s wq => ∃ m : Nat, m = gk ∧ m ≤ k ∧ s = .slice A' m c' ∧ wq = wr ∧ trimL (out.take m) = trimL out)
        case atStart => exact ⟨k, rfl, by omega, rfl, rfl, by rw [List.take_of_length_le (by rw [HK.out]; omega)]⟩
        case round =>
          obtain ⟨m, rfl, hm, rfl, rfl, ht⟩ := hrel
          have HT := hide ht
          clear ht
          by_cases hm0 : m = 0
          · subst hm0
            have HE := hide (show dig B9 V = [] from by rw [← HD.out, ← HT.out]; rfl)
            go_wp2
            refine bodyPost_ret (v := .agg #[.slice A' 0 c']) (by simp [results, Tryd.results23, go_sem, hcl1]) rfl ?_
            exact gives_fresh (fin_struct hbW hbF (by omega) H2.out (by rw [HE.out]; exact RL.nil_) (by omega) hrow.le.2) (fun h => absurd h (by omega))
          · obtain ⟨b, o, x, rfl, hx, hcell⟩ := hrow.rl.at_ (j := m - 1) (by omega)
            have HX' := hide hx
            clear hx
            by_cases hx0 : x = 0
            · subst hx0
              have HT2 := hide (trim_zero hm0 HT.out HX'.out)
              go_wp2
              go_roundg (m - 1)
              case measure => omega
              case rel => exact ⟨m - 1, rfl, by omega, by go_num, rfl, HT2.out⟩
            · have HE := hide (trim_pos hm0 HT.out HX'.out hx0)
              have h4 := hrow.rl.take_ hm
              have h5 : out.take m = dig B9 V := by
                have := trimL_eq_take out
                rw [HE.out] at this
                rw [← this, HD.out]
              rw [h5] at h4
              have H4 := hide h4
              have HFR := hide (row_base hrow b o rfl)
              have hrc := hrow.le.2
              clear h4 h5
              go_wp2
              refine bodyPost_ret (v := .agg #[.slice (some ⟨b, o, none⟩) m c']) (by simp [results, Tryd.results23, go_sem, hcl1]) rfl ?_
              exact gives_fresh (fin_struct hbW hbF (by omega) H2.out H4.out (by omega) hrc) (fun _ => ⟨b, o, rfl, Nat.le_trans hbW.size HFR.out⟩)
      · obtain rfl : k = n := by
          rcases Nat.lt_or_ge n k with h | h
          · exact absurd (HC0.out h) h0
          · omega
        have HS := hide (show val B9 (out ++ [C % B9]) + B9 ^ (k + 1) * (C / B9) = val B9 (xs.take (k + 1)) from by
          rw [app_step B9 out C HK.out, HVL.out, List.take_of_length_le (by rw [HL.out]; omega), List.take_of_length_le (by rw [HL.out]; omega)])
        clear h1
        go_wp2_with (at_builtin; refine wpList_append_rl _ rfl _ _ 22 rfl W.heap.size 49 .u32 4 Tryd.underlying22 u32_info A' k c' out rfl (hrow.alloc _) (some ⟨wr.heap.size, 0, none⟩) 1 1 [C % B9] rfl (RL.one wr .u32 49 (by show _ = ((C % 1000000000 : Nat) : Int); omega)) (by omega) (k + 1) rfl (by omega) (by simp; omega) ?_; intro A2 c2 w1 hrow1 hbel1 hsz1)
        go_roundw
        case rel => exact ⟨k + 1, C / B9, c2, A2, out ++ [C % B9], by omega, by show C / 1000000000 ≤ 4; omega, fun _ => by show C / 1000000000 = 0; omega, rfl, by show _ = Value.int .u64 ((C / 1000000000 : Nat) : Int); go_num, by go_num, hrow1, (hbel.alloc hbs _).trans hbel1, HS.out, all_snoc HA.out (Nat.mod_lt _ (by decide))⟩
        case measure => simp [intOf]

set_option maxHeartbeats 2000000 in
theorem rsub_fresh (A : Option Addr) (n c : Nat) (xs : List Nat) (A' : Option Addr) (m d : Nat) (ys : List Nat) (w : World) (hr : RL w .u32 A n xs) (hn : n ≤ c) (hc : c ≤ maxLen) (hN : n ≤ 100000) (hx : ∀ x ∈ xs, x < 4294967296)
    (hr' : RL w .u32 A' m ys) (hm : m ≤ d) (hd : d ≤ maxLen) (hM : m ≤ 100000) (hy : ∀ x ∈ ys, x < 4294967296) (u v : Nat) (hu : val B9 xs = u) (hv : val B9 ys = v) (huv : v ≤ u) (T : Nat) (hT : u - v = T) :
    Calls Tryd.prog 27 #[.agg #[.slice A n c], .agg #[.slice A' m d]] w (GivesNEF T 0 w) := by
  have HX := hide hx
  have HY := hide hy
  have HU := hide hu
  have HV := hide hv
  have HL := hide hr.len
  have HL' := hide hr'.len
  clear hx hy hu hv
  have HUV := hide huv
  have HT := hide hT
  clear hT
  obtain ⟨r, hr0, hR⟩ : ∃ r, decide (r < (0 : Int)) = false ∧ cmpI u v = r := ⟨_, by unfold cmpI; split <;> simp; omega; split <;> simp, rfl⟩
  have HR := hide hR
  clear huv hR
  go_enter Tryd.func27, Tryd.ntmps27
  go_wp2_with fail
  generalize hW : ((w.alloc _).alloc _).alloc _ = W
  obtain ⟨hbW, b0, b1, b2, hz⟩ := boxes3 hW
  clear hW
  refine (rcmp_any A n c xs A' m d ys _ (hr.below hbW) hn hc (by omega) HX.out (hr'.below hbW) hm hd (by omega) HY.out u v HU.out HV.out r HR.out).mono ?_
  rintro e w0 ⟨rfl, hx⟩
  have b0 := b0.below' hx
  have b1 := b1.below' hx
  have b2 := b2.below' hx
  have hbW := hbW.trans (hx.mono hbW.size)
  have k0 := b0.cell
  have k1 := b1.cell
  have k2 := b2.cell
  have f2 := b2.frozen 0
  clear hx hz
  have hr := hr.below hbW
  have hr' := hr'.below hbW
  go_wp2_with fail
  refine (rnorm_any A n c xs _ hr hn hc (by omega) HX.out u HU.out).mono ?_
  rintro e w1 ⟨A1, n1, c1, rfl, r1, hn1, hc1, hb1⟩
  have hl1 : n1 ≤ n + 1 := dig_len_u32 (n := n1) (m := n) (xs := xs) (by rw [HU.out]; exact r1.len) HL.out HX.out
  have b0 := b0.below' hb1
  have b1 := b1.below' hb1
  have b2 := b2.below' hb1
  have hrB := hr'.below hb1
  have hbA := hbW.trans (hb1.mono hbW.size)
  clear k0 k1 k2 f2
  have f0 := b0.frozen 0
  have k0 := b0.cell
  have k1 := b1.cell
  clear hr hr' hb1 hbW
  go_wp2_with fail
  generalize hW2 : w1.setCell _ _ = w2
  have r2 : RL w2 .u32 A1 n1 (dig B9 u) := by rw [← hW2]; exact r1.put b0 _
  have rB2 : RL w2 .u32 A' m ys := by rw [← hW2]; exact hrB.put b0 _
  have c0 : Box w2 w.heap.size #[.slice A1 n1 c1] 24 := by rw [← hW2]; exact b0.put _
  have e1 := b1.far (p := ⟨w.heap.size, 0, none⟩) (by simp) (.slice A1 n1 c1)
  rw [hW2] at e1
  have e2 := b2.far (p := ⟨w.heap.size, 0, none⟩) (by simp) (.slice A1 n1 c1)
  rw [hW2] at e2
  have hb2 : Below w.heap.size w w2 := by rw [← hW2]; exact hbA.setCell (by simp) _
  clear hW2 r1 hrB b0 b1 hbA f0 k0 k1
  refine (rnorm_any A' m d ys _ rB2 hm hd (by omega) HY.out v HV.out).mono ?_
  rintro e w3 ⟨A3, n3, c3, rfl, r3, hn3, hc3, hb3⟩
  have hl3 : n3 ≤ m + 1 := dig_len_u32 (n := n3) (m := m) (xs := ys) (by rw [HV.out]; exact r3.len) HL'.out HY.out
  have b0 := c0.below' hb3
  have b1 := e1.below' hb3
  have b2 := e2.below' hb3
  have r2 := r2.below hb3
  have hbA := hb2.trans (hb3.mono hb2.size)
  have r4 : RL (w3.setCell ⟨w.heap.size + 1, 0, none⟩ (.slice A3 n3 c3)) .u32 A1 n1 (dig B9 u) := r2.put b1 _
  have r5 : RL (w3.setCell ⟨w.heap.size + 1, 0, none⟩ (.slice A3 n3 c3)) .u32 A3 n3 (dig B9 v) := r3.put b1 _
  have d0 : Box (w3.setCell ⟨w.heap.size + 1, 0, none⟩ (.slice A3 n3 c3)) w.heap.size #[.slice A1 n1 c1] 24 := b0.far (by simp) _
  have d1 : Box (w3.setCell ⟨w.heap.size + 1, 0, none⟩ (.slice A3 n3 c3)) (w.heap.size + 1) #[.slice A3 n3 c3] 24 := b1.put _
  have d2 := b2.far (p := ⟨w.heap.size + 1, 0, none⟩) (by simp) (.slice A3 n3 c3)
  have hb4 : Below w.heap.size w (w3.setCell ⟨w.heap.size + 1, 0, none⟩ (.slice A3 n3 c3)) := hbA.setCell (by simp) _
  have f1 := b1.frozen 0
  have g0 := b0.cell
  have g1 := b1.cell
  clear r2 r3 b0 b1 hbA c0 e1 rB2 hb2 hb3 b2 e2
  have k0 := d0.cell
  have k1 := d1.cell
  have HR4 := hide r4.len
  have HR5 := hide r5.len
  have hc1' : n1 ≤ maxLen := Nat.le_trans hn1 hc1
  have hc3' : n3 ≤ maxLen := Nat.le_trans hn3 hc3
  unfold maxLen at hc1' hc3'
  have hle : n3 ≤ n1 := by
    have := dig_mono B9 (by decide) HUV.out
    rw [HR4.out, HR5.out] at this
    exact this
  go_wp2_with fail
  generalize w3.setCell (⟨w.heap.size + 1, 0, none⟩ : Addr) (.slice A3 n3 c3) = W4 at *
  have lt0 := d0.lt
  have lt1 := d1.lt
  have lt2 := d2.lt
  clear f1 g0 g1 k0 k1
  go_loopw [6, 7, 8, 9] (fun s bo i _ wr => ∃ (k C c' : Nat) (A' : Option Addr) (out : List Nat), k ≤ n1 ∧ C ≤ 1 ∧ s = .slice A' k c' ∧ bo = .int .i64 (C : Int) ∧ i = .int .i64 (k : Int) ∧ Row wr W4.heap.size .u32 49 A' k c' out ∧ Below W4.heap.size W4 wr ∧
      val B9 out + val B9 ((dig B9 v).take k) = val B9 ((dig B9 u).take k) + B9 ^ k * C ∧ ∀ x ∈ out, x < B9) (fun _ _ i _ _ => n1 - (intOf i).toNat)
  case atStart => exact ⟨0, 0, 0, none, [], by omega, by omega, rfl, rfl, rfl, Row.nil_, Below.refl _ _, by simp [val], fun x hx => by simp at hx⟩
  case round =>
    obtain ⟨k, C, c', A', out, hk, hC, rfl, rfl, rfl, hrow, hbel, hval, hall⟩ := hrel
    have q0 := (d0.below hbel lt0).cell
    have q1 := (d1.below hbel lt1).cell
    have HK := hide hrow.len
    have HVL := hide hval
    have HA := hide hall
    have hbs := hbel.size
    have hkc := hrow.le.1
    have hcm := hrow.le.2
    have hra := r4.below hbel
    have hrb := r5.below hbel
    unfold maxLen at hcm
    clear hval hall
    by_cases ha : k < n1
    · obtain ⟨b, o, x, rfl, hx, hcell⟩ := hra.at_ ha
      have hxb : x < 1000000000 := dig_lt B9 (by decide) u x (List.mem_of_getElem? hx)
      by_cases hb : k < n3
      · obtain ⟨b', o', y, rfl, hy, hcell'⟩ := hrb.at_ hb
        have hyb : y < 1000000000 := dig_lt B9 (by decide) v y (List.mem_of_getElem? hy)
        by_cases hneg : x < C + y
        · have hd5 : decide ((x : Int) - (C : Int) - (y : Int) < 0) = true := by simp; omega
          have HZ := hide (show x + 1000000000 - C - y + (C + y) = x + B9 * 1 from by show _ = x + 1000000000 * 1; omega)
          have HS := hide (rsub_step HK.out hx HZ.out (val_take_succ B9 hy) HVL.out)
          have HA2 := hide (all_snoc (v := x + 1000000000 - C - y) HA.out (show x + 1000000000 - C - y < 1000000000 by omega))
          clear hx hy hra hrb
          go_wp2_with (at_builtin; refine wpList_append_rl _ rfl _ _ 22 rfl W4.heap.size 49 .u32 4 Tryd.underlying22 u32_info A' k c' out rfl (hrow.alloc _) (some ⟨wr.heap.size, 0, none⟩) 1 1 [x + 1000000000 - C - y] rfl (RL.one wr .u32 49 (by omega)) (by omega) (k + 1) rfl (by omega) (by simp; omega) ?_; intro A2 c2 w5 hrow1 hbel1 hsz1)
          go_roundw
          case rel => exact ⟨k + 1, 1, c2, A2, out ++ [x + 1000000000 - C - y], by omega, by omega, rfl, rfl, by go_num, hrow1, (hbel.alloc hbs _).trans hbel1, HS.out, HA2.out⟩
          case measure => simp [intOf]; omega
        · have hd5 : decide ((x : Int) - (C : Int) - (y : Int) < 0) = false := by simp; omega
          have HZ := hide (show x - C - y + (C + y) = x + B9 * 0 from by show _ = x + 1000000000 * 0; omega)
          have HS := hide (rsub_step HK.out hx HZ.out (val_take_succ B9 hy) HVL.out)
          have HA2 := hide (all_snoc (v := x - C - y) HA.out (show x - C - y < 1000000000 by omega))
          clear hx hy hra hrb
          go_wp2_with (at_builtin; refine wpList_append_rl _ rfl _ _ 22 rfl W4.heap.size 49 .u32 4 Tryd.underlying22 u32_info A' k c' out rfl (hrow.alloc _) (some ⟨wr.heap.size, 0, none⟩) 1 1 [x - C - y] rfl (RL.one wr .u32 49 (by omega)) (by omega) (k + 1) rfl (by omega) (by simp; omega) ?_; intro A2 c2 w5 hrow1 hbel1 hsz1)
          go_roundw
          case rel => exact ⟨k + 1, 0, c2, A2, out ++ [x - C - y], by omega, by omega, rfl, rfl, by go_num, hrow1, (hbel.alloc hbs _).trans hbel1, HS.out, HA2.out⟩
          case measure => simp [intOf]; omega
      · have hd3 : decide (k < n3) = false := by simp; omega
        by_cases hneg : x < C
        · have hd5 : decide ((x : Int) - (C : Int) < 0) = true := by simp; omega
          have HZ := hide (show x + 1000000000 - C + (C + 0) = x + B9 * 1 from by show _ = x + 1000000000 * 1; omega)
          have HS := hide (rsub_step HK.out hx HZ.out (val_take_none' (by rw [HR5.out]; omega)) HVL.out)
          have HA2 := hide (all_snoc (v := x + 1000000000 - C) HA.out (show x + 1000000000 - C < 1000000000 by omega))
          clear hx  hra hrb
          go_wp2_with (at_builtin; refine wpList_append_rl _ rfl _ _ 22 rfl W4.heap.size 49 .u32 4 Tryd.underlying22 u32_info A' k c' out rfl (hrow.alloc _) (some ⟨wr.heap.size, 0, none⟩) 1 1 [x + 1000000000 - C] rfl (RL.one wr .u32 49 (by omega)) (by omega) (k + 1) rfl (by omega) (by simp; omega) ?_; intro A2 c2 w5 hrow1 hbel1 hsz1)
          go_roundw
          case rel => exact ⟨k + 1, 1, c2, A2, out ++ [x + 1000000000 - C], by omega, by omega, rfl, rfl, by go_num, hrow1, (hbel.alloc hbs _).trans hbel1, HS.out, HA2.out⟩
          case measure => simp [intOf]; omega
        · have hd5 : decide ((x : Int) - (C : Int) < 0) = false := by simp; omega
          have HZ := hide (show x - C + (C + 0) = x + B9 * 0 from by show _ = x + 1000000000 * 0; omega)
          have HS := hide (rsub_step HK.out hx HZ.out (val_take_none' (by rw [HR5.out]; omega)) HVL.out)
          have HA2 := hide (all_snoc (v := x - C) HA.out (show x - C < 1000000000 by omega))
          clear hx  hra hrb
          go_wp2_with (at_builtin; refine wpList_append_rl _ rfl _ _ 22 rfl W4.heap.size 49 .u32 4 Tryd.underlying22 u32_info A' k c' out rfl (hrow.alloc _) (some ⟨wr.heap.size, 0, none⟩) 1 1 [x - C] rfl (RL.one wr .u32 49 (by omega)) (by omega) (k + 1) rfl (by omega) (by simp; omega) ?_; intro A2 c2 w5 hrow1 hbel1 hsz1)
          go_roundw
          case rel => exact ⟨k + 1, 0, c2, A2, out ++ [x - C], by omega, by omega, rfl, rfl, by go_num, hrow1, (hbel.alloc hbs _).trans hbel1, HS.out, HA2.out⟩
          case measure => simp [intOf]; omega
    · obtain rfl : k = n1 := by omega
      have HE := hide (show val B9 out = T from by
        have h3 := HVL.out
        rw [val_take_dig B9 (by decide) v k (by rw [HR5.out]; exact hle), val_take_dig B9 (by decide) u k (by rw [HR4.out]; exact Nat.le_refl _)] at h3
        rw [← HT.out]
        exact rsub_end HK.out HA.out h3 HUV.out)
      have HU32 := hide (show ∀ x ∈ out, x < 4294967296 from fun x hx => by have : x < 1000000000 := HA.out x hx; omega)
      have hbA := hb4.trans (hbel.mono hb4.size)
      have d2w := d2.below hbel lt2
      have hrl := hrow.rl
      clear hra hrb
      go_wp2_with fail
      refine (rnorm_fresh A' k c' out _ hrl hkc (by unfold maxLen; omega) (by omega) HU32.out T HE.out).mono ?_
      rintro e w6 ⟨A6, n6, c6, rfl, r6, hn6, hc6, hb6, hf6⟩
      have q2 := (d2w.below' hb6).cell
      have g2 := (d2w.below' hb6).frozen 0
      go_wp2
      refine bodyPost_ret (v := .tuple #[.agg #[.slice A6 n6 c6], .int .i64 0]) (by simp [results, Tryd.results27, go_sem, q2]) rfl ?_
      exact gives_freshE (fin_structE hbA hb6 (by omega) d2w r6 hn6 hc6) (fun h => by obtain ⟨b, o, e1, e2⟩ := hf6 h; exact ⟨b, o, e1, Nat.le_trans hbA.size e2⟩)

end Go.Proofs.YthkgiobemfnpmaaDoor
