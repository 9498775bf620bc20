/- The laws of ledgers, their helpers: few, made, model, same, awake; arguments that are lists of calls. -/
import Derived.Test.YtalbdclcappjpaaGreatDL
namespace Go.Proofs.YtalbdclcappjpaaGreat
open Go Go.RowKit Go.Lib
theorem belGr {w W W' : World} (h : Below w.heap.size w W) (g : Gr W W') : Below w.heap.size w W' := Below.next h g.below
theorem boxDrew {W : World} {g : Nat} {vs : Array Value} {t : TypeId} (h : Box W g vs t) : Box W.drew g vs t := h
theorem boxAlloc {W : World} {g : Nat} {vs : Array Value} {t : TypeId} (h : Box W g vs t) (o : Obj) : Box (W.alloc o) g vs t := h.alloc o
theorem boxBel {W W' : World} {g : Nat} {vs : Array Value} {t : TypeId} (h : Box W g vs t) (b : Below W.heap.size W W') : Box W' g vs t := h.below' b
theorem boxGr {W W' : World} {g : Nat} {vs : Array Value} {t : TypeId} (h : Box W g vs t) (b : Gr W W') : Box W' g vs t := h.below' b.below
/-- a call's cells -/
def eO : En Opr where
  enc o := [.bool o.b, .int .i64 o.d.u, .int .i64 o.d.n, .int .i64 o.d.k, .int .i64 o.d.a, .int .i64 o.d.b, .int .i64 o.m.u, .int .i64 o.m.n]
  k := 8
  pos := by decide
  len _ := rfl
  one x u hu := by
    simp at hu
    rcases hu with rfl | rfl | rfl | rfl | rfl | rfl | rfl | rfl <;> rfl
  t := 48
def CellsO (w : World) (b o : Nat) (y : Opr) : Prop := w.cell? ⟨b, o, none⟩ = some (.bool y.b) ∧ w.cell? ⟨b, o + 1, none⟩ = some (.int .i64 y.d.u) ∧ w.cell? ⟨b, o + 2, none⟩ = some (.int .i64 y.d.n) ∧ w.cell? ⟨b, o + 3, none⟩ = some (.int .i64 y.d.k) ∧ w.cell? ⟨b, o + 4, none⟩ = some (.int .i64 y.d.a) ∧ w.cell? ⟨b, o + 5, none⟩ = some (.int .i64 y.d.b) ∧ w.cell? ⟨b, o + 6, none⟩ = some (.int .i64 y.m.u) ∧ w.cell? ⟨b, o + 7, none⟩ = some (.int .i64 y.m.n)
/-- an argument: a slice of calls that lies below B -/
def AR (w : World) (B : Nat) (A : Option Addr) (n : Nat) (ops : List Opr) : Prop := SL eO w A n ops ∧ (0 < n → ∀ g, Blk A g → g < B)
theorem AR.len {w : World} {B n : Nat} {A : Option Addr} {ops : List Opr} (h : AR w B A n ops) : ops.length = n := h.1.1
theorem AR.ext {w w' : World} {B n : Nat} {A : Option Addr} {ops : List Opr} (h : AR w B A n ops) (e : Ext B w w') : AR w' B A n ops :=
  ⟨h.1.turn (F := fun k => B ≤ k) ⟨e.2.os, e.2.tape, e.2.output, e.2.size, fun k _ hn => e.2.block k (Nat.lt_of_not_le hn)⟩ fun hn g hg hb => by have := h.2 hn g hg; omega, h.2⟩
theorem AR.at_ {w : World} {B n : Nat} {A : Option Addr} {ops : List Opr} (h : AR w B A n ops) {j : Nat} (hj : j < n) : ∃ b o y, A = some ⟨b, o, none⟩ ∧ b < B ∧ ops[j]? = some y ∧ ∀ w', Ext B w w' → CellsO w' b (o + j * 8) y := by
  obtain ⟨b, o, y, e, hl, hy, g⟩ := h.1.at_ hj
  have hb := h.2 (by omega) b ⟨o, none, e⟩
  refine ⟨b, o, y, e, hb, hy, fun w' ex => ?_⟩
  have q : ∀ (i : Nat) (u : Value), i < 8 → (eO.enc y)[i]? = some u → w'.cell? ⟨b, o + j * 8 + i, none⟩ = some u := fun i u hi hu => by
    rw [ex.2.cell (p := ⟨b, o + j * 8 + i, none⟩) hb]
    exact g i u hi hu
  exact ⟨q 0 _ (by decide) rfl, q 1 _ (by decide) rfl, q 2 _ (by decide) rfl, q 3 _ (by decide) rfl, q 4 _ (by decide) rfl, q 5 _ (by decide) rfl, q 6 _ (by decide) rfl, q 7 _ (by decide) rfl⟩
set_option maxHeartbeats 1000000 in
theorem few_any (A : Option Addr) (n c : Nat) (w : World) (v : Bool) (hv : decide (n ≤ 60) = v) :
    Calls Tryz.prog 6 #[.slice A n c] w fun e w' => e = .returned (.bool v) ∧ w = w' := by
  have d : decide ((n : Int) ≤ 60) = v := by rw [← hv]; exact decide_eq_decide.2 (by omega)
  have HV := hide hv
  clear hv
  go_enter Tryz.func6, Tryz.ntmps6
  go_wp2_with fail
  go_ret
  exact ⟨rfl, rfl⟩
theorem runL_next {ops : List Opr} {i : Nat} {o : Opr} (h : ops[i]? = some o) : runL (ops.take (i + 1)) = (runL (ops.take i)).step o := by rw [take_next h, runL_snoc]
theorem fineL_next {ops : List Opr} {i : Nat} {o : Opr} (h : ops[i]? = some o) : fineL (ops.take (i + 1)) = (decide ((runL (ops.take i)).code o = 0) && fineL (ops.take i)) := by rw [take_next h, fineL_snoc]
set_option maxHeartbeats 4000000 in
theorem mades_any (A : Option Addr) (n c : Nat) (ops : List Opr) (w : World) (B : Nat) (l : List Ob) (h : Lot w B l) (ha : AR w B A n ops) (hn : n ≤ 60) :
    Calls Tryz.prog 7 #[.slice A n c] w fun e w' => ∃ p, e = .returned (.tuple #[.pointer (some ⟨p, 0, none⟩), .bool (fineL ops)]) ∧ Lot w' B (l ++ [.prog p (runL ops)]) ∧ Ext B w w' := by
  have HA := hide ha
  have HL := hide ha.len
  have H := hide h
  clear ha h
  go_enter Tryz.func7, Tryz.ntmps7
  go_wp2_with fail
  refine (lot_new w B l H.out).mono ?_
  rintro e w1 ⟨p, rfl, h1, h2⟩
  have H1 := hide h1
  have E1 := hide h2
  clear h1 h2
  go_wp2_with fail
  go_loopw [5, 6] (fun fv iv wr => ∃ i : Nat, iv = .int .i64 (i : Int) ∧ i ≤ n ∧ fv = .bool (fineL (ops.take i)) ∧ Hid (Lot wr B (l ++ [.prog p (runL (ops.take i))])) ∧ Hid (Ext B w wr)) (fun _ iv _ => n - (RowKit.intOf iv).toNat)
  case atStart => exact ⟨0, rfl, Nat.zero_le _, rfl, H1, E1⟩
  case round =>
    obtain ⟨i, rfl, hi, rfl, HLt, HE⟩ := hrel
    by_cases hlt : i < n
    · obtain ⟨b, o, y, rfl, hb, hy, hc⟩ := (HA.out.ext HE.out).at_ hlt
      have HY := hide hy
      obtain ⟨k0, k1, k2, k3, k4, k5, k6, k7⟩ := hc _ (Ext.refl (Nat.le_trans HE.out.1 HE.out.size))
      have d0 : decide ((i : Int) < (n : Int)) = true := decide_eq_true (by omega)
      have a1 : (0 : Int) ≤ (i : Int) := by omega
      have a2 : (i : Int) < (n : Int) := by omega
      have HR := hide (runL_next hy)
      have HF := hide (fineL_next hy)
      obtain ⟨v, hv⟩ : ∃ v, (runL (ops.take i)).code y = v := ⟨_, rfl⟩
      rw [hv] at HF
      clear hy hc
      go_wp2_with fail
      refine (lot_do _ B _ l.length p _ y HLt.out (at_last _ _)).mono ?_
      rintro e w2 ⟨rfl, h3, h4⟩
      rw [set_last, ← HR.out] at h3
      have H3 := hide h3
      have H4 := hide (HE.out.ext h4)
      rw [hv]
      clear h3 h4 hv HLt k0 k1 k2 k3 k4 k5 k6 k7
      cases hf : fineL (ops.take i) with
      | true =>
        rw [hf] at HF
        by_cases hv0 : v = 0
        · subst hv0
          go_wp2_with fail
          go_roundw
          case rel => exact ⟨i + 1, by go_num, by omega, by rw [HF.out]; rfl, H3, H4⟩
          case measure => simp [RowKit.intOf]; omega
        · have e0 : (v == 0) = false := beq_eq_false_iff_ne.2 hv0
          have HF := hide (show fineL (ops.take (i + 1)) = false by rw [HF.out, decide_eq_false hv0]; rfl)
          clear hv0
          go_wp2_with fail
          go_roundw
          case rel => exact ⟨i + 1, by go_num, by omega, by rw [HF.out], H3, H4⟩
          case measure => simp [RowKit.intOf]; omega
      | false =>
        rw [hf] at HF
        have HF := hide (show fineL (ops.take (i + 1)) = false by rw [HF.out, Bool.and_false])
        cases e0 : (v == 0) with
        | true =>
          go_wp2_with fail
          go_roundw
          case rel => exact ⟨i + 1, by go_num, by omega, by rw [HF.out], H3, H4⟩
          case measure => simp [RowKit.intOf]; omega
        | false =>
          go_wp2_with fail
          go_roundw
          case rel => exact ⟨i + 1, by go_num, by omega, by rw [HF.out], H3, H4⟩
          case measure => simp [RowKit.intOf]; omega
    · obtain rfl : i = n := by omega
      have d0 : decide ((i : Int) < (i : Int)) = false := decide_eq_false (by omega)
      have ht : ops.take i = ops := List.take_of_length_le (by rw [HL.out]; exact Nat.le_refl _)
      rw [ht] at HLt ⊢
      go_wp2_with fail
      go_ret2
      exact ⟨p, rfl, HLt.out, HE.out⟩
set_option maxHeartbeats 4000000 in
theorem same_all (w : World) (B : Nat) (l : List Ob) (i j p q : Nat) (s t : Led) (h : Lot w B l) (hi : l[i]? = some (.prog p s)) (hj : l[j]? = some (.refr q t)) (r : Bool) (hr : decide (s = t) = r) :
    Calls Tryz.prog 11 #[.pointer (some ⟨p, 0, none⟩), .pointer (some ⟨q, 0, none⟩)] w fun e w' => e = .returned (.bool r) ∧ Lot w' B l ∧ Ext B w w' := by
  obtain ⟨F, h1⟩ := h.get hi
  obtain ⟨G, h3⟩ := h.get hj
  have HP := hide (show LN w B F p s from h1)
  have HQ := hide (show LQ w B G q t from h3)
  have H := hide h
  have HR := hide hr
  have n1 : s.d.length ≤ 1000 := Nat.le_trans HP.out.1.2.2.1 (by decide)
  have n2 : s.w.length ≤ 1000 := Nat.le_trans HP.out.1.2.2.2.2.2 (by decide)
  have n3 : t.d.length ≤ 1000 := Nat.le_trans HQ.out.1.2.2.1 (by decide)
  have n4 : t.w.length ≤ 1000 := Nat.le_trans HQ.out.1.2.2.2.2.2 (by decide)
  clear h h1 h3 hr hi hj
  go_enter Tryz.func11, Tryz.ntmps11
  go_wp2_with fail
  refine (made_any w _ s (LN.pq HP.out)).mono ?_
  rintro e w1 ⟨A1, c1, rfl, o1, b1⟩
  have O1 := hide o1
  have B1 := hide b1
  clear o1 b1
  go_wp2_with fail
  refine (rmade_any w1 B q G t (HQ.out.keep B1.out)).mono ?_
  rintro e w2 ⟨A2, c2, rfl, o2, rfl⟩
  have O2 := hide o2
  clear o2
  go_wp2_with fail
  refine (baseD_any A1 _ c1 s.d A2 _ c2 t.d w1 O1.out.sl O2.out n1 n3 _ rfl).mono ?_
  rintro e w3 ⟨rfl, g3⟩
  have B3 := hide (belGr B1.out g3)
  clear g3 O1 O2 B1
  by_cases hd : s.d = t.d
  · rw [decide_eq_true hd]
    go_wp2_with fail
    refine (withdrawn_any w3 _ s (LN.pq (HP.out.keep B3.out))).mono ?_
    rintro e w4 ⟨A3, c3, rfl, o3, b4⟩
    have O3 := hide o3
    have B4 := hide (Below.next B3.out b4)
    clear o3 b4 B3
    go_wp2_with fail
    refine (rwithdrawn_any w4 B q G t (HQ.out.keep B4.out)).mono ?_
    rintro e w5 ⟨A4, c4, rfl, o4, rfl⟩
    have O4 := hide o4
    clear o4
    go_wp2_with fail
    refine (baseM_any A3 _ c3 s.w A4 _ c4 t.w w4 O3.out.sl O4.out n2 n4 _ rfl).mono ?_
    rintro e w6 ⟨rfl, g6⟩
    have B6 := hide (belGr B4.out g6)
    clear g6 O3 O4 B4
    by_cases hw : s.w = t.w
    · rw [decide_eq_true hw]
      have hst : s = t := led_ext hd hw
      have HST := hide hst
      have n5 : (stL s).length ≤ 1000 := Nat.le_trans (stL_len s) n1
      have n6 : (stL t).length ≤ 1000 := Nat.le_trans (stL_len t) n3
      clear hst hd hw
      go_wp2_with fail
      refine (stand_any w6 B p F s (HP.out.keep B6.out)).mono ?_
      rintro e w7 ⟨A5, c5, rfl, o5, b7⟩
      have O5 := hide o5
      have B7 := hide (Below.next B6.out b7)
      clear o5 b7 B6
      go_wp2_with fail
      refine (rstand_any w7 B q G t (HQ.out.keep B7.out)).mono ?_
      rintro e w8 ⟨A6, c6, rfl, o6, b8⟩
      have O5 := hide (O5.out.keep b8)
      have O6 := hide o6
      have B8 := hide (Below.next B7.out b8)
      clear o6 b8 B7
      go_wp2_with fail
      refine (baseD_any A5 _ c5 (stL s) A6 _ c6 (stL t) w8 O5.out.sl O6.out.sl n5 n6 true (decide_eq_true (by rw [HST.out]))).mono ?_
      rintro e w9 ⟨rfl, g9⟩
      have B9 := hide (belGr B8.out g9)
      clear g9
      go_wp2_with fail
      go_ret
      exact ⟨by rw [← HR.out, decide_eq_true HST.out]; rfl, H.out.keep B9.out, H.out.1, B9.out.mono H.out.1⟩
    · rw [decide_eq_false hw]
      have HN := hide (show s ≠ t from fun e => hw (by rw [e]))
      clear hw hd
      go_wp2_with fail
      go_ret
      exact ⟨by rw [← HR.out, decide_eq_false HN.out]; rfl, H.out.keep B6.out, H.out.1, B6.out.mono H.out.1⟩
  · rw [decide_eq_false hd]
    have HN := hide (show s ≠ t from fun e => hd (by rw [e]))
    clear hd
    go_wp2_with fail
    go_ret
    exact ⟨by rw [← HR.out, decide_eq_false HN.out]; rfl, H.out.keep B3.out, H.out.1, B3.out.mono H.out.1⟩
theorem sl_boxX {w : World} {g : Nat} {t : TypeId} (h : Box w g #[.int .i64 1, .int .i64 5, .int .i64 1, .int .i64 3, .int .i64 7] t) : SL eD w (some ⟨g, 0, none⟩) 1 [⟨1, 5, 1, 3, 7⟩] := sl_box (e := eD) ⟨1, 5, 1, 3, 7⟩ h
theorem sl_keepX {w w' : World} {A : Option Addr} {n : Nat} {ys : List Dec} (h : SL eD w A n ys) (b : Below w.heap.size w w') : SL eD w' A n ys := h.keep b
theorem sl_grX {w w' : World} {A : Option Addr} {n : Nat} {ys : List Dec} (h : SL eD w A n ys) (b : Gr w w') : SL eD w' A n ys := h.keep b.below
theorem sl_drX {w : World} {A : Option Addr} {n : Nat} {ys : List Dec} (h : SL eD w A n ys) : SL eD w.drew A n ys := h.keep (Below.refl _ _).drew
theorem sl_alX {w : World} {A : Option Addr} {n : Nat} {ys : List Dec} (h : SL eD w A n ys) (o : Obj) : SL eD (w.alloc o) A n ys := h.keep ((Below.refl _ _).alloc (Nat.le_refl _) o)
set_option maxHeartbeats 8000000 in
theorem awake_yes (w : World) : Calls Tryz.prog 5 #[] w fun e w' => e = .returned (.bool true) ∧ Below w.heap.size w w' := by
  have W1 := hide (show wdE [] ⟨1, 5⟩ = 0 ∧ wdL [] ⟨1, 5⟩ = [⟨1, 5⟩] from by decide)
  have M1 := hide (show mkE [] ⟨1, 5, 1, 3, 7⟩ = 0 ∧ mkL [] ⟨1, 5, 1, 3, 7⟩ = [⟨1, 5, 1, 3, 7⟩] from by decide)
  have S1 := hide (show stL ⟨[⟨1, 5, 1, 3, 7⟩], [⟨1, 5⟩]⟩ = [] from by decide)
  have V1 := hide (show vD ⟨1, 5, 1, 3, 7⟩ = true from by decide)
  go_enter Tryz.func5, Tryz.ntmps5
  go_wp2_with fail
  refine (new_any w).mono ?_
  rintro e w1 ⟨p, rfl, h1, b1⟩
  have L1 := hide (h1.keep ((Below.refl _ _).alloc (Nat.le_refl _) (.cells #[.int .i64 1, .int .i64 5, .int .i64 1, .int .i64 3, .int .i64 7] 44)))
  have B1 := hide (b1.alloc b1.size (.cells #[.int .i64 1, .int .i64 5, .int .i64 1, .int .i64 3, .int .i64 7] 44))
  have X1 := hide (newE w1 #[.int .i64 1, .int .i64 5, .int .i64 1, .int .i64 3, .int .i64 7] 44 rfl)
  clear h1 b1
  go_wp2_with fail
  refine (wd_any _ _ p _ Led.none ⟨1, 5⟩ L1.out).mono ?_
  rintro e w2 ⟨rfl, h2, t2⟩
  rw [show Led.none.w = [] from rfl, W1.out.2] at h2
  rw [show wdE Led.none.w ⟨1, 5⟩ = 0 from W1.out.1]
  have L2 := hide h2
  have X2 := hide (t2.box X1.out (fun h => h.elim id fun h => Nat.lt_irrefl _ h.2))
  have B2 := hide (Turn.onto B1.out t2 fun k hk => (L1.out.2.1 k hk).1)
  have k0 : w2.cell? ⟨w1.heap.size, 0, none⟩ = some (.int .i64 1) := X2.out.at_ 0
  have k1 : w2.cell? ⟨w1.heap.size, 1, none⟩ = some (.int .i64 5) := X2.out.at_ 1
  have k2 : w2.cell? ⟨w1.heap.size, 2, none⟩ = some (.int .i64 1) := X2.out.at_ 2
  have k3 : w2.cell? ⟨w1.heap.size, 3, none⟩ = some (.int .i64 3) := X2.out.at_ 3
  have k4 : w2.cell? ⟨w1.heap.size, 4, none⟩ = some (.int .i64 7) := X2.out.at_ 4
  have hs1 : (w1.alloc (.cells #[.int .i64 1, .int .i64 5, .int .i64 1, .int .i64 3, .int .i64 7] 44)).heap.size = w1.heap.size + 1 := by simp
  clear h2 t2
  go_wp2_with fail
  refine (make_any w2 _ p _ _ ⟨1, 5, 1, 3, 7⟩ L2.out).mono ?_
  rintro e w3 ⟨rfl, h3, t3⟩
  rw [show Led.none.d = [] from rfl, M1.out.2] at h3
  rw [show mkE Led.none.d ⟨1, 5, 1, 3, 7⟩ = 0 from M1.out.1]
  have X3 := hide (t3.box X2.out (fun h => by
    rcases h with h | h
    · exact h.elim id fun h => Nat.lt_irrefl _ h.2
    · rw [hs1] at h; omega))
  have B3 := hide (Turn.onto B2.out t3 fun k hk => (L2.out.2.1 k hk).1)
  have STK := hide (fun (W : World) (h : Below w3.heap.size w3 W) => show Calls Tryz.prog 20 #[.pointer (some ⟨p, 0, none⟩)] W (fun e w' => ∃ A c, e = .returned (.slice A 0 c) ∧ Below W.heap.size W w') from (stand_any W _ p _ _ (h3.keep h)).mono (by
    rintro e w' ⟨A, c, rfl, h4, h5⟩
    rw [S1.out] at h4 ⊢
    exact ⟨A, c, rfl, h5⟩))
  have MDK := hide (fun (W : World) (h : Below w3.heap.size w3 W) => show Calls Tryz.prog 15 #[.pointer (some ⟨p, 0, none⟩)] W (fun e w' => ∃ A c, e = .returned (.slice A 1 c) ∧ SL eD w' A 1 [⟨1, 5, 1, 3, 7⟩] ∧ Below W.heap.size W w') from (made_any W _ _ (LN.pq (h3.keep h))).mono (by
    rintro e w' ⟨A, c, rfl, h4, h5⟩
    exact ⟨A, c, rfl, h4.sl, h5⟩))
  have BDK := hide (fun (W : World) (A A' : Option Addr) (c c' : Nat) (h : SL eD W A 1 [⟨1, 5, 1, 3, 7⟩]) (h' : SL eD W A' 1 [⟨1, 5, 1, 3, 7⟩]) => baseD_any A 1 c [⟨1, 5, 1, 3, 7⟩] A' 1 c' [⟨1, 5, 1, 3, 7⟩] W h h' (by decide) (by decide) true (decide_eq_true rfl))
  have VDK := hide (fun (W : World) => show Calls Tryz.prog 23 #[.agg #[.int .i64 1, .int .i64 5, .int .i64 1, .int .i64 3, .int .i64 7]] W (fun e w' => e = .returned (.bool true) ∧ Gr W w') from valid_any ⟨1, 5, 1, 3, 7⟩ W true V1.out)
  have KS : Hid (∀ w', Below w3.heap.size w3 w' → w'.cell? ⟨w1.heap.size, 0, none⟩ = some (.int .i64 1) ∧ w'.cell? ⟨w1.heap.size, 1, none⟩ = some (.int .i64 5) ∧ w'.cell? ⟨w1.heap.size, 2, none⟩ = some (.int .i64 1) ∧ w'.cell? ⟨w1.heap.size, 3, none⟩ = some (.int .i64 3) ∧ w'.cell? ⟨w1.heap.size, 4, none⟩ = some (.int .i64 7)) := fun w' h => ⟨(X3.out.below' h).at_ 0, (X3.out.below' h).at_ 1, (X3.out.below' h).at_ 2, (X3.out.below' h).at_ 3, (X3.out.below' h).at_ 4⟩
  clear h3 t3 k0 k1 k2 k3 k4 hs1 L1 L2 B1 B2 X1 X2
  go_wp2_with fail
  go_region_held3 (fun w' => w'.cell? ⟨w1.heap.size, 0, none⟩ = some (.int .i64 1) ∧ w'.cell? ⟨w1.heap.size, 1, none⟩ = some (.int .i64 5) ∧ w'.cell? ⟨w1.heap.size, 2, none⟩ = some (.int .i64 1) ∧ w'.cell? ⟨w1.heap.size, 3, none⟩ = some (.int .i64 3) ∧ w'.cell? ⟨w1.heap.size, 4, none⟩ = some (.int .i64 7))
    (exact KS.out _ (by ((repeat (first | (with_reducible assumption) | (with_reducible exact Below.refl _ _) | (with_reducible refine Below.drewS ?_) | (with_reducible refine Below.allocS ?_ _) | (with_reducible refine belGr ?_ (by assumption)) | (with_reducible refine Below.next ?_ (by assumption)))); (first | done | fail))))
    (first
      | (go_at_call 20; (with_reducible refine (STK.out _ (by ((repeat (first | (with_reducible assumption) | (with_reducible exact Below.refl _ _) | (with_reducible refine Below.drewS ?_) | (with_reducible refine Below.allocS ?_ _) | (with_reducible refine belGr ?_ (by assumption)) | (with_reducible refine Below.next ?_ (by assumption)))); (first | done | fail)))).mono ?_); rintro e w4 ⟨A4, c4, rfl, b4⟩)
      | (go_at_call 15; (with_reducible refine (MDK.out _ (by ((repeat (first | (with_reducible assumption) | (with_reducible exact Below.refl _ _) | (with_reducible refine Below.drewS ?_) | (with_reducible refine Below.allocS ?_ _) | (with_reducible refine belGr ?_ (by assumption)) | (with_reducible refine Below.next ?_ (by assumption)))); (first | done | fail)))).mono ?_); rintro e w5 ⟨A5, c5, rfl, o5, b5⟩)
      | (go_at_call 22; (with_reducible refine (BDK.out _ _ _ _ _ (by ((repeat (first | (with_reducible assumption) | (with_reducible refine sl_boxX (t := 44) (by ((repeat (first | (with_reducible assumption) | (with_reducible exact newE _ _ _ (by rfl)) | (with_reducible refine boxDrew ?_) | (with_reducible refine boxAlloc ?_ _) | (with_reducible refine boxBel ?_ (by assumption)) | (with_reducible refine boxGr ?_ (by assumption)))); (first | done | fail)))) | (with_reducible refine sl_drX ?_) | (with_reducible refine sl_alX ?_ _) | (with_reducible refine sl_keepX ?_ (by assumption)) | (with_reducible refine sl_grX ?_ (by assumption)))); (first | done | fail))) (by ((repeat (first | (with_reducible assumption) | (with_reducible refine sl_boxX (t := 44) (by ((repeat (first | (with_reducible assumption) | (with_reducible exact newE _ _ _ (by rfl)) | (with_reducible refine boxDrew ?_) | (with_reducible refine boxAlloc ?_ _) | (with_reducible refine boxBel ?_ (by assumption)) | (with_reducible refine boxGr ?_ (by assumption)))); (first | done | fail)))) | (with_reducible refine sl_drX ?_) | (with_reducible refine sl_alX ?_ _) | (with_reducible refine sl_keepX ?_ (by assumption)) | (with_reducible refine sl_grX ?_ (by assumption)))); (first | done | fail)))).mono ?_); rintro e w6 ⟨rfl, g6⟩)
      | (go_at_call 23; (with_reducible refine (VDK.out _).mono ?_); rintro e w7 ⟨rfl, g7⟩))
  all_goals
    go_wp2_with fail
    go_ret
    exact ⟨rfl, Below.next B3.out (by ((repeat (first | (with_reducible assumption) | (with_reducible exact Below.refl _ _) | (with_reducible refine Below.drewS ?_) | (with_reducible refine Below.allocS ?_ _) | (with_reducible refine belGr ?_ (by assumption)) | (with_reducible refine Below.next ?_ (by assumption)))); (first | done | fail)))⟩
end Go.Proofs.YtalbdclcappjpaaGreat
