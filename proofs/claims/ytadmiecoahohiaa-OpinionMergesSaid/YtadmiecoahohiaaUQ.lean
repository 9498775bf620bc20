/- Invert, of both sides. -/
import Derived.Test.YtadmiecoahohiaaUO
namespace Go.Proofs.Ytadmiecoahohiaa
open Go Go.RowKit Go.Lib
set_option maxHeartbeats 1000000 in
set_option maxRecDepth 100000 in
theorem cloneC_any (A : Option Addr) (n c : Nat) (ys : List Chg) (w : World) (hr : SL eC w A n ys) (hn : n ≤ 1000) :
    Calls Try.prog 31 #[.slice A n c] w fun e w' => ∃ A' c', e = .returned (.slice A' n c') ∧ Ow eC w' w.heap.size A' n c' ys ∧ Below w.heap.size w w' := by
  have q := fun (w : World) (a : Option Addr) (n c n' c' : Nat) => Lib.run_eql_slice_nil (P := Try.prog) w _ _ a n c n' c' Try.underlying23
  cases A with
  | none =>
    obtain rfl : n = 0 := by
      rcases Nat.eq_zero_or_pos n with h | h
      · exact h
      · obtain ⟨b, o, e, _⟩ := hr.base h; cases e
    obtain rfl := hr.zero_
    go_enter Try.func31, Try.ntmps31
    go_wp2_with fail
    go_ret
    exact ⟨_, _, rfl, Ow.nil_ _ _, Below.refl _ _⟩
  | some a =>
    have HR := hide hr
    have HW := hide (show (w.alloc (.cells #[] 46)).ownsRow w.heap.size 46 5 (.slice (some ⟨w.heap.size, 0, none⟩) 0 0) 0 [] from owns_new w (Nat.le_refl _))
    clear hr
    go_enter Try.func31, Try.ntmps31
    go_wp2_with (at_builtin; refine wpList_app_ow _ rfl _ _ 23 rfl w.heap.size 46 _ 5 32 Try.underlying23 infoC rfl (by decide) (some ⟨w.heap.size, 0, none⟩) 0 0 [] rfl HW.out (some a) n c (flatE eC ys) rfl (by rw [flatE_len, HR.out.1]; rfl) (fun hm => by
        obtain ⟨b, o, e, hl, hc⟩ := (HR.out.keep ((Below.refl _ _).alloc (Nat.le_refl _) (.cells #[] 46))).2 hm
        exact ⟨_, e, fun j u hj => by
          have ea : (⟨b, o, none⟩ : Addr).add j = ⟨b, o + j, none⟩ := by unfold Addr.add; split <;> simp_all
          rw [ea]; exact hc j u hj⟩) (flatE_one ys) (by decide) (by omega) (by simp) ?_; intro A' c' w' r1 r2 r3)
    all_goals
      go_ret
      simp only [Nat.zero_add] at *
      refine ⟨A', c', rfl, r1, ?_⟩
      refine Turn.onto ((Below.refl _ _).alloc (Nat.le_refl _) _) r2 ?_
      intro k hk
      rw [blk_some] at hk
      omega

theorem enc_set0C (z y : Chg) (L : List Value) : (((((eC.enc z ++ L).set 0 (.int .i64 y.k)).set 1 (.int .i64 y.o)).set 2 (.int .i64 y.n)).set 3 (.bool y.h)).set 4 (.bool y.s) = eC.enc y ++ L := rfl
theorem enc_setSC (z : Chg) (L : List Value) (j : Nat) (v : Value) : (eC.enc z ++ L).set (5 + j) v = eC.enc z ++ L.set j v := by
  rw [List.set_append, if_neg (by rw [eC.len]; show ¬ 5 + j < 5; omega), eC.len, show 5 + j - eC.k = j from Nat.add_sub_cancel_left ..]
theorem flat_setC : ∀ (zs : List Chg) (k : Nat) (y : Chg), k < zs.length → (((((flatE eC zs).set (k * 5) (.int .i64 y.k)).set (k * 5 + 1) (.int .i64 y.o)).set (k * 5 + 2) (.int .i64 y.n)).set (k * 5 + 3) (.bool y.h)).set (k * 5 + 4) (.bool y.s) = flatE eC (zs.set k y)
  | [], k, y, h => by simp at h
  | z :: zs, 0, y, _ => by
    rw [List.set_cons_zero, flatE_cons, flatE_cons]
    exact enc_set0C z y _
  | z :: zs, k + 1, y, h => by
    have := flat_setC zs k y (by simpa using h)
    rw [List.set_cons_succ, flatE_cons, flatE_cons, ← this, show (k + 1) * 5 = 5 + k * 5 by omega]
    simp only [Nat.add_assoc, enc_setSC]
theorem Ow.putC {w : World} {B g n c : Nat} {zs : List Chg} (h : Ow eC w B (some ⟨g, 0, none⟩) n c zs) {k : Nat} (hk : k < zs.length) (y : Chg) :
    Ow eC (((((w.setCell ⟨g, k * 5, none⟩ (.int .i64 y.k)).setCell ⟨g, k * 5 + 1, none⟩ (.int .i64 y.o)).setCell ⟨g, k * 5 + 2, none⟩ (.int .i64 y.n)).setCell ⟨g, k * 5 + 3, none⟩ (.bool y.h)).setCell ⟨g, k * 5 + 4, none⟩ (.bool y.s)) B (some ⟨g, 0, none⟩) n c (zs.set k y) := by
  have h0 := h
  have h1 := (World.ownsRow.stored h0 (k * 5) (.int .i64 y.k)).1
  have h2 := (World.ownsRow.stored h1 (k * 5 + 1) (.int .i64 y.o)).1
  have h3 := (World.ownsRow.stored h2 (k * 5 + 2) (.int .i64 y.n)).1
  have h4 := (World.ownsRow.stored h3 (k * 5 + 3) (.bool y.h)).1
  have h5 := (World.ownsRow.stored h4 (k * 5 + 4) (.bool y.s)).1
  rw [flat_setC zs k y hk] at h5
  exact h5
theorem tuGr {F : Nat → Prop} {w W W' : World} (h : Turn F w W) (g : Gr W W') : Turn F w W' := h.trans (Turn.of g.below)
theorem tuSet {g : Nat} {w W : World} (h : Turn (Is g) w W) (i : Nat) (v : Value) : Turn (Is g) w (W.setCell ⟨g, i, none⟩ v) := h.set i v rfl
theorem tuDr {F : Nat → Prop} {w W : World} (h : Turn F w W) : Turn F w W.drew := h.drew_
theorem own_frozenC {w : World} {B g n c : Nat} {zs : List Chg} (h : Ow eC w B (some ⟨g, 0, none⟩) n c zs) (j : Nat) : w.frozen? ⟨g, j, none⟩ = false := World.ownsRow.frozenAt h j
theorem invR_no {c : List Chg} (h : vC c = false) : invR c = ([], 1) := by unfold invR; rw [h]; rfl
theorem invR_ok {c : List Chg} (h : vC c = true) : invR c = (inv c, 0) := by unfold invR; rw [h]; rfl
theorem inv_next {c : List Chg} {j : Nat} {x : Chg} (h : c[j]? = some x) : (inv (c.take j) ++ c.drop j).set j (inv1 x) = inv (c.take (j + 1)) ++ c.drop (j + 1) := by
  have h1 := List.getElem?_eq_some_iff.1 h
  have hl : (inv (c.take j)).length = j := by rw [len_inv, List.length_take]; have := h1.1; omega
  have e1 : c.drop j = x :: c.drop (j + 1) := by rw [List.drop_eq_getElem_cons h1.1, h1.2]
  rw [e1, List.set_append, if_neg (by omega), hl, Nat.sub_self, List.set_cons_zero]
  unfold inv
  rw [take_next h, List.map_append, List.append_assoc]
  rfl

set_option maxHeartbeats 16000000 in
set_option maxRecDepth 100000 in
theorem invert_any (A1 : Option Addr) (n1 c1 : Nat) (c : List Chg) (w : World) (hc : SL eC w A1 n1 c) (h1 : n1 ≤ 200) :
    Calls Try.prog 14 #[.slice A1 n1 c1] w (Giv eC w (invR c)) := by
  have HX0 := hide hc
  clear hc
  cases hv0 : vC c with
  | false =>
    have HR := hide (invR_no hv0)
    have HV0 := hide hv0
    clear hv0
    go_enter Try.func14, Try.ntmps14
    go_wp2_with fail
    refine (validC_any A1 n1 c1 c w HX0.out (by omega) false HV0.out).mono ?_
    rintro e w1 ⟨rfl, g1⟩
    have G1 := hide (g1)
    clear g1
    go_wp2_with fail
    go_ret2
    exact Giv.none 1 HR.out rfl G1.out.below
  | true =>
    have HR := hide (invR_ok hv0)
    have HV0 := hide hv0
    clear hv0
    go_enter Try.func14, Try.ntmps14
    go_wp2_with fail
    refine (validC_any A1 n1 c1 c w HX0.out (by omega) true HV0.out).mono ?_
    rintro e w1 ⟨rfl, g1⟩
    have G1 := hide (g1)
    clear g1
    go_wp2_with fail
    have HX0 := hide (HX0.out.keep G1.out.below)
    have hcv := vC_iff.1 HV0.out
    have hn1 : n1 ≤ 64 := by rw [← HX0.out.1]; exact hcv.1
    have B1 := hide G1.out.below
    clear hcv
    refine (cloneC_any A1 n1 c1 c w1 HX0.out (by omega)).mono ?_
    rintro e w2 ⟨A2, c2, rfl, o2, b2⟩
    have HX1 := hide HX0.out
    have HX0 := hide (HX0.out.keep b2)
    have HO2 := hide o2
    have B2 := hide (Below.next B1.out b2)
    have hbw := b2.size
    clear o2 b2
    have mixed : Try.prog.follows Departure.mixedOrders = true := by kernel_rfl
    go_wp2_with fail
    go_loopw [14] (fun i wr => ∃ (j : Nat), i = .int .i64 (j : Int) ∧ j ≤ n1 ∧ Hid (Ow eC wr w1.heap.size A2 n1 c2 (inv (c.take j) ++ c.drop j)) ∧ Hid (Turn (Blk A2) w2 wr)) (fun i _ => n1 - (RowKit.intOf i).toNat)
    case atStart => exact ⟨0, rfl, Nat.zero_le _, HO2, hide (Turn.refl _ _)⟩
    case round =>
      obtain ⟨j, rfl, hj, HO, HT⟩ := hrel
      by_cases hlt : j < n1
      · have HXS := hide (HX0.out)
        obtain ⟨g, rfl, hg1, hg2⟩ := HO.out.pos (by omega)
        have hsrc : SL eC wr A1 n1 c := HX0.out.turn HT.out (fun hn k hk hk2 => by
          obtain ⟨b8, o8, e8, hb8⟩ := HX1.out.base hn
          have h8 := (HO2.out.blk k hk2).1
          rw [e8, blk_some] at hk
          omega)
        obtain ⟨bk, ok, x, rfl, hl, hk, m0, m1, m2, m3, m4⟩ := hsrc.atC hlt
        have HK := hide hk
        have d0 : decide ((j : Int) < (n1 : Int)) = true := decide_eq_true (by omega)
        have a1 : (0 : Int) ≤ (j : Int) := by omega
        have a2 : (j : Int) < (n1 : Int) := by omega
        have HBX := hide (Box.new wr #[.int .i64 x.k, .int .i64 x.o, .int .i64 x.n, .bool x.h, .bool x.s] 46)
        have KS := hide (fun (w' : World) (h : Turn (Is g) (wr.alloc (.cells #[.int .i64 x.k, .int .i64 x.o, .int .i64 x.n, .bool x.h, .bool x.s] 46)) w') => show w'.cell? ⟨wr.heap.size, 0, none⟩ = some (.int .i64 x.k) ∧ w'.cell? ⟨wr.heap.size, 1, none⟩ = some (.int .i64 x.o) ∧ w'.cell? ⟨wr.heap.size, 2, none⟩ = some (.int .i64 x.n) ∧ w'.cell? ⟨wr.heap.size, 3, none⟩ = some (.bool x.h) ∧ w'.cell? ⟨wr.heap.size, 4, none⟩ = some (.bool x.s) from ⟨(h.box HBX.out (fun e => by rw [show wr.heap.size = g from e] at hg2; omega)).at_ 0, (h.box HBX.out (fun e => by rw [show wr.heap.size = g from e] at hg2; omega)).at_ 1, (h.box HBX.out (fun e => by rw [show wr.heap.size = g from e] at hg2; omega)).at_ 2, (h.box HBX.out (fun e => by rw [show wr.heap.size = g from e] at hg2; omega)).at_ 3, (h.box HBX.out (fun e => by rw [show wr.heap.size = g from e] at hg2; omega)).at_ 4⟩)
        have HO1 := hide (HO.out.keep ((Below.refl _ _).alloc (Nat.le_refl _) (.cells #[.int .i64 x.k, .int .i64 x.o, .int .i64 x.n, .bool x.h, .bool x.s] 46)))
        have hlen : (inv (c.take j) ++ c.drop j).length = n1 := HO.out.len
        obtain ⟨y, hy⟩ : ∃ y, (inv (c.take j) ++ c.drop j)[j]? = some y := ⟨_, List.getElem?_eq_getElem (by rw [hlen]; exact hlt)⟩
        have HY := hide hy
        have HN := hide (inv_next hk)
        have HLN := hide hlen
        clear hk hy hsrc hlen
        go_wp2_with fail
        go_region_held3 (fun w' => w'.cell? ⟨wr.heap.size, 0, none⟩ = some (.int .i64 x.k) ∧ w'.cell? ⟨wr.heap.size, 1, none⟩ = some (.int .i64 x.o) ∧ w'.cell? ⟨wr.heap.size, 2, none⟩ = some (.int .i64 x.n) ∧ w'.cell? ⟨wr.heap.size, 3, none⟩ = some (.bool x.h) ∧ w'.cell? ⟨wr.heap.size, 4, none⟩ = some (.bool x.s))
          (exact KS.out _ (by ((repeat (first | (with_reducible assumption) | (with_reducible exact Turn.refl _ _) | (with_reducible refine tuDr ?_) | (with_reducible refine tuSet ?_ _ _) | (with_reducible refine tuGr ?_ (by assumption)))); (first | done | fail))))
          (first
            | (go_at_call 33; (with_reducible refine (after_any x _).mono ?_); rintro e u1 ⟨rfl, hg⟩)
            | (go_at_call 34; (with_reducible refine (before_any x _).mono ?_); rintro e u2 ⟨rfl, hg2'⟩)
            | (go_at_call 32; (with_reducible refine (chgOf_any x.k ⟨x.n, x.s⟩ ⟨x.o, x.h⟩ _).mono ?_); rintro e u3 ⟨rfl, hg3⟩; (have HO3 := hide (HO1.out.keep (show Below (wr.alloc (.cells #[.int .i64 x.k, .int .i64 x.o, .int .i64 x.n, .bool x.h, .bool x.s] 46)).heap.size (wr.alloc (.cells #[.int .i64 x.k, .int .i64 x.o, .int .i64 x.n, .bool x.h, .bool x.s] 46)) u3 from (by ((repeat (first | (with_reducible assumption) | (with_reducible exact Below.refl _ _) | (with_reducible refine Below.drewS ?_) | (with_reducible refine Below.allocS ?_ _) | (with_reducible refine belGr ?_ (by assumption)) | (with_reducible refine Below.next ?_ (by assumption)) | (with_reducible refine Below.trans ?_ (by assumption)))); (first | done | fail)))))); obtain ⟨s0, s1, s2, s3, s4⟩ := HO3.out.sl.cellsC HY.out; simp only [Nat.zero_add] at s0 s1 s2 s3 s4; have f0 := own_frozenC HO3.out (j * 5); have f1 := own_frozenC HO3.out (j * 5 + 1); have f2 := own_frozenC HO3.out (j * 5 + 2); have f3 := own_frozenC HO3.out (j * 5 + 3); have f4 := own_frozenC HO3.out (j * 5 + 4)))
        all_goals
          have HP := hide (HO3.out.putC (k := j) (by rw [HLN.out]; exact hlt) (inv1 x))
          rw [HN.out] at HP
          have HT2 := hide (HT.out.trans (((Turn.of ((Below.refl _ _).alloc (Nat.le_refl _) _)).trans (show Turn (Is g) (wr.alloc (.cells #[.int .i64 x.k, .int .i64 x.o, .int .i64 x.n, .bool x.h, .bool x.s] 46)) _ from tuSet (tuSet (tuSet (tuSet (tuSet (show Turn (Is g) (wr.alloc (.cells #[.int .i64 x.k, .int .i64 x.o, .int .i64 x.n, .bool x.h, .bool x.s] 46)) u3 from (by ((repeat (first | (with_reducible assumption) | (with_reducible exact Turn.refl _ _) | (with_reducible refine tuDr ?_) | (with_reducible refine tuSet ?_ _ _) | (with_reducible refine tuGr ?_ (by assumption)))); (first | done | fail)))) (j * 5) (.int .i64 x.k)) (j * 5 + 1) (.int .i64 x.n)) (j * 5 + 2) (.int .i64 x.o)) (j * 5 + 3) (.bool x.s)) (j * 5 + 4) (.bool x.h))).mono fun k _ hk => by rw [show k = g from hk]; exact ⟨0, none, rfl⟩))
          clear HO3 hg hg2' hg3 s0 s1 s2 s3 s4 f0 f1 f2 f3 f4
          go_wp2_with fail
          go_roundw
          case rel => exact ⟨j + 1, by go_num, by omega, HP, HT2⟩
          case measure => simp [RowKit.intOf]; omega
      · obtain rfl : n1 = j := by omega
        have d0 : decide ((n1 : Int) < (n1 : Int)) = false := decide_eq_false (by omega)
        have hall : inv (c.take n1) ++ c.drop n1 = inv c := by rw [List.take_of_length_le (by rw [HX0.out.1]; exact Nat.le_refl _), List.drop_of_length_le (by rw [HX0.out.1]; exact Nat.le_refl _), List.append_nil]
        rw [hall] at HO
        have hl : (inv c).length = n1 := by rw [len_inv]; exact HX0.out.1
        have HL := hide hl
        clear hall hl
        go_wp2_with fail
        go_ret2
        unfold Giv
        rw [HR.out]
        refine ⟨A2, c2, ?_, ?_, Turn.onto B2.out HT.out fun k hk => Nat.le_trans B1.out.size (HO2.out.blk k hk).1⟩
        · show _ = Ending.returned (.tuple #[.slice A2 (inv c).length c2, .int .i64 0])
          rw [HL.out]; rfl
        · show Ow eC wr w.heap.size A2 (inv c).length c2 (inv c)
          rw [HL.out]
          exact HO.out.low B1.out.size

set_option maxHeartbeats 16000000 in
set_option maxRecDepth 100000 in
theorem rinvert_any (A1 : Option Addr) (n1 c1 : Nat) (c : List Chg) (w : World) (hc : SL eC w A1 n1 c) (h1 : n1 ≤ 200) :
    Calls Try.prog 15 #[.slice A1 n1 c1] w (Giv eC w (invR c)) := by
  have HX0 := hide hc
  clear hc
  cases hv0 : vC c with
  | false =>
    have HR := hide (invR_no hv0)
    have HV0 := hide hv0
    clear hv0
    go_enter Try.func15, Try.ntmps15
    go_wp2_with fail
    refine (rvalidC_any A1 n1 c1 c w HX0.out (by omega) false HV0.out).mono ?_
    rintro e w1 ⟨rfl, g1⟩
    have G1 := hide (g1)
    clear g1
    go_wp2_with fail
    go_ret2
    exact Giv.none 1 HR.out rfl G1.out.below
  | true =>
    have HR := hide (invR_ok hv0)
    have HV0 := hide hv0
    clear hv0
    go_enter Try.func15, Try.ntmps15
    go_wp2_with fail
    refine (rvalidC_any A1 n1 c1 c w HX0.out (by omega) true HV0.out).mono ?_
    rintro e w1 ⟨rfl, g1⟩
    have G1 := hide (g1)
    clear g1
    go_wp2_with fail
    have HX0 := hide (HX0.out.keep G1.out.below)
    have hcv := vC_iff.1 HV0.out
    have hn1 : n1 ≤ 64 := by rw [← HX0.out.1]; exact hcv.1
    have HON := hide hcv.2.2
    have B1 := hide G1.out.below
    clear hcv
    have mixed : Try.prog.follows Departure.mixedOrders = true := by kernel_rfl
    go_wp2_with fail
    go_loopw [4, 5] (fun s i wr => ∃ (j m : Nat) (A : Option Addr) (cc : Nat) (zs : List Chg), i = .int .i64 (j : Int) ∧ j ≤ n1 ∧ s = .slice A m cc ∧ m ≤ j ∧ Hid (inv (c.take j) = zs ∧ zs.length = m) ∧ Hid (Ow eC wr w1.heap.size A m cc zs) ∧ Hid (Below w1.heap.size w1 wr)) (fun _ i _ => n1 - (RowKit.intOf i).toNat)
    case atStart => exact ⟨0, 0, none, 0, [], rfl, Nat.zero_le _, rfl, Nat.le_refl _, hide ⟨rfl, rfl⟩, hide (Ow.nil_ _ _), hide (Below.refl _ _)⟩
    case round =>
      obtain ⟨j, m, A, cc, zs, rfl, hj, rfl, hmj, HZ, HO, HB⟩ := hrel
      by_cases hlt : j < n1
      · obtain ⟨bk, ok, x, rfl, hl, hk, hcx⟩ := HX0.out.atC hlt
        have KS := hide (fun (w' : World) (h : Below w1.heap.size w1 w') => show w'.cell? ⟨bk, ok + j * 5, none⟩ = some (.int .i64 x.k) ∧ w'.cell? ⟨bk, ok + j * 5 + 1, none⟩ = some (.int .i64 x.o) ∧ w'.cell? ⟨bk, ok + j * 5 + 2, none⟩ = some (.int .i64 x.n) ∧ w'.cell? ⟨bk, ok + j * 5 + 3, none⟩ = some (.bool x.h) ∧ w'.cell? ⟨bk, ok + j * 5 + 4, none⟩ = some (.bool x.s) by
          have ex : ∀ p : Addr, p.block < w1.heap.size → w'.cell? p = w1.cell? p := fun p hp => h.cell hp
          rw [ex ⟨bk, ok + j * 5, none⟩ hl, ex ⟨bk, ok + j * 5 + 1, none⟩ hl, ex ⟨bk, ok + j * 5 + 2, none⟩ hl, ex ⟨bk, ok + j * 5 + 3, none⟩ hl, ex ⟨bk, ok + j * 5 + 4, none⟩ hl]
          exact hcx)
        have d0 : decide ((j : Int) < (n1 : Int)) = true := decide_eq_true (by omega)
        have a1 : (0 : Int) ≤ (j : Int) := by omega
        have a2 : (j : Int) < (n1 : Int) := by omega
        have hne : (⟨x.n, x.s⟩ : Sd) ≠ ⟨x.o, x.h⟩ := fun e => (HON.out x (List.mem_of_getElem? hk)).2.2 e.symm
        have HZ2 := hide (show zs ++ (chO1 x.k ⟨x.n, x.s⟩ ⟨x.o, x.h⟩).toList = zs ++ [inv1 x] by unfold chO1; rw [if_neg hne]; rfl)
        have HZN := hide (show inv (c.take (j + 1)) = zs ++ [inv1 x] by rw [← HZ.out.1]; unfold inv; rw [take_next hk, List.map_append]; rfl)
        obtain rfl : zs.length = m := HZ.out.2
        have HLN := hide (show (zs ++ [inv1 x]).length = zs.length + 1 by rw [List.length_append]; rfl)
        generalize zs ++ [inv1 x] = zN at *
        have bb0 := HB.out
        clear hk hcx hne
        go_wp2_with fail
        go_region_held3 (fun w' => w'.cell? ⟨bk, ok + j * 5, none⟩ = some (.int .i64 x.k) ∧ w'.cell? ⟨bk, ok + j * 5 + 1, none⟩ = some (.int .i64 x.o) ∧ w'.cell? ⟨bk, ok + j * 5 + 2, none⟩ = some (.int .i64 x.n) ∧ w'.cell? ⟨bk, ok + j * 5 + 3, none⟩ = some (.bool x.h) ∧ w'.cell? ⟨bk, ok + j * 5 + 4, none⟩ = some (.bool x.s))
          (exact KS.out _ (by ((repeat (first | (with_reducible assumption) | (with_reducible exact Below.refl _ _) | (with_reducible refine Below.drewS ?_) | (with_reducible refine Below.allocS ?_ _) | (with_reducible refine belGr ?_ (by assumption)) | (with_reducible refine Below.next ?_ (by assumption)) | (with_reducible refine Below.trans ?_ (by assumption)))); (first | done | fail))))
          (first
            | (go_at_call 36; (with_reducible refine (rnew_any x _).mono ?_); rintro e u1 ⟨rfl, hg⟩)
            | (go_at_call 37; (with_reducible refine (rold_any x _).mono ?_); rintro e u2 ⟨rfl, hg2⟩)
            | (go_at_call 35; (with_reducible refine (change_any w1.heap.size cc A zs zN x.k ⟨x.n, x.s⟩ ⟨x.o, x.h⟩ _ (HO.out.keep (by ((repeat (first | (with_reducible assumption) | (with_reducible exact Below.refl _ _) | (with_reducible refine Below.drewS ?_) | (with_reducible refine Below.allocS ?_ _) | (with_reducible refine belGr ?_ (by assumption)) | (with_reducible refine Below.next ?_ (by assumption)) | (with_reducible refine Below.trans ?_ (by assumption)))); (first | done | fail)))) (Below.size (B := w1.heap.size) (w := w1) (by ((repeat (first | (with_reducible assumption) | (with_reducible exact Below.refl _ _) | (with_reducible refine Below.drewS ?_) | (with_reducible refine Below.allocS ?_ _) | (with_reducible refine belGr ?_ (by assumption)) | (with_reducible refine Below.next ?_ (by assumption)) | (with_reducible refine Below.trans ?_ (by assumption)))); (first | done | fail)))) (by omega) HZ2.out).mono ?_); rintro e u3 ⟨A4, c4, rfl, o4, b4⟩))
        all_goals
          have HO4 := hide o4
          have HB4 := hide (show Below w1.heap.size w1 u3 from Below.trans (by ((repeat (first | (with_reducible assumption) | (with_reducible exact Below.refl _ _) | (with_reducible refine Below.drewS ?_) | (with_reducible refine Below.allocS ?_ _) | (with_reducible refine belGr ?_ (by assumption)) | (with_reducible refine Below.next ?_ (by assumption)) | (with_reducible refine Below.trans ?_ (by assumption)))); (first | done | fail))) b4)
          clear o4 b4 hg hg2 bb0
          go_wp2_with fail
          go_roundw
          case rel => exact ⟨j + 1, zN.length, A4, c4, zN, by go_num, by omega, rfl, by rw [HLN.out]; omega, hide ⟨HZN.out, rfl⟩, HO4, HB4⟩
          case measure => simp [RowKit.intOf]; omega
      · obtain rfl : n1 = j := by omega
        have d0 : decide ((n1 : Int) < (n1 : Int)) = false := decide_eq_false (by omega)
        have hz : inv c = zs := by rw [← HZ.out.1, List.take_of_length_le (by rw [HX0.out.1]; exact Nat.le_refl _)]
        have hzl := HZ.out.2
        have HRR := hide (show invR c = (zs, 0) by rw [HR.out, hz])
        have HOZ := hide (HO.out.low B1.out.size)
        subst hzl
        clear hz
        go_wp2_with fail
        go_ret2
        unfold Giv
        rw [HRR.out]
        exact ⟨A, cc, rfl, HOZ.out, Below.next B1.out HB.out⟩
end Go.Proofs.Ytadmiecoahohiaa
