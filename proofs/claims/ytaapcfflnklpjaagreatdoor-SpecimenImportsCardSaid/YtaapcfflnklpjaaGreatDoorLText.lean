/- The text of a label: the program's and the reference's. -/
import Derived.Test.YtaapcfflnklpjaaGreatDoorLVal
import Derived.Test.YtaapcfflnklpjaaGreatDoorShelf
import Derived.Test.YtaapcfflnklpjaaGreatDoorYA
import Derived.WalkSmall
import Derived.Deep.RegionHeld3
namespace Go.Proofs.YtaapcfflnklpjaaGreatDoor
open Go Go.RowKit Go.Lib

theorem gPow : Tryz.prog.globalNamed "internal/strconv.uint64pow10" = some 5 := by kernel_rfl
theorem gSyn : Tryz.prog.globalNamed "strconv.ErrSyntax" = some 0 := by kernel_rfl
theorem gRng : Tryz.prog.globalNamed "strconv.ErrRange" = some 1 := by kernel_rfl
/-- what the row gives of a world: the library's variables -/
structure Lw (w : World) : Prop where
  tab : Lib.TabIs Tryz.prog w "internal/strconv.uint64pow10" .u64 Lib.pow10Tab
  syn : ∃ tp p, w.var? Tryz.prog "strconv.ErrSyntax" = some #[.iface tp p]
  rng : ∃ tp p, w.var? Tryz.prog "strconv.ErrRange" = some #[.iface tp p]
  big : ∃ m : Int, w.cell? ⟨2, 0, none⟩ = some (.int .i64 m)
theorem var_lt {w : World} {n : String} {g : Nat} {cs : Array Value} (hg : Tryz.prog.globalNamed n = some g) (h : w.var? Tryz.prog n = some cs) : g < w.heap.size := by
  unfold World.var? at h
  rw [hg] at h
  rcases Nat.lt_or_ge g w.heap.size with h1 | h1
  · exact h1
  · simp [Array.getElem?_eq_none h1] at h
theorem Lw.below {w w' : World} (h : Lw w) (hb : Below w.heap.size w w') : Lw w' := by
  obtain ⟨h1, ⟨t2, p2, h2⟩, ⟨t3, p3, h3⟩, m, h4⟩ := h
  exact ⟨var?_below hb gPow (var_lt gPow h1) h1, ⟨t2, p2, var?_below hb gSyn (var_lt gSyn h2) h2⟩, ⟨t3, p3, var?_below hb gRng (var_lt gRng h3) h3⟩, ⟨m, (hb.cell (p := ⟨2, 0, none⟩) (World.block_lt_of_cell? w ⟨2, 0, none⟩ h4)).trans h4⟩⟩
theorem grow_below (w : World) (k : Nat) (os : Array Obj) : Below w.heap.size w (Go.Sort.grow (w.drewN k) os) := by
  refine ⟨rfl, rfl, rfl, by simp [Go.Sort.grow], fun i hi => ?_⟩
  exact Go.Sort.heap_grow_old _ _ (by simpa using hi)
theorem Below.drewS {w W : World} (h : Below w.heap.size w W) : Below w.heap.size w W.drew := h.drew
theorem Below.allocS {w W : World} (h : Below w.heap.size w W) (o : Obj) : Below w.heap.size w (W.alloc o) := h.alloc h.size o
theorem Below.setS {w W : World} (h : Below w.heap.size w W) {g i : Nat} (hg : w.heap.size ≤ g) (v : Value) : Below w.heap.size w (W.setCell ⟨g, i, none⟩ v) := h.setCell hg v
theorem Below.next {w W W' : World} (h : Below w.heap.size w W) (hx : Below W.heap.size W W') : Below w.heap.size w W' := h.trans (hx.mono h.size)

def strB (l : List UInt8) : ByteArray := ⟨l.toArray⟩
theorem strB_size (l : List UInt8) : (strB l).size = l.length := by simp [strB, ByteArray.size]
theorem strB_app (l m : List UInt8) : strB l ++ strB m = strB (l ++ m) := by
  unfold strB
  apply ByteArray.ext
  simp
theorem asc_dec : ∀ (f u : Nat), u < f → Lib.decDigits u = (asc u).map UInt8.ofNat
  | 0, u, h => by omega
  | f + 1, u, h => by
    by_cases h10 : u < 10
    · rw [Lib.decDigits, dif_pos h10, asc_small h10]
      rfl
    · have ih := asc_dec f (u / 10) (by omega)
      rw [Lib.decDigits, dif_neg h10, ih]
      unfold asc
      rw [show Lib.nDigits u = Lib.nDigits (u / 10) + 1 from by rw [Lib.nDigits, dif_neg h10], dec_succ, List.map_append]
      rfl
theorem str_asc (u : Nat) : strN (asc u) = strB (Lib.decDigits u) := by
  rw [asc_dec (u + 1) u (by omega)]
  rfl
theorem dec_len4 : ∀ (f u : Nat), u < 10 ^ f → (Lib.decDigits u).length ≤ f + 1
  | 0, u, h => by
    have : u = 0 := by omega
    subst this
    rw [Lib.decDigits]
    simp
  | f + 1, u, h => by
    rw [Lib.decDigits]
    split
    · simp
    · have := dec_len4 f (u / 10) (by rw [Nat.pow_succ] at h; omega)
      simp only [List.length_append, List.length_cons, List.length_nil]
      omega
/-- the text of a label -/
def sideL (s : Int) : List UInt8 := if s = 0 then [79] else [82]
def stateL (t : Int) : List UInt8 := if t = 0 then [] else [UInt8.ofNat (96 + t.toNat)]
def labL (s n t : Int) : List UInt8 := sideL s ++ Lib.decDigits n.toNat ++ stateL t
def labT (s n t : Int) : ByteArray := if lB s n t then strB (labL s n t) else ⟨#[]⟩
/-- strconv.Itoa -/
theorem itoa_any (m : Nat) (w : World) (hT : Lw w) (hm : m ≤ 1000000) (S : ByteArray) (hS : strB (Lib.decDigits m) = S) :
    Calls Tryz.prog 40 #[.int .i64 (m : Int)] w fun e w' => e = .returned (.string S) ∧ Below w.heap.size w w' := by
  refine (Tryz.strconv_Itoa (m : Int) (by omega) (by omega) w hT.tab).mono ?_
  rintro e w' ⟨rfl, k, os, rfl⟩
  refine ⟨?_, grow_below _ _ _⟩
  have e : Lib.itoa (m : Int) = Lib.decDigits m := by unfold Lib.itoa; rw [if_neg (by omega)]; rfl
  rw [e, ← hS]; rfl
set_option maxHeartbeats 2000000 in
theorem decimal_any (m : Nat) (w : World) (h2 : m ≤ 9999) (S : ByteArray) (hS : strB (Lib.decDigits m) = S) :
    Calls Tryz.prog 105 #[.int .i64 (m : Int)] w fun e w' => e = .returned (.string S) ∧ Below w.heap.size w w' := by
  have hu : strN (asc m) = S := by rw [str_asc]; exact hS
  have HU := hide hu
  have hw : IntKind.u64.wrap (m : Int) = (m : Int) := by simp [IntKind.wrap, IntKind.bits, IntKind.signed]; omega
  have hl : (dig B9 m).length ≤ 1 := (dig_length_le B9 (by decide) 1 m).2 (by rw [Nat.pow_one]; show m < 1000000000; clear hw; omega)
  have HL := hide hl
  clear hS hu hl
  go_enter Tryz.func105, Tryz.ntmps105
  go_wp2_with fail
  refine (rof_any m _ (by omega)).mono ?_
  rintro e w1 ⟨A, n, c, rfl, hr, hn, hc, hb⟩
  have hln := hr.len
  go_wp2_with fail
  refine (rtext_g A n c _ _ hr hn hc (by have := HL.out; omega) (fun x hx => Nat.lt_trans (dig_lt B9 (by decide) m x hx) (by decide)) m (val_dig B9 (by decide) m) S HU.out).mono ?_
  rintro e w2 ⟨rfl, hb2⟩
  go_wp2_with fail
  go_ret
  exact ⟨rfl, hb.trans (hb2.mono hb.size)⟩
theorem state_cut (k : Nat) (hk : k ≤ 8) : (⟨#[97, 98, 99, 100, 101, 102, 103, 104, 105]⟩ : ByteArray).extract k (k + 1) = strB [UInt8.ofNat (97 + k)] := by
  match k, hk with
  | 0, _ => rfl
  | 1, _ => rfl
  | 2, _ => rfl
  | 3, _ => rfl
  | 4, _ => rfl
  | 5, _ => rfl
  | 6, _ => rfl
  | 7, _ => rfl
  | 8, _ => rfl
theorem add_run (X Y : ByteArray) (h : X.size + Y.size ≤ 5000) (W : World) : (Op.stringOp .add X Y).run Tryz.prog W = .ok (.string (X ++ Y)) W := by
  simp [Op.stringOp, go_sem]
  try omega
theorem ret_str {a b : ByteArray} (h : a = b) : Ending.returned (.string a) = .returned (.string b) := by rw [h]
theorem side_cut0 : (⟨#[79, 82]⟩ : ByteArray).extract 0 1 = strB [79] := rfl
theorem side_cut1 : (⟨#[79, 82]⟩ : ByteArray).extract 1 2 = strB [82] := rfl
section
variable {w W : World} {c0 : Array Value} {t0 : TypeId}
theorem boxC (hW : w.alloc (.cells c0 t0) = W) : Below w.heap.size w W ∧ Box W w.heap.size c0 t0 ∧ W.heap.size = w.heap.size + 1 := by
  subst hW
  exact ⟨(Below.refl _ _).alloc (Nat.le_refl _) _, Box.new _ _ _, by simp⟩
end
set_option maxHeartbeats 1000000 in
theorem text_no (s n t : Int) (w : World) (h : lB s n t = false) :
    Calls Tryz.prog 71 #[.agg #[.int .i64 s, .int .i64 n, .int .i64 t]] w fun e w' => e = .returned (.string ⟨#[]⟩) ∧ Below w.heap.size w w' := by
  have HV := hide h
  clear h
  go_enter Tryz.func71, Tryz.ntmps71
  go_wp2_with fail
  refine (valid_any s n t _ false HV.out).mono ?_
  rintro e w1 ⟨rfl, hb⟩
  go_wp2
  go_ret
  exact ⟨rfl, Below.trans ((Below.refl _ _).alloc (Nat.le_refl _) _) (hb.mono (by simp))⟩
set_option maxHeartbeats 4000000 in
theorem text_00 (m : Nat) (w : World) (hT : Lw w) (h1 : 1 ≤ m) (h2 : m ≤ 999) (S : ByteArray) (hS : strB ([79] ++ Lib.decDigits m) = S) :
    Calls Tryz.prog 71 #[.agg #[.int .i64 0, .int .i64 (m : Int), .int .i64 (0)]] w fun e w' => e = .returned (.string S) ∧ Below w.heap.size w w' := by
  have HV := hide (show lB 0 (m : Int) (0) = true from lB_true.2 ⟨by omega, by omega, by omega⟩)
  have HT := hide hT
  have HM := hide h2
  have HN := hide (show (strB (Lib.decDigits m)).size ≤ 4 from by rw [strB_size]; exact dec_len4 3 m (by omega))
  obtain ⟨N, hN⟩ : ∃ N, strB (Lib.decDigits m) = N := ⟨_, rfl⟩
  have HND := hide hN
  rw [hN] at HN
  have HS := hide (show strB [79] ++ N = S from by rw [← hN, strB_app]; exact hS)
  have A1 := fun (W : World) => add_run ((⟨#[79, 82]⟩ : ByteArray).extract 0 1) N (by have := HN.out; have h3 : ((⟨#[79, 82]⟩ : ByteArray).extract 0 1).size = 1 := rfl; omega) W
  have A2 := fun (W : World) => add_run (⟨#[79]⟩ : ByteArray) N (by have := HN.out; have h3 : (⟨#[79]⟩ : ByteArray).size = 1 := rfl; omega) W
  have W1 : IntKind.i64.wrap (0 + 1) = 1 := by decide
  have W2 : IntKind.i64.wrap 1 = 1 := by decide
  have Z1 : (⟨#[79, 82]⟩ : ByteArray).size = 2 := rfl
  clear hT h1 hS hN
  go_enter Tryz.func71, Tryz.ntmps71
  go_wp2_with fail
  generalize hW : w.alloc _ = W
  obtain ⟨B, bx, -⟩ := boxC hW
  clear hW
  refine (valid_any 0 (m : Int) (0) _ true HV.out).mono ?_
  rintro e w1 ⟨rfl, hb⟩
  have B := B.trans (hb.mono B.size)
  have bx := bx.below' hb
  clear hb
  have lx := bx.lt
  have KS : Hid (∀ w', Below w1.heap.size w1 w' → w'.cell? ⟨w.heap.size, 0, none⟩ = some (.int .i64 0) ∧ w'.cell? ⟨w.heap.size, 1, none⟩ = some (.int .i64 (m : Int)) ∧ w'.cell? ⟨w.heap.size, 2, none⟩ = some (.int .i64 (0))) := fun w' h => ⟨(bx.below h lx).at_ 0, (bx.below h lx).at_ 1, (bx.below h lx).at_ 2⟩
  have KT : Hid (∀ w', Below w1.heap.size w1 w' → Lw w') := fun w' h => HT.out.below (B.trans (h.mono B.size))
  obtain ⟨k0, k1, k2⟩ := KS.out _ (Below.refl _ _)
  go_wp2_with fail
  go_region_held3 (fun w' => w'.cell? ⟨w.heap.size, 0, none⟩ = some (.int .i64 0) ∧ w'.cell? ⟨w.heap.size, 1, none⟩ = some (.int .i64 (m : Int)) ∧ w'.cell? ⟨w.heap.size, 2, none⟩ = some (.int .i64 (0)))
    (exact KS.out _ (by ((repeat (first | (with_reducible assumption) | (with_reducible exact Below.refl _ _) | (with_reducible refine Below.drewS ?_) | (with_reducible refine Below.allocS ?_ _) | (with_reducible refine Below.setS ?_ (by first | omega | (simp; omega)) _))); (first | done | fail))))
    (first
      | (go_at_call 40; (with_reducible refine (itoa_any m _ (KT.out _ (by ((repeat (first | (with_reducible assumption) | (with_reducible exact Below.refl _ _) | (with_reducible refine Below.drewS ?_) | (with_reducible refine Below.allocS ?_ _) | (with_reducible refine Below.setS ?_ (by first | omega | (simp; omega)) _))); (first | done | fail)))) (by have := HM.out; omega) N HND.out).mono ?_); rintro e w2 ⟨rfl, hb2⟩; have E2 : Below w1.heap.size w1 w2 := Below.next (by ((repeat (first | (with_reducible assumption) | (with_reducible exact Below.refl _ _) | (with_reducible refine Below.drewS ?_) | (with_reducible refine Below.allocS ?_ _) | (with_reducible refine Below.setS ?_ (by first | omega | (simp; omega)) _))); (first | done | fail))) hb2))
  all_goals
    have B := B.trans (E2.mono B.size)
    obtain ⟨q0, q1, q2⟩ := KS.out _ E2
    clear KS KT k0 k1 k2 hb2
    rw [side_cut0]
    clear A1 A2
    go_wp2_with fail
    go_ret
    exact ⟨ret_str HS.out, B⟩
set_option maxHeartbeats 4000000 in
theorem text_01 (m k : Nat) (w : World) (hT : Lw w) (h1 : 1 ≤ m) (h2 : m ≤ 999) (hk : k ≤ 8) (S : ByteArray) (hS : strB ([79] ++ Lib.decDigits m ++ [UInt8.ofNat (97 + k)]) = S) :
    Calls Tryz.prog 71 #[.agg #[.int .i64 0, .int .i64 (m : Int), .int .i64 ((k : Int) + 1)]] w fun e w' => e = .returned (.string S) ∧ Below w.heap.size w w' := by
  have HV := hide (show lB 0 (m : Int) ((k : Int) + 1) = true from lB_true.2 ⟨by omega, by omega, by omega⟩)
  have HT := hide hT
  have HM := hide h2
  have HN := hide (show (strB (Lib.decDigits m)).size ≤ 4 from by rw [strB_size]; exact dec_len4 3 m (by omega))
  obtain ⟨N, hN⟩ : ∃ N, strB (Lib.decDigits m) = N := ⟨_, rfl⟩
  have HND := hide hN
  rw [hN] at HN
  have HS := hide (show strB [79] ++ N ++ strB [UInt8.ofNat (97 + k)] = S from by rw [← hN, strB_app, strB_app]; exact hS)
  have A1 := fun (W : World) => add_run ((⟨#[79, 82]⟩ : ByteArray).extract 0 1) N (by have := HN.out; have h3 : ((⟨#[79, 82]⟩ : ByteArray).extract 0 1).size = 1 := rfl; omega) W
  have A2 := fun (W : World) => add_run (⟨#[79]⟩ : ByteArray) N (by have := HN.out; have h3 : (⟨#[79]⟩ : ByteArray).size = 1 := rfl; omega) W
  have W1 : IntKind.i64.wrap (0 + 1) = 1 := by decide
  have W2 : IntKind.i64.wrap 1 = 1 := by decide
  have Z1 : (⟨#[79, 82]⟩ : ByteArray).size = 2 := rfl
  clear hT h1 hS hN
  have HK := hide hk
  have t0 : ((k : Int) + 1 == 0) = false := beq_eq_false_iff_ne.2 (by omega)
  have t1 : decide (0 < (k : Int) + 1) = true := decide_eq_true (by omega)
  have t2 : (k : Int) + 1 - 1 = (k : Int) := by omega
  have t3 : (k : Int) ≤ (k : Int) + 1 := by omega
  go_enter Tryz.func71, Tryz.ntmps71
  go_wp2_with fail
  generalize hW : w.alloc _ = W
  obtain ⟨B, bx, -⟩ := boxC hW
  clear hW
  refine (valid_any 0 (m : Int) ((k : Int) + 1) _ true HV.out).mono ?_
  rintro e w1 ⟨rfl, hb⟩
  have B := B.trans (hb.mono B.size)
  have bx := bx.below' hb
  clear hb
  have lx := bx.lt
  have KS : Hid (∀ w', Below w1.heap.size w1 w' → w'.cell? ⟨w.heap.size, 0, none⟩ = some (.int .i64 0) ∧ w'.cell? ⟨w.heap.size, 1, none⟩ = some (.int .i64 (m : Int)) ∧ w'.cell? ⟨w.heap.size, 2, none⟩ = some (.int .i64 ((k : Int) + 1))) := fun w' h => ⟨(bx.below h lx).at_ 0, (bx.below h lx).at_ 1, (bx.below h lx).at_ 2⟩
  have KT : Hid (∀ w', Below w1.heap.size w1 w' → Lw w') := fun w' h => HT.out.below (B.trans (h.mono B.size))
  obtain ⟨k0, k1, k2⟩ := KS.out _ (Below.refl _ _)
  go_wp2_with fail
  go_region_held3 (fun w' => w'.cell? ⟨w.heap.size, 0, none⟩ = some (.int .i64 0) ∧ w'.cell? ⟨w.heap.size, 1, none⟩ = some (.int .i64 (m : Int)) ∧ w'.cell? ⟨w.heap.size, 2, none⟩ = some (.int .i64 ((k : Int) + 1)))
    (exact KS.out _ (by ((repeat (first | (with_reducible assumption) | (with_reducible exact Below.refl _ _) | (with_reducible refine Below.drewS ?_) | (with_reducible refine Below.allocS ?_ _) | (with_reducible refine Below.setS ?_ (by first | omega | (simp; omega)) _))); (first | done | fail))))
    (first
      | (go_at_call 40; (with_reducible refine (itoa_any m _ (KT.out _ (by ((repeat (first | (with_reducible assumption) | (with_reducible exact Below.refl _ _) | (with_reducible refine Below.drewS ?_) | (with_reducible refine Below.allocS ?_ _) | (with_reducible refine Below.setS ?_ (by first | omega | (simp; omega)) _))); (first | done | fail)))) (by have := HM.out; omega) N HND.out).mono ?_); rintro e w2 ⟨rfl, hb2⟩; have E2 : Below w1.heap.size w1 w2 := Below.next (by ((repeat (first | (with_reducible assumption) | (with_reducible exact Below.refl _ _) | (with_reducible refine Below.drewS ?_) | (with_reducible refine Below.allocS ?_ _) | (with_reducible refine Below.setS ?_ (by first | omega | (simp; omega)) _))); (first | done | fail))) hb2))
  all_goals
    have B := B.trans (E2.mono B.size)
    obtain ⟨q0, q1, q2⟩ := KS.out _ E2
    clear KS KT k0 k1 k2 hb2
    rw [side_cut0]
    obtain ⟨P, hP⟩ : ∃ P, strB [79] ++ N = P := ⟨_, rfl⟩
    have HP := hide (show P ++ strB [UInt8.ofNat (97 + k)] = S from by rw [← hP]; exact HS.out)
    have hz : P.size ≤ 5 := by rw [← hP, ByteArray.size_append]; have := HN.out; have h3 : (strB [79]).size = 1 := rfl; omega
    rw [hP]
    have A3 := fun (W : World) => add_run P ((⟨#[97, 98, 99, 100, 101, 102, 103, 104, 105]⟩ : ByteArray).extract k (k + 1)) (by rw [state_cut k HK.out, strB_size]; simp; omega) W
    have t4 : k ≤ 8 := HK.out
    have t5 : (k : Int) + 1 ≤ 9 := by omega
    have Z9 : (⟨#[97, 98, 99, 100, 101, 102, 103, 104, 105]⟩ : ByteArray).size = 9 := rfl
    have HSC := hide (state_cut k HK.out)
    clear hP A1 A2
    go_wp2_with fail
    go_ret
    exact ⟨ret_str (by rw [HSC.out]; exact HP.out), B⟩
set_option maxHeartbeats 4000000 in
theorem text_10 (m : Nat) (w : World) (hT : Lw w) (h1 : 1 ≤ m) (h2 : m ≤ 999) (S : ByteArray) (hS : strB ([82] ++ Lib.decDigits m) = S) :
    Calls Tryz.prog 71 #[.agg #[.int .i64 1, .int .i64 (m : Int), .int .i64 (0)]] w fun e w' => e = .returned (.string S) ∧ Below w.heap.size w w' := by
  have HV := hide (show lB 1 (m : Int) (0) = true from lB_true.2 ⟨by omega, by omega, by omega⟩)
  have HT := hide hT
  have HM := hide h2
  have HN := hide (show (strB (Lib.decDigits m)).size ≤ 4 from by rw [strB_size]; exact dec_len4 3 m (by omega))
  obtain ⟨N, hN⟩ : ∃ N, strB (Lib.decDigits m) = N := ⟨_, rfl⟩
  have HND := hide hN
  rw [hN] at HN
  have HS := hide (show strB [82] ++ N = S from by rw [← hN, strB_app]; exact hS)
  have A1 := fun (W : World) => add_run ((⟨#[79, 82]⟩ : ByteArray).extract 1 2) N (by have := HN.out; have h3 : ((⟨#[79, 82]⟩ : ByteArray).extract 1 2).size = 1 := rfl; omega) W
  have A2 := fun (W : World) => add_run (⟨#[82]⟩ : ByteArray) N (by have := HN.out; have h3 : (⟨#[82]⟩ : ByteArray).size = 1 := rfl; omega) W
  have W1 : IntKind.i64.wrap (1 + 1) = 2 := by decide
  have W2 : IntKind.i64.wrap 2 = 2 := by decide
  have Z1 : (⟨#[79, 82]⟩ : ByteArray).size = 2 := rfl
  clear hT h1 hS hN
  go_enter Tryz.func71, Tryz.ntmps71
  go_wp2_with fail
  generalize hW : w.alloc _ = W
  obtain ⟨B, bx, -⟩ := boxC hW
  clear hW
  refine (valid_any 1 (m : Int) (0) _ true HV.out).mono ?_
  rintro e w1 ⟨rfl, hb⟩
  have B := B.trans (hb.mono B.size)
  have bx := bx.below' hb
  clear hb
  have lx := bx.lt
  have KS : Hid (∀ w', Below w1.heap.size w1 w' → w'.cell? ⟨w.heap.size, 0, none⟩ = some (.int .i64 1) ∧ w'.cell? ⟨w.heap.size, 1, none⟩ = some (.int .i64 (m : Int)) ∧ w'.cell? ⟨w.heap.size, 2, none⟩ = some (.int .i64 (0))) := fun w' h => ⟨(bx.below h lx).at_ 0, (bx.below h lx).at_ 1, (bx.below h lx).at_ 2⟩
  have KT : Hid (∀ w', Below w1.heap.size w1 w' → Lw w') := fun w' h => HT.out.below (B.trans (h.mono B.size))
  obtain ⟨k0, k1, k2⟩ := KS.out _ (Below.refl _ _)
  go_wp2_with fail
  go_region_held3 (fun w' => w'.cell? ⟨w.heap.size, 0, none⟩ = some (.int .i64 1) ∧ w'.cell? ⟨w.heap.size, 1, none⟩ = some (.int .i64 (m : Int)) ∧ w'.cell? ⟨w.heap.size, 2, none⟩ = some (.int .i64 (0)))
    (exact KS.out _ (by ((repeat (first | (with_reducible assumption) | (with_reducible exact Below.refl _ _) | (with_reducible refine Below.drewS ?_) | (with_reducible refine Below.allocS ?_ _) | (with_reducible refine Below.setS ?_ (by first | omega | (simp; omega)) _))); (first | done | fail))))
    (first
      | (go_at_call 40; (with_reducible refine (itoa_any m _ (KT.out _ (by ((repeat (first | (with_reducible assumption) | (with_reducible exact Below.refl _ _) | (with_reducible refine Below.drewS ?_) | (with_reducible refine Below.allocS ?_ _) | (with_reducible refine Below.setS ?_ (by first | omega | (simp; omega)) _))); (first | done | fail)))) (by have := HM.out; omega) N HND.out).mono ?_); rintro e w2 ⟨rfl, hb2⟩; have E2 : Below w1.heap.size w1 w2 := Below.next (by ((repeat (first | (with_reducible assumption) | (with_reducible exact Below.refl _ _) | (with_reducible refine Below.drewS ?_) | (with_reducible refine Below.allocS ?_ _) | (with_reducible refine Below.setS ?_ (by first | omega | (simp; omega)) _))); (first | done | fail))) hb2))
  all_goals
    have B := B.trans (E2.mono B.size)
    obtain ⟨q0, q1, q2⟩ := KS.out _ E2
    clear KS KT k0 k1 k2 hb2
    rw [side_cut1]
    clear A1 A2
    go_wp2_with fail
    go_ret
    exact ⟨ret_str HS.out, B⟩
set_option maxHeartbeats 4000000 in
theorem text_11 (m k : Nat) (w : World) (hT : Lw w) (h1 : 1 ≤ m) (h2 : m ≤ 999) (hk : k ≤ 8) (S : ByteArray) (hS : strB ([82] ++ Lib.decDigits m ++ [UInt8.ofNat (97 + k)]) = S) :
    Calls Tryz.prog 71 #[.agg #[.int .i64 1, .int .i64 (m : Int), .int .i64 ((k : Int) + 1)]] w fun e w' => e = .returned (.string S) ∧ Below w.heap.size w w' := by
  have HV := hide (show lB 1 (m : Int) ((k : Int) + 1) = true from lB_true.2 ⟨by omega, by omega, by omega⟩)
  have HT := hide hT
  have HM := hide h2
  have HN := hide (show (strB (Lib.decDigits m)).size ≤ 4 from by rw [strB_size]; exact dec_len4 3 m (by omega))
  obtain ⟨N, hN⟩ : ∃ N, strB (Lib.decDigits m) = N := ⟨_, rfl⟩
  have HND := hide hN
  rw [hN] at HN
  have HS := hide (show strB [82] ++ N ++ strB [UInt8.ofNat (97 + k)] = S from by rw [← hN, strB_app, strB_app]; exact hS)
  have A1 := fun (W : World) => add_run ((⟨#[79, 82]⟩ : ByteArray).extract 1 2) N (by have := HN.out; have h3 : ((⟨#[79, 82]⟩ : ByteArray).extract 1 2).size = 1 := rfl; omega) W
  have A2 := fun (W : World) => add_run (⟨#[82]⟩ : ByteArray) N (by have := HN.out; have h3 : (⟨#[82]⟩ : ByteArray).size = 1 := rfl; omega) W
  have W1 : IntKind.i64.wrap (1 + 1) = 2 := by decide
  have W2 : IntKind.i64.wrap 2 = 2 := by decide
  have Z1 : (⟨#[79, 82]⟩ : ByteArray).size = 2 := rfl
  clear hT h1 hS hN
  have HK := hide hk
  have t0 : ((k : Int) + 1 == 0) = false := beq_eq_false_iff_ne.2 (by omega)
  have t1 : decide (0 < (k : Int) + 1) = true := decide_eq_true (by omega)
  have t2 : (k : Int) + 1 - 1 = (k : Int) := by omega
  have t3 : (k : Int) ≤ (k : Int) + 1 := by omega
  go_enter Tryz.func71, Tryz.ntmps71
  go_wp2_with fail
  generalize hW : w.alloc _ = W
  obtain ⟨B, bx, -⟩ := boxC hW
  clear hW
  refine (valid_any 1 (m : Int) ((k : Int) + 1) _ true HV.out).mono ?_
  rintro e w1 ⟨rfl, hb⟩
  have B := B.trans (hb.mono B.size)
  have bx := bx.below' hb
  clear hb
  have lx := bx.lt
  have KS : Hid (∀ w', Below w1.heap.size w1 w' → w'.cell? ⟨w.heap.size, 0, none⟩ = some (.int .i64 1) ∧ w'.cell? ⟨w.heap.size, 1, none⟩ = some (.int .i64 (m : Int)) ∧ w'.cell? ⟨w.heap.size, 2, none⟩ = some (.int .i64 ((k : Int) + 1))) := fun w' h => ⟨(bx.below h lx).at_ 0, (bx.below h lx).at_ 1, (bx.below h lx).at_ 2⟩
  have KT : Hid (∀ w', Below w1.heap.size w1 w' → Lw w') := fun w' h => HT.out.below (B.trans (h.mono B.size))
  obtain ⟨k0, k1, k2⟩ := KS.out _ (Below.refl _ _)
  go_wp2_with fail
  go_region_held3 (fun w' => w'.cell? ⟨w.heap.size, 0, none⟩ = some (.int .i64 1) ∧ w'.cell? ⟨w.heap.size, 1, none⟩ = some (.int .i64 (m : Int)) ∧ w'.cell? ⟨w.heap.size, 2, none⟩ = some (.int .i64 ((k : Int) + 1)))
    (exact KS.out _ (by ((repeat (first | (with_reducible assumption) | (with_reducible exact Below.refl _ _) | (with_reducible refine Below.drewS ?_) | (with_reducible refine Below.allocS ?_ _) | (with_reducible refine Below.setS ?_ (by first | omega | (simp; omega)) _))); (first | done | fail))))
    (first
      | (go_at_call 40; (with_reducible refine (itoa_any m _ (KT.out _ (by ((repeat (first | (with_reducible assumption) | (with_reducible exact Below.refl _ _) | (with_reducible refine Below.drewS ?_) | (with_reducible refine Below.allocS ?_ _) | (with_reducible refine Below.setS ?_ (by first | omega | (simp; omega)) _))); (first | done | fail)))) (by have := HM.out; omega) N HND.out).mono ?_); rintro e w2 ⟨rfl, hb2⟩; have E2 : Below w1.heap.size w1 w2 := Below.next (by ((repeat (first | (with_reducible assumption) | (with_reducible exact Below.refl _ _) | (with_reducible refine Below.drewS ?_) | (with_reducible refine Below.allocS ?_ _) | (with_reducible refine Below.setS ?_ (by first | omega | (simp; omega)) _))); (first | done | fail))) hb2))
  all_goals
    have B := B.trans (E2.mono B.size)
    obtain ⟨q0, q1, q2⟩ := KS.out _ E2
    clear KS KT k0 k1 k2 hb2
    rw [side_cut1]
    obtain ⟨P, hP⟩ : ∃ P, strB [82] ++ N = P := ⟨_, rfl⟩
    have HP := hide (show P ++ strB [UInt8.ofNat (97 + k)] = S from by rw [← hP]; exact HS.out)
    have hz : P.size ≤ 5 := by rw [← hP, ByteArray.size_append]; have := HN.out; have h3 : (strB [82]).size = 1 := rfl; omega
    rw [hP]
    have A3 := fun (W : World) => add_run P ((⟨#[97, 98, 99, 100, 101, 102, 103, 104, 105]⟩ : ByteArray).extract k (k + 1)) (by rw [state_cut k HK.out, strB_size]; simp; omega) W
    have t4 : k ≤ 8 := HK.out
    have t5 : (k : Int) + 1 ≤ 9 := by omega
    have Z9 : (⟨#[97, 98, 99, 100, 101, 102, 103, 104, 105]⟩ : ByteArray).size = 9 := rfl
    have HSC := hide (state_cut k HK.out)
    clear hP A1 A2
    go_wp2_with fail
    go_ret
    exact ⟨ret_str (by rw [HSC.out]; exact HP.out), B⟩
set_option maxHeartbeats 1000000 in
theorem rtext5_no (s n t : Int) (w : World) (h : lB s n t = false) :
    Calls Tryz.prog 78 #[.agg #[.int .i64 s, .int .i64 n, .int .i64 t]] w fun e w' => e = .returned (.string ⟨#[]⟩) ∧ Below w.heap.size w w' := by
  have HV := hide h
  clear h
  go_enter Tryz.func78, Tryz.ntmps78
  go_wp2_with fail
  refine (rvalid_any s n t _ false HV.out).mono ?_
  rintro e w1 ⟨rfl, hb⟩
  go_wp2
  go_ret
  exact ⟨rfl, Below.trans ((Below.refl _ _).alloc (Nat.le_refl _) _) (hb.mono (by simp))⟩
set_option maxHeartbeats 4000000 in
theorem rtext5_00 (m : Nat) (w : World) (hT : Lw w) (h1 : 1 ≤ m) (h2 : m ≤ 999) (S : ByteArray) (hS : strB ([79] ++ Lib.decDigits m) = S) :
    Calls Tryz.prog 78 #[.agg #[.int .i64 0, .int .i64 (m : Int), .int .i64 (0)]] w fun e w' => e = .returned (.string S) ∧ Below w.heap.size w w' := by
  have HV := hide (show lB 0 (m : Int) (0) = true from lB_true.2 ⟨by omega, by omega, by omega⟩)
  have HT := hide hT
  have HM := hide h2
  have HN := hide (show (strB (Lib.decDigits m)).size ≤ 4 from by rw [strB_size]; exact dec_len4 3 m (by omega))
  obtain ⟨N, hN⟩ : ∃ N, strB (Lib.decDigits m) = N := ⟨_, rfl⟩
  have HND := hide hN
  rw [hN] at HN
  have HS := hide (show strB [79] ++ N = S from by rw [← hN, strB_app]; exact hS)
  have A1 := fun (W : World) => add_run ((⟨#[79, 82]⟩ : ByteArray).extract 0 1) N (by have := HN.out; have h3 : ((⟨#[79, 82]⟩ : ByteArray).extract 0 1).size = 1 := rfl; omega) W
  have A2 := fun (W : World) => add_run (⟨#[79]⟩ : ByteArray) N (by have := HN.out; have h3 : (⟨#[79]⟩ : ByteArray).size = 1 := rfl; omega) W
  have W1 : IntKind.i64.wrap (0 + 1) = 1 := by decide
  have W2 : IntKind.i64.wrap 1 = 1 := by decide
  have Z1 : (⟨#[79, 82]⟩ : ByteArray).size = 2 := rfl
  clear hT h1 hS hN
  go_enter Tryz.func78, Tryz.ntmps78
  go_wp2_with fail
  generalize hW : w.alloc _ = W
  obtain ⟨B, bx, -⟩ := boxC hW
  clear hW
  refine (rvalid_any 0 (m : Int) (0) _ true HV.out).mono ?_
  rintro e w1 ⟨rfl, hb⟩
  have B := B.trans (hb.mono B.size)
  have bx := bx.below' hb
  clear hb
  have lx := bx.lt
  have KS : Hid (∀ w', Below w1.heap.size w1 w' → w'.cell? ⟨w.heap.size, 0, none⟩ = some (.int .i64 0) ∧ w'.cell? ⟨w.heap.size, 1, none⟩ = some (.int .i64 (m : Int)) ∧ w'.cell? ⟨w.heap.size, 2, none⟩ = some (.int .i64 (0))) := fun w' h => ⟨(bx.below h lx).at_ 0, (bx.below h lx).at_ 1, (bx.below h lx).at_ 2⟩
  have KT : Hid (∀ w', Below w1.heap.size w1 w' → Lw w') := fun w' h => HT.out.below (B.trans (h.mono B.size))
  obtain ⟨k0, k1, k2⟩ := KS.out _ (Below.refl _ _)
  go_wp2_with fail
  go_region_held3 (fun w' => w'.cell? ⟨w.heap.size, 0, none⟩ = some (.int .i64 0) ∧ w'.cell? ⟨w.heap.size, 1, none⟩ = some (.int .i64 (m : Int)) ∧ w'.cell? ⟨w.heap.size, 2, none⟩ = some (.int .i64 (0)))
    (exact KS.out _ (by ((repeat (first | (with_reducible assumption) | (with_reducible exact Below.refl _ _) | (with_reducible refine Below.drewS ?_) | (with_reducible refine Below.allocS ?_ _) | (with_reducible refine Below.setS ?_ (by first | omega | (simp; omega)) _))); (first | done | fail))))
    (first
      | (go_at_call 105; (with_reducible refine (decimal_any m _ (by have := HM.out; omega) N HND.out).mono ?_); rintro e w2 ⟨rfl, hb2⟩; have E2 : Below w1.heap.size w1 w2 := Below.next (by ((repeat (first | (with_reducible assumption) | (with_reducible exact Below.refl _ _) | (with_reducible refine Below.drewS ?_) | (with_reducible refine Below.allocS ?_ _) | (with_reducible refine Below.setS ?_ (by first | omega | (simp; omega)) _))); (first | done | fail))) hb2))
  all_goals
    have B := B.trans (E2.mono B.size)
    obtain ⟨q0, q1, q2⟩ := KS.out _ E2
    clear KS KT k0 k1 k2 hb2
    rw [side_cut0]
    clear A1 A2
    go_wp2_with fail
    go_ret
    exact ⟨ret_str HS.out, B⟩
set_option maxHeartbeats 4000000 in
theorem rtext5_01 (m k : Nat) (w : World) (hT : Lw w) (h1 : 1 ≤ m) (h2 : m ≤ 999) (hk : k ≤ 8) (S : ByteArray) (hS : strB ([79] ++ Lib.decDigits m ++ [UInt8.ofNat (97 + k)]) = S) :
    Calls Tryz.prog 78 #[.agg #[.int .i64 0, .int .i64 (m : Int), .int .i64 ((k : Int) + 1)]] w fun e w' => e = .returned (.string S) ∧ Below w.heap.size w w' := by
  have HV := hide (show lB 0 (m : Int) ((k : Int) + 1) = true from lB_true.2 ⟨by omega, by omega, by omega⟩)
  have HT := hide hT
  have HM := hide h2
  have HN := hide (show (strB (Lib.decDigits m)).size ≤ 4 from by rw [strB_size]; exact dec_len4 3 m (by omega))
  obtain ⟨N, hN⟩ : ∃ N, strB (Lib.decDigits m) = N := ⟨_, rfl⟩
  have HND := hide hN
  rw [hN] at HN
  have HS := hide (show strB [79] ++ N ++ strB [UInt8.ofNat (97 + k)] = S from by rw [← hN, strB_app, strB_app]; exact hS)
  have A1 := fun (W : World) => add_run ((⟨#[79, 82]⟩ : ByteArray).extract 0 1) N (by have := HN.out; have h3 : ((⟨#[79, 82]⟩ : ByteArray).extract 0 1).size = 1 := rfl; omega) W
  have A2 := fun (W : World) => add_run (⟨#[79]⟩ : ByteArray) N (by have := HN.out; have h3 : (⟨#[79]⟩ : ByteArray).size = 1 := rfl; omega) W
  have W1 : IntKind.i64.wrap (0 + 1) = 1 := by decide
  have W2 : IntKind.i64.wrap 1 = 1 := by decide
  have Z1 : (⟨#[79, 82]⟩ : ByteArray).size = 2 := rfl
  clear hT h1 hS hN
  have HK := hide hk
  have t0 : ((k : Int) + 1 == 0) = false := beq_eq_false_iff_ne.2 (by omega)
  have t1 : decide (0 < (k : Int) + 1) = true := decide_eq_true (by omega)
  have t2 : (k : Int) + 1 - 1 = (k : Int) := by omega
  have t3 : (k : Int) ≤ (k : Int) + 1 := by omega
  go_enter Tryz.func78, Tryz.ntmps78
  go_wp2_with fail
  generalize hW : w.alloc _ = W
  obtain ⟨B, bx, -⟩ := boxC hW
  clear hW
  refine (rvalid_any 0 (m : Int) ((k : Int) + 1) _ true HV.out).mono ?_
  rintro e w1 ⟨rfl, hb⟩
  have B := B.trans (hb.mono B.size)
  have bx := bx.below' hb
  clear hb
  have lx := bx.lt
  have KS : Hid (∀ w', Below w1.heap.size w1 w' → w'.cell? ⟨w.heap.size, 0, none⟩ = some (.int .i64 0) ∧ w'.cell? ⟨w.heap.size, 1, none⟩ = some (.int .i64 (m : Int)) ∧ w'.cell? ⟨w.heap.size, 2, none⟩ = some (.int .i64 ((k : Int) + 1))) := fun w' h => ⟨(bx.below h lx).at_ 0, (bx.below h lx).at_ 1, (bx.below h lx).at_ 2⟩
  have KT : Hid (∀ w', Below w1.heap.size w1 w' → Lw w') := fun w' h => HT.out.below (B.trans (h.mono B.size))
  obtain ⟨k0, k1, k2⟩ := KS.out _ (Below.refl _ _)
  go_wp2_with fail
  go_region_held3 (fun w' => w'.cell? ⟨w.heap.size, 0, none⟩ = some (.int .i64 0) ∧ w'.cell? ⟨w.heap.size, 1, none⟩ = some (.int .i64 (m : Int)) ∧ w'.cell? ⟨w.heap.size, 2, none⟩ = some (.int .i64 ((k : Int) + 1)))
    (exact KS.out _ (by ((repeat (first | (with_reducible assumption) | (with_reducible exact Below.refl _ _) | (with_reducible refine Below.drewS ?_) | (with_reducible refine Below.allocS ?_ _) | (with_reducible refine Below.setS ?_ (by first | omega | (simp; omega)) _))); (first | done | fail))))
    (first
      | (go_at_call 105; (with_reducible refine (decimal_any m _ (by have := HM.out; omega) N HND.out).mono ?_); rintro e w2 ⟨rfl, hb2⟩; have E2 : Below w1.heap.size w1 w2 := Below.next (by ((repeat (first | (with_reducible assumption) | (with_reducible exact Below.refl _ _) | (with_reducible refine Below.drewS ?_) | (with_reducible refine Below.allocS ?_ _) | (with_reducible refine Below.setS ?_ (by first | omega | (simp; omega)) _))); (first | done | fail))) hb2))
  all_goals
    have B := B.trans (E2.mono B.size)
    obtain ⟨q0, q1, q2⟩ := KS.out _ E2
    clear KS KT k0 k1 k2 hb2
    rw [side_cut0]
    obtain ⟨P, hP⟩ : ∃ P, strB [79] ++ N = P := ⟨_, rfl⟩
    have HP := hide (show P ++ strB [UInt8.ofNat (97 + k)] = S from by rw [← hP]; exact HS.out)
    have hz : P.size ≤ 5 := by rw [← hP, ByteArray.size_append]; have := HN.out; have h3 : (strB [79]).size = 1 := rfl; omega
    rw [hP]
    have A3 := fun (W : World) => add_run P ((⟨#[97, 98, 99, 100, 101, 102, 103, 104, 105]⟩ : ByteArray).extract k (k + 1)) (by rw [state_cut k HK.out, strB_size]; simp; omega) W
    have t4 : k ≤ 8 := HK.out
    have t5 : (k : Int) + 1 ≤ 9 := by omega
    have Z9 : (⟨#[97, 98, 99, 100, 101, 102, 103, 104, 105]⟩ : ByteArray).size = 9 := rfl
    have HSC := hide (state_cut k HK.out)
    clear hP A1 A2
    go_wp2_with fail
    go_ret
    exact ⟨ret_str (by rw [HSC.out]; exact HP.out), B⟩
set_option maxHeartbeats 4000000 in
theorem rtext5_10 (m : Nat) (w : World) (hT : Lw w) (h1 : 1 ≤ m) (h2 : m ≤ 999) (S : ByteArray) (hS : strB ([82] ++ Lib.decDigits m) = S) :
    Calls Tryz.prog 78 #[.agg #[.int .i64 1, .int .i64 (m : Int), .int .i64 (0)]] w fun e w' => e = .returned (.string S) ∧ Below w.heap.size w w' := by
  have HV := hide (show lB 1 (m : Int) (0) = true from lB_true.2 ⟨by omega, by omega, by omega⟩)
  have HT := hide hT
  have HM := hide h2
  have HN := hide (show (strB (Lib.decDigits m)).size ≤ 4 from by rw [strB_size]; exact dec_len4 3 m (by omega))
  obtain ⟨N, hN⟩ : ∃ N, strB (Lib.decDigits m) = N := ⟨_, rfl⟩
  have HND := hide hN
  rw [hN] at HN
  have HS := hide (show strB [82] ++ N = S from by rw [← hN, strB_app]; exact hS)
  have A1 := fun (W : World) => add_run ((⟨#[79, 82]⟩ : ByteArray).extract 1 2) N (by have := HN.out; have h3 : ((⟨#[79, 82]⟩ : ByteArray).extract 1 2).size = 1 := rfl; omega) W
  have A2 := fun (W : World) => add_run (⟨#[82]⟩ : ByteArray) N (by have := HN.out; have h3 : (⟨#[82]⟩ : ByteArray).size = 1 := rfl; omega) W
  have W1 : IntKind.i64.wrap (1 + 1) = 2 := by decide
  have W2 : IntKind.i64.wrap 2 = 2 := by decide
  have Z1 : (⟨#[79, 82]⟩ : ByteArray).size = 2 := rfl
  clear hT h1 hS hN
  go_enter Tryz.func78, Tryz.ntmps78
  go_wp2_with fail
  generalize hW : w.alloc _ = W
  obtain ⟨B, bx, -⟩ := boxC hW
  clear hW
  refine (rvalid_any 1 (m : Int) (0) _ true HV.out).mono ?_
  rintro e w1 ⟨rfl, hb⟩
  have B := B.trans (hb.mono B.size)
  have bx := bx.below' hb
  clear hb
  have lx := bx.lt
  have KS : Hid (∀ w', Below w1.heap.size w1 w' → w'.cell? ⟨w.heap.size, 0, none⟩ = some (.int .i64 1) ∧ w'.cell? ⟨w.heap.size, 1, none⟩ = some (.int .i64 (m : Int)) ∧ w'.cell? ⟨w.heap.size, 2, none⟩ = some (.int .i64 (0))) := fun w' h => ⟨(bx.below h lx).at_ 0, (bx.below h lx).at_ 1, (bx.below h lx).at_ 2⟩
  have KT : Hid (∀ w', Below w1.heap.size w1 w' → Lw w') := fun w' h => HT.out.below (B.trans (h.mono B.size))
  obtain ⟨k0, k1, k2⟩ := KS.out _ (Below.refl _ _)
  go_wp2_with fail
  go_region_held3 (fun w' => w'.cell? ⟨w.heap.size, 0, none⟩ = some (.int .i64 1) ∧ w'.cell? ⟨w.heap.size, 1, none⟩ = some (.int .i64 (m : Int)) ∧ w'.cell? ⟨w.heap.size, 2, none⟩ = some (.int .i64 (0)))
    (exact KS.out _ (by ((repeat (first | (with_reducible assumption) | (with_reducible exact Below.refl _ _) | (with_reducible refine Below.drewS ?_) | (with_reducible refine Below.allocS ?_ _) | (with_reducible refine Below.setS ?_ (by first | omega | (simp; omega)) _))); (first | done | fail))))
    (first
      | (go_at_call 105; (with_reducible refine (decimal_any m _ (by have := HM.out; omega) N HND.out).mono ?_); rintro e w2 ⟨rfl, hb2⟩; have E2 : Below w1.heap.size w1 w2 := Below.next (by ((repeat (first | (with_reducible assumption) | (with_reducible exact Below.refl _ _) | (with_reducible refine Below.drewS ?_) | (with_reducible refine Below.allocS ?_ _) | (with_reducible refine Below.setS ?_ (by first | omega | (simp; omega)) _))); (first | done | fail))) hb2))
  all_goals
    have B := B.trans (E2.mono B.size)
    obtain ⟨q0, q1, q2⟩ := KS.out _ E2
    clear KS KT k0 k1 k2 hb2
    rw [side_cut1]
    clear A1 A2
    go_wp2_with fail
    go_ret
    exact ⟨ret_str HS.out, B⟩
set_option maxHeartbeats 4000000 in
theorem rtext5_11 (m k : Nat) (w : World) (hT : Lw w) (h1 : 1 ≤ m) (h2 : m ≤ 999) (hk : k ≤ 8) (S : ByteArray) (hS : strB ([82] ++ Lib.decDigits m ++ [UInt8.ofNat (97 + k)]) = S) :
    Calls Tryz.prog 78 #[.agg #[.int .i64 1, .int .i64 (m : Int), .int .i64 ((k : Int) + 1)]] w fun e w' => e = .returned (.string S) ∧ Below w.heap.size w w' := by
  have HV := hide (show lB 1 (m : Int) ((k : Int) + 1) = true from lB_true.2 ⟨by omega, by omega, by omega⟩)
  have HT := hide hT
  have HM := hide h2
  have HN := hide (show (strB (Lib.decDigits m)).size ≤ 4 from by rw [strB_size]; exact dec_len4 3 m (by omega))
  obtain ⟨N, hN⟩ : ∃ N, strB (Lib.decDigits m) = N := ⟨_, rfl⟩
  have HND := hide hN
  rw [hN] at HN
  have HS := hide (show strB [82] ++ N ++ strB [UInt8.ofNat (97 + k)] = S from by rw [← hN, strB_app, strB_app]; exact hS)
  have A1 := fun (W : World) => add_run ((⟨#[79, 82]⟩ : ByteArray).extract 1 2) N (by have := HN.out; have h3 : ((⟨#[79, 82]⟩ : ByteArray).extract 1 2).size = 1 := rfl; omega) W
  have A2 := fun (W : World) => add_run (⟨#[82]⟩ : ByteArray) N (by have := HN.out; have h3 : (⟨#[82]⟩ : ByteArray).size = 1 := rfl; omega) W
  have W1 : IntKind.i64.wrap (1 + 1) = 2 := by decide
  have W2 : IntKind.i64.wrap 2 = 2 := by decide
  have Z1 : (⟨#[79, 82]⟩ : ByteArray).size = 2 := rfl
  clear hT h1 hS hN
  have HK := hide hk
  have t0 : ((k : Int) + 1 == 0) = false := beq_eq_false_iff_ne.2 (by omega)
  have t1 : decide (0 < (k : Int) + 1) = true := decide_eq_true (by omega)
  have t2 : (k : Int) + 1 - 1 = (k : Int) := by omega
  have t3 : (k : Int) ≤ (k : Int) + 1 := by omega
  go_enter Tryz.func78, Tryz.ntmps78
  go_wp2_with fail
  generalize hW : w.alloc _ = W
  obtain ⟨B, bx, -⟩ := boxC hW
  clear hW
  refine (rvalid_any 1 (m : Int) ((k : Int) + 1) _ true HV.out).mono ?_
  rintro e w1 ⟨rfl, hb⟩
  have B := B.trans (hb.mono B.size)
  have bx := bx.below' hb
  clear hb
  have lx := bx.lt
  have KS : Hid (∀ w', Below w1.heap.size w1 w' → w'.cell? ⟨w.heap.size, 0, none⟩ = some (.int .i64 1) ∧ w'.cell? ⟨w.heap.size, 1, none⟩ = some (.int .i64 (m : Int)) ∧ w'.cell? ⟨w.heap.size, 2, none⟩ = some (.int .i64 ((k : Int) + 1))) := fun w' h => ⟨(bx.below h lx).at_ 0, (bx.below h lx).at_ 1, (bx.below h lx).at_ 2⟩
  have KT : Hid (∀ w', Below w1.heap.size w1 w' → Lw w') := fun w' h => HT.out.below (B.trans (h.mono B.size))
  obtain ⟨k0, k1, k2⟩ := KS.out _ (Below.refl _ _)
  go_wp2_with fail
  go_region_held3 (fun w' => w'.cell? ⟨w.heap.size, 0, none⟩ = some (.int .i64 1) ∧ w'.cell? ⟨w.heap.size, 1, none⟩ = some (.int .i64 (m : Int)) ∧ w'.cell? ⟨w.heap.size, 2, none⟩ = some (.int .i64 ((k : Int) + 1)))
    (exact KS.out _ (by ((repeat (first | (with_reducible assumption) | (with_reducible exact Below.refl _ _) | (with_reducible refine Below.drewS ?_) | (with_reducible refine Below.allocS ?_ _) | (with_reducible refine Below.setS ?_ (by first | omega | (simp; omega)) _))); (first | done | fail))))
    (first
      | (go_at_call 105; (with_reducible refine (decimal_any m _ (by have := HM.out; omega) N HND.out).mono ?_); rintro e w2 ⟨rfl, hb2⟩; have E2 : Below w1.heap.size w1 w2 := Below.next (by ((repeat (first | (with_reducible assumption) | (with_reducible exact Below.refl _ _) | (with_reducible refine Below.drewS ?_) | (with_reducible refine Below.allocS ?_ _) | (with_reducible refine Below.setS ?_ (by first | omega | (simp; omega)) _))); (first | done | fail))) hb2))
  all_goals
    have B := B.trans (E2.mono B.size)
    obtain ⟨q0, q1, q2⟩ := KS.out _ E2
    clear KS KT k0 k1 k2 hb2
    rw [side_cut1]
    obtain ⟨P, hP⟩ : ∃ P, strB [82] ++ N = P := ⟨_, rfl⟩
    have HP := hide (show P ++ strB [UInt8.ofNat (97 + k)] = S from by rw [← hP]; exact HS.out)
    have hz : P.size ≤ 5 := by rw [← hP, ByteArray.size_append]; have := HN.out; have h3 : (strB [82]).size = 1 := rfl; omega
    rw [hP]
    have A3 := fun (W : World) => add_run P ((⟨#[97, 98, 99, 100, 101, 102, 103, 104, 105]⟩ : ByteArray).extract k (k + 1)) (by rw [state_cut k HK.out, strB_size]; simp; omega) W
    have t4 : k ≤ 8 := HK.out
    have t5 : (k : Int) + 1 ≤ 9 := by omega
    have Z9 : (⟨#[97, 98, 99, 100, 101, 102, 103, 104, 105]⟩ : ByteArray).size = 9 := rfl
    have HSC := hide (state_cut k HK.out)
    clear hP A1 A2
    go_wp2_with fail
    go_ret
    exact ⟨ret_str (by rw [HSC.out]; exact HP.out), B⟩
theorem labT_false {s n t : Int} (h : lB s n t = false) : labT s n t = ⟨#[]⟩ := by unfold labT; rw [if_neg (by rw [h]; decide)]
theorem labT_true {s n t : Int} (h : lB s n t = true) : labT s n t = strB (labL s n t) := by unfold labT; rw [if_pos h]
theorem labL_0 (s : Int) (m : Nat) : labL s (m : Int) 0 = sideL s ++ Lib.decDigits m := by
  unfold labL stateL
  rw [if_pos rfl, List.append_nil]; rfl
theorem labL_1 (s : Int) (m k : Nat) : labL s (m : Int) ((k : Int) + 1) = sideL s ++ Lib.decDigits m ++ [UInt8.ofNat (97 + k)] := by
  unfold labL stateL
  rw [if_neg (by omega), show ((k : Int) + 1).toNat = k + 1 by omega, show 96 + (k + 1) = 97 + k by omega]; rfl
theorem text_any (s n t : Int) (w : World) (hT : Lw w) (S : ByteArray) (hS : labT s n t = S) :
    Calls Tryz.prog 71 #[.agg #[.int .i64 s, .int .i64 n, .int .i64 t]] w fun e w' => e = .returned (.string S) ∧ Below w.heap.size w w' := by
  rcases hv : lB s n t with _ | _
  · rw [labT_false hv] at hS
    subst hS
    exact text_no s n t w hv
  · rw [labT_true hv] at hS
    obtain ⟨hs, hn, ht⟩ := lB_true.1 hv
    obtain ⟨m, rfl⟩ : ∃ m : Nat, n = (m : Int) := ⟨n.toNat, by omega⟩
    by_cases h0 : t = 0
    · subst h0
      rw [labL_0] at hS
      rcases hs with rfl | rfl
      · exact text_00 m w hT (by omega) (by omega) S hS
      · exact text_10 m w hT (by omega) (by omega) S hS
    · obtain ⟨k, rfl⟩ : ∃ k : Nat, t = (k : Int) + 1 := ⟨(t - 1).toNat, by omega⟩
      rw [labL_1] at hS
      rcases hs with rfl | rfl
      · exact text_01 m k w hT (by omega) (by omega) (by omega) S hS
      · exact text_11 m k w hT (by omega) (by omega) (by omega) S hS
theorem rtext5_any (s n t : Int) (w : World) (hT : Lw w) (S : ByteArray) (hS : labT s n t = S) :
    Calls Tryz.prog 78 #[.agg #[.int .i64 s, .int .i64 n, .int .i64 t]] w fun e w' => e = .returned (.string S) ∧ Below w.heap.size w w' := by
  rcases hv : lB s n t with _ | _
  · rw [labT_false hv] at hS
    subst hS
    exact rtext5_no s n t w hv
  · rw [labT_true hv] at hS
    obtain ⟨hs, hn, ht⟩ := lB_true.1 hv
    obtain ⟨m, rfl⟩ : ∃ m : Nat, n = (m : Int) := ⟨n.toNat, by omega⟩
    by_cases h0 : t = 0
    · subst h0
      rw [labL_0] at hS
      rcases hs with rfl | rfl
      · exact rtext5_00 m w hT (by omega) (by omega) S hS
      · exact rtext5_10 m w hT (by omega) (by omega) S hS
    · obtain ⟨k, rfl⟩ : ∃ k : Nat, t = (k : Int) + 1 := ⟨(t - 1).toNat, by omega⟩
      rw [labL_1] at hS
      rcases hs with rfl | rfl
      · exact rtext5_01 m k w hT (by omega) (by omega) (by omega) S hS
      · exact rtext5_11 m k w hT (by omega) (by omega) (by omega) S hS
end Go.Proofs.YtaapcfflnklpjaaGreatDoor
