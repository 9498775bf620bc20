/- Acyclic, Order, Levels. -/
import Derived.Test.YtgmdfaamheblmaaPRdy
namespace Go.Proofs.Ytgmdfaamheblmaa
open Go Go.RowKit PM

/-- what Acyclic says -/
def acB (n : Int) (l : List (Int × Int)) : Bool := vB n l && decide ((ord n.toNat (adj (l.map nA))).length = n.toNat)
set_option maxHeartbeats 2000000 in
theorem acy_v (n : Int) (A : Option Addr) (m c : Nat) (l : List (Int × Int)) (w : World) (hx : YL w A m l) (hm : m ≤ maxLen) (hv : vB n l = false) :
    Calls Try.prog 15 #[.int .i64 n, .slice A m c] w fun e w' => e = .returned (.bool false) ∧ Below w.heap.size w w' := by
  have HX := hide hx
  have HM := hide hm
  have HV := hide hv
  clear hx hm hv
  go_enter Try.func15, Try.ntmps15
  go_wp2_with fail
  refine (valid_any n A m c l _ HX.out HM.out false HV.out).mono ?_
  rintro e w1 ⟨rfl, B⟩
  go_wp2_with fail
  go_ret
  exact ⟨rfl, B⟩
theorem dig_max {n : Nat} {bs : List (Nat × Nat)} {w : World} {A : Option Addr} {m : Nat} (hd : Dig n bs) (hx : YL w A m (bs.map zA)) : m ≤ maxLen := by
  have h1 := hd.len576
  have h2 := hx.1
  simp at h2
  unfold maxLen; omega
set_option maxHeartbeats 2000000 in
theorem acy_y (N : Nat) (A : Option Addr) (m c : Nat) (bs : List (Nat × Nat)) (w : World) (hx : YL w A m (bs.map zA)) (hd : Dig N bs) (d : List Nat) (hdd : ord N (adj bs) = d) (r : Bool) (hr : decide (d.length = N) = r) :
    Calls Try.prog 15 #[.int .i64 (N : Int), .slice A m c] w fun e w' => e = .returned (.bool r) ∧ Below w.heap.size w w' := by
  have HX := hide hx
  have HM := hide (dig_max hd hx)
  have HV := hide (vB_of hd)
  have HD := hide hd
  have HDD := hide hdd
  have HR := hide (show ((d.length : Int) == (N : Int)) = r from by
    rw [← hr, Bool.eq_iff_iff, beq_iff_eq, decide_eq_true_iff]; omega)
  clear hx hd hdd hr
  go_enter Try.func15, Try.ntmps15
  go_wp2_with fail
  refine (valid_any N A m c _ _ HX.out HM.out true HV.out).mono ?_
  rintro e w1 ⟨rfl, B⟩
  go_wp2_with fail
  refine (sorted_any A m c N bs _ HD.out (HX.out.keep B) d HDD.out).mono ?_
  rintro e w2 ⟨⟨A2, c2, rfl, -⟩, hb⟩
  have B := B.trans (hb.mono B.size)
  clear hb
  have HR2 := HR.out
  go_wp2_with fail
  go_ret
  exact ⟨rfl, B⟩
theorem acyclic_any (n : Int) (A : Option Addr) (m c : Nat) (l : List (Int × Int)) (w : World) (hx : YL w A m l) (hm : m ≤ maxLen) (r : Bool) (hr : acB n l = r) :
    Calls Try.prog 15 #[.int .i64 n, .slice A m c] w fun e w' => e = .returned (.bool r) ∧ Below w.heap.size w w' := by
  unfold acB at hr
  rcases hv : vB n l with _ | _
  · rw [hv, Bool.false_and] at hr
    subst hr
    exact acy_v n A m c l w hx hm hv
  · rw [hv, Bool.true_and] at hr
    obtain ⟨N, bs, rfl, rfl, hd⟩ := vB_true hv
    rw [nA_zA, Int.toNat_natCast] at hr
    exact acy_y N A m c bs w hx hd _ rfl r hr
/-- a slice of ints and an error's number -/
def GivesL (xs : List Nat) (er : Int) (w : World) (e : Ending) (w' : World) : Prop :=
  (∃ A c, e = .returned (.tuple #[.slice A xs.length c, .int .i64 er]) ∧ RL w' .i64 A xs.length xs ∧ xs.length ≤ c ∧ c ≤ maxLen) ∧ Below w.heap.size w w'
theorem GivesL.nil {w w' : World} {er : Int} (hb : Below w.heap.size w w') : GivesL [] er w (.returned (.tuple #[.slice none 0 0, .int .i64 er])) w' := ⟨⟨none, 0, rfl, RL.nil_, Nat.le_refl _, by simp [maxLen]⟩, hb⟩
set_option maxHeartbeats 2000000 in
theorem order_v (n : Int) (A : Option Addr) (m c : Nat) (l : List (Int × Int)) (w : World) (hx : YL w A m l) (hm : m ≤ maxLen) (hv : vB n l = false) :
    Calls Try.prog 24 #[.int .i64 n, .slice A m c] w (GivesL [] 1 w) := by
  have HX := hide hx
  have HM := hide hm
  have HV := hide hv
  clear hx hm hv
  go_enter Try.func24, Try.ntmps24
  go_wp2_with fail
  refine (valid_any n A m c l _ HX.out HM.out false HV.out).mono ?_
  rintro e w1 ⟨rfl, B⟩
  go_wp2_with fail
  refine bodyPost_ret (v := .tuple #[.slice none 0 0, .int .i64 1]) (by simp [results, Try.results24, go_sem]) rfl ?_
  exact GivesL.nil B
set_option maxHeartbeats 2000000 in
theorem order_c (N : Nat) (A : Option Addr) (m c : Nat) (bs : List (Nat × Nat)) (w : World) (hx : YL w A m (bs.map zA)) (hd : Dig N bs) (d : List Nat) (hdd : ord N (adj bs) = d) (hr : d.length < N) :
    Calls Try.prog 24 #[.int .i64 (N : Int), .slice A m c] w (GivesL [] 11 w) := by
  have HX := hide hx
  have HM := hide (dig_max hd hx)
  have HV := hide (vB_of hd)
  have HD := hide hd
  have HDD := hide hdd
  have h1 : (d.length : Int) < (N : Int) := by omega
  clear hx hd hdd
  go_enter Try.func24, Try.ntmps24
  go_wp2_with fail
  refine (valid_any N A m c _ _ HX.out HM.out true HV.out).mono ?_
  rintro e w1 ⟨rfl, B⟩
  go_wp2_with fail
  refine (sorted_any A m c N bs _ HD.out (HX.out.keep B) d HDD.out).mono ?_
  rintro e w2 ⟨⟨A2, c2, rfl, -⟩, hb⟩
  have B := B.trans (hb.mono B.size)
  clear hb
  go_wp2_with fail
  refine bodyPost_ret (v := .tuple #[.slice none 0 0, .int .i64 11]) (by simp [results, Try.results24, go_sem]) rfl ?_
  exact GivesL.nil B
set_option maxHeartbeats 2000000 in
theorem order_y (N : Nat) (A : Option Addr) (m c : Nat) (bs : List (Nat × Nat)) (w : World) (hx : YL w A m (bs.map zA)) (hd : Dig N bs) (d : List Nat) (hdd : ord N (adj bs) = d) (hr : d.length = N) :
    Calls Try.prog 24 #[.int .i64 (N : Int), .slice A m c] w (GivesL d 0 w) := by
  have HX := hide hx
  have HM := hide (dig_max hd hx)
  have HV := hide (vB_of hd)
  have HD := hide hd
  have HDD := hide hdd
  have h1 : decide ((d.length : Int) < (N : Int)) = false := decide_eq_false (by omega)
  have h2 : decide (d.length < N) = false := decide_eq_false (by omega)
  have HR := hide hr
  clear hx hd hdd hr
  go_enter Try.func24, Try.ntmps24
  go_wp2_with fail
  refine (valid_any N A m c _ _ HX.out HM.out true HV.out).mono ?_
  rintro e w1 ⟨rfl, B⟩
  go_wp2_with fail
  refine (sorted_any A m c N bs _ HD.out (HX.out.keep B) d HDD.out).mono ?_
  rintro e w2 ⟨⟨A2, c2, rfl, hr2⟩, hb⟩
  have B := B.trans (hb.mono B.size)
  clear hb
  go_wp2_with fail
  refine bodyPost_ret (v := .tuple #[.slice A2 d.length c2, .int .i64 0]) (by simp [results, Try.results24, go_sem]) rfl ?_
  exact ⟨⟨A2, c2, rfl, hr2.rl, hr2.le.1, hr2.le.2⟩, B⟩
/-- what Order gives -/
def resO (n : Int) (l : List (Int × Int)) : List Nat × Int :=
  if vB n l = true then (if (ord n.toNat (adj (l.map nA))).length < n.toNat then ([], 11) else (ord n.toNat (adj (l.map nA)), 0)) else ([], 1)
theorem order_any (n : Int) (A : Option Addr) (m c : Nat) (l : List (Int × Int)) (w : World) (hx : YL w A m l) (hm : m ≤ maxLen) (xs : List Nat) (er : Int) (hr : resO n l = (xs, er)) :
    Calls Try.prog 24 #[.int .i64 n, .slice A m c] w (GivesL xs er w) := by
  unfold resO at hr
  rcases hv : vB n l with _ | _
  · rw [hv, if_neg (by decide)] at hr
    cases hr
    exact order_v n A m c l w hx hm hv
  · rw [hv, if_pos rfl] at hr
    obtain ⟨N, bs, rfl, rfl, hd⟩ := vB_true hv
    rw [nA_zA, Int.toNat_natCast] at hr
    by_cases h : (ord N (adj bs)).length < N
    · rw [if_pos h] at hr
      cases hr
      exact order_c N A m c bs w hx hd _ rfl h
    · rw [if_neg h] at hr
      cases hr
      exact order_y N A m c bs w hx hd _ rfl (by have := (ord_beg N (adj bs)).len; omega)
end Go.Proofs.Ytgmdfaamheblmaa
