/- Bytes and ReadBytes, of the program and of the reference. -/
import Derived.Test.YtledmceoeambiaaFApp
namespace Go.Proofs.Ytledmceoeambiaa
open Go Go.RowKit FM

/-- what ReadBytes gives -/
def GaveS (S R : List Nat) (E : Nat) (w : World) (e : Ending) (w' : World) : Prop :=
  ∃ A1 n1 c1 A2 n2 c2, e = .returned (.tuple #[.slice A1 n1 c1, .slice A2 n2 c2, .int .i64 (E : Int)]) ∧ BR w' A1 n1 S ∧ BR w' A2 n2 R ∧ Below w.heap.size w w'
theorem gaveS_no {E : Nat} {w w' : World} (h : Below w.heap.size w w') : GaveS [] [] E w (.returned (.tuple #[.slice none 0 0, .slice none 0 0, .int .i64 (E : Int)])) w' :=
  ⟨none, 0, 0, none, 0, 0, rfl, BR.nil_, BR.nil_, h⟩
/-- what ReadBytes returns -/
def bS (b : List Nat) : List Nat := if rbE b = 0 then rbS b else []
def bR (b : List Nat) : List Nat := if rbE b = 0 then rbR b else []
theorem bS_by {b : List Nat} (h : By b) : By (bS b) := by
  unfold bS rbS
  split
  · exact (h.take _).drop _
  · exact By.nil
theorem bR_by {b : List Nat} (h : By b) : By (bR b) := by
  unfold bR rbR
  split
  · exact h.drop _
  · exact By.nil
theorem bs_no {b : List Nat} {E : Nat} (h : rbE b = E) (h0 : E ≠ 0) : bS b = [] ∧ bR b = [] := by
  unfold bS bR
  rw [if_neg (by omega), if_neg (by omega)]
  exact ⟨rfl, rfl⟩
set_option maxHeartbeats 1000000 in
theorem bytesOf_full (A : Option Addr) (n c : Nat) (w : World) (hn : n ≤ maxLen) (hf : 4096 < n) :
    Calls Try.prog 22 #[.slice A n c] w fun e w' => e = .returned (.tuple #[.slice none 0 0, .int .i64 6]) ∧ w = w' := by
  unfold maxLen at hn
  have d : decide ((4096 : Int) < (n : Int)) = true := decide_eq_true (by omega)
  go_enter Try.func22, Try.ntmps22
  go_wp2_with fail
  go_ret2
  exact ⟨rfl, rfl⟩
set_option maxHeartbeats 4000000 in
theorem bytesOf_any (A : Option Addr) (n c : Nat) (xs : List Nat) (w : World) (hx : BR w A n xs) (hn : n ≤ 4096) (ys : List Nat) (hy : str xs = ys) :
    Calls Try.prog 22 #[.slice A n c] w (Sealed ys (n + 2) w) := by
  have HX := hide hx
  have HE := hide (show big n 2 ++ xs = ys from by rw [← hy]; unfold str; rw [hx.len])
  have d : decide ((4096 : Int) < (n : Int)) = false := decide_eq_false (by omega)
  clear hx hy
  go_enter Try.func22, Try.ntmps22
  go_wp2_with fail
  refine (digits_any n 2 w (by omega) _ rfl).mono ?_
  rintro e w7 ⟨g7, rfl, ho7, hb7⟩
  have HO7 := hide (ho7.rb (big_len 2 n) (by unfold maxLen; omega))
  have HB7 := hide hb7
  have hs7 : w.heap.size ≤ w7.heap.size := hb7.size
  clear ho7 hb7
  go_wp2_with (at_builtin; refine wpList_append_rl _ rfl _ _ 22 rfl w.heap.size 5 .u8 1 Try.underlying22 u8_info _ 2 2 (big n 2) rfl HO7.out A n c xs rfl (HX.out.below HB7.out).1 (by omega) (n + 2) (by omega) (by omega) hs7 ?_; intro A8 c8 w8 hrow8 hbel8 hsz8)
  have HR8 := hide hrow8
  have HB8 := hide (HB7.out.trans hbel8)
  clear hrow8 hbel8
  go_wp2_with fail
  go_ret2
  exact ⟨A8, c8, rfl, by have h := HR8.out; rw [HE.out] at h; exact h, HB8.out⟩
set_option maxHeartbeats 1000000 in
theorem rbytesOf_full (A : Option Addr) (n c : Nat) (w : World) (hn : n ≤ maxLen) (hf : 4096 < n) :
    Calls Try.prog 23 #[.slice A n c] w fun e w' => e = .returned (.tuple #[.slice none 0 0, .int .i64 6]) ∧ w = w' := by
  unfold maxLen at hn
  have d : decide ((4096 : Int) < (n : Int)) = true := decide_eq_true (by omega)
  go_enter Try.func23, Try.ntmps23
  go_wp2_with fail
  go_ret2
  exact ⟨rfl, rfl⟩
set_option maxHeartbeats 4000000 in
theorem rbytesOf_any (A : Option Addr) (n c : Nat) (xs : List Nat) (w : World) (hx : BR w A n xs) (hn : n ≤ 4096) (ys : List Nat) (hy : str xs = ys) :
    Calls Try.prog 23 #[.slice A n c] w (Sealed ys (n + 2) w) := by
  have HX := hide hx
  have HE := hide (show big n 2 ++ xs = ys from by rw [← hy]; unfold str; rw [hx.len])
  have d : decide ((4096 : Int) < (n : Int)) = false := decide_eq_false (by omega)
  clear hx hy
  go_enter Try.func23, Try.ntmps23
  go_wp2_with fail
  refine (big_any n 2 w (by omega) (by omega) _ rfl).mono ?_
  rintro e w7 ⟨g7, rfl, ho7, hb7⟩
  have HO7 := hide (ho7.rb (big_len 2 n) (by unfold maxLen; omega))
  have HB7 := hide hb7
  have hs7 : w.heap.size ≤ w7.heap.size := hb7.size
  clear ho7 hb7
  go_wp2_with (at_builtin; refine wpList_append_rl _ rfl _ _ 22 rfl w.heap.size 5 .u8 1 Try.underlying22 u8_info _ 2 2 (big n 2) rfl HO7.out A n c xs rfl (HX.out.below HB7.out).1 (by omega) (n + 2) (by omega) (by omega) hs7 ?_; intro A8 c8 w8 hrow8 hbel8 hsz8)
  have HR8 := hide hrow8
  have HB8 := hide (HB7.out.trans hbel8)
  clear hrow8 hbel8
  go_wp2_with fail
  go_ret2
  exact ⟨A8, c8, rfl, by have h := HR8.out; rw [HE.out] at h; exact h, HB8.out⟩
set_option maxHeartbeats 1000000 in
theorem readBytes_short (A : Option Addr) (n c : Nat) (w : World) (hn : n < 2) :
    Calls Try.prog 24 #[.slice A n c] w (GaveS [] [] 4 w) := by
  go_enter Try.func24, Try.ntmps24
  go_wp2_with fail
  exact bodyPost_ret (v := .tuple #[.slice none 0 0, .slice none 0 0, .int .i64 4]) (by simp [results, Try.results24, go_sem]) rfl (gaveS_no (E := 4) (Below.refl _ _))
set_option maxHeartbeats 1000000 in
theorem readBytes_full (b o n c : Nat) (xs : List Nat) (w : World) (hx : BR w (some ⟨b, o, none⟩) n xs) (hc : n ≤ c) (hm : c ≤ maxLen) (h2 : 2 ≤ n) (L : Nat) (hL : len2 xs = L) (hf : 4096 < L) :
    Calls Try.prog 24 #[.slice (some ⟨b, o, none⟩) n c] w (GaveS [] [] 6 w) := by
  have HR1 := hide (hx.take_ (m := 2) (by omega))
  have hLb : L < 65536 := by rw [← hL]; exact len2_lt hx.2
  have HL := hide (show num (xs.take 2) = L from hL)
  unfold maxLen at hm
  clear hx hL
  go_enter Try.func24, Try.ntmps24
  go_wp2_with fail
  (with_reducible refine (number_any _ 2 _ _ _ HR1.out (by omega) L HL.out).mono ?_)
  rintro e w2 ⟨rfl, rfl⟩
  go_wp2_with fail
  exact bodyPost_ret (v := .tuple #[.slice none 0 0, .slice none 0 0, .int .i64 6]) (by simp [results, Try.results24, go_sem]) rfl (gaveS_no (E := 6) (Below.refl _ _))
set_option maxHeartbeats 1000000 in
theorem readBytes_torn (b o n c : Nat) (xs : List Nat) (w : World) (hx : BR w (some ⟨b, o, none⟩) n xs) (hc : n ≤ c) (hm : c ≤ maxLen) (h2 : 2 ≤ n) (L : Nat) (hL : len2 xs = L) (hf : L ≤ 4096) (ht : n < L + 2) :
    Calls Try.prog 24 #[.slice (some ⟨b, o, none⟩) n c] w (GaveS [] [] 4 w) := by
  have HR1 := hide (hx.take_ (m := 2) (by omega))
  have HL := hide (show num (xs.take 2) = L from hL)
  unfold maxLen at hm
  clear hx hL
  go_enter Try.func24, Try.ntmps24
  go_wp2_with fail
  (with_reducible refine (number_any _ 2 _ _ _ HR1.out (by omega) L HL.out).mono ?_)
  rintro e w2 ⟨rfl, rfl⟩
  go_wp2_with fail
  exact bodyPost_ret (v := .tuple #[.slice none 0 0, .slice none 0 0, .int .i64 4]) (by simp [results, Try.results24, go_sem]) rfl (gaveS_no (E := 4) (Below.refl _ _))
set_option maxHeartbeats 4000000 in
set_option maxRecDepth 100000 in
theorem readBytes_zero (b o n c : Nat) (xs : List Nat) (w : World) (hx : BR w (some ⟨b, o, none⟩) n xs) (hc : n ≤ c) (hm : c ≤ maxLen) (L : Nat) (hL : len2 xs = L) (hf : L ≤ 4096) (ht : L + 2 ≤ n) (hck : c = L + 2) (h0 : L = 0) (hn : n ≤ 100000) :
    Calls Try.prog 24 #[.slice (some ⟨b, o, none⟩) n c] w (GaveS ((xs.take (L + 2)).drop 2) (xs.drop (L + 2)) 0 w) := by
  have HX := hide hx
  have HL := hide (show num (xs.take 2) = L from hL)
  have HR1 := hide (hx.take_ (m := 2) (by omega))
  have HRD := hide ((hx.take_ (m := L + 2) (by omega)).drop_ (m := 2) (by omega))
  have HR3 := hide (hx.drop_ (m := L + 2) (by omega))
  have HBD := hide (show By ((xs.take (L + 2)).drop 2) from (hx.2.take _).drop _)
  unfold maxLen at hm
  clear hx hL
  subst h0
  subst hck
  obtain rfl : n = 2 := by omega
  have HE1 := hide (show (xs.take (0 + 2)).drop 2 = [] from List.drop_eq_nil_of_le (by rw [List.length_take]; omega))
  have HE2 := hide (show xs.drop (0 + 2) = [] from List.drop_eq_nil_of_le (by rw [HX.out.len]; exact Nat.le_refl _))
  clear HR3 HRD HBD hf ht hn hm hc
  have w0 : IntKind.i64.wrap (0 + 2) = 2 := rfl
  have w1 : IntKind.i64.wrap (((0 : Nat) : Int) + 2) = 2 := rfl
  have w2 : IntKind.i64.wrap 2 = 2 := rfl
  have KZ : Hid (∀ w', Below w.heap.size w w' → BR w' (some ⟨b, o, none⟩) 0 []) := fun w' h => BR.nil_
  go_enter Try.func24, Try.ntmps24
  go_wp2_with fail
  (with_reducible refine (number_any _ 2 _ _ _ HR1.out (by omega) 0 HL.out).mono ?_)
  rintro e w2 ⟨rfl, rfl⟩
  go_wp2_with fail
  go_region_held3 (fun _ => True)
    (exact True.intro)
    (first
      | (go_at_call 32; (with_reducible refine (clone_any ⟨b, o, none⟩ _ _ _ _ (KZ.out _ (by ((repeat (first | (with_reducible exact Below.refl _ _) | (with_reducible refine Below.drewS ?_) | (with_reducible refine Below.allocS ?_ _))); (first | done | fail)))) (by omega)).mono ?_); rintro e wa ⟨A1, c1, rfl, hb, hb1⟩; have hr1 := hb.br By.nil; have E1 : Below w.heap.size w wa := Below.next (by ((repeat (first | (with_reducible assumption) | (with_reducible exact Below.refl _ _) | (with_reducible refine Below.drewS ?_) | (with_reducible refine Below.allocS ?_ _) | (with_reducible refine Below.setS ?_ (by first | omega | (simp; omega)) _))); (first | done | fail))) hb1)
      | (go_at_call 32; (with_reducible refine (clone_any ⟨b, o, none⟩ _ _ _ _ (KZ.out _ (by ((repeat (first | (with_reducible assumption) | (with_reducible exact Below.refl _ _) | (with_reducible refine Below.drewS ?_) | (with_reducible refine Below.allocS ?_ _) | (with_reducible refine Below.setS ?_ (by first | omega | (simp; omega)) _))); (first | done | fail)))) (by omega)).mono ?_); rintro e wb ⟨A2, c2, rfl, hb, hb2⟩; have hr2 := hb.br By.nil; have E2 : Below w.heap.size w wb := Below.next (by ((repeat (first | (with_reducible assumption) | (with_reducible exact Below.refl _ _) | (with_reducible refine Below.drewS ?_) | (with_reducible refine Below.allocS ?_ _) | (with_reducible refine Below.setS ?_ (by first | omega | (simp; omega)) _))); (first | done | fail))) hb2))
  all_goals
    go_wp2_with fail
    rw [HE1.out, HE2.out]
    first
      | (refine bodyPost_ret (v := .tuple #[.slice A1 0 c1, .slice A2 0 c2, .int .i64 0]) (by simp [results, Try.results24, go_sem]; done) rfl ?_; exact ⟨_, _, _, _, _, _, rfl, BR.nil_, BR.nil_, (by ((repeat (first | (with_reducible assumption) | (with_reducible exact Below.refl _ _) | (with_reducible refine Below.drewS ?_) | (with_reducible refine Below.allocS ?_ _) | (with_reducible refine Below.setS ?_ (by first | omega | (simp; omega)) _))); (first | done | fail)))⟩)
      | (refine bodyPost_ret (v := .tuple #[.slice A2 0 c2, .slice A1 0 c1, .int .i64 0]) (by simp [results, Try.results24, go_sem]; done) rfl ?_; exact ⟨_, _, _, _, _, _, rfl, BR.nil_, BR.nil_, (by ((repeat (first | (with_reducible assumption) | (with_reducible exact Below.refl _ _) | (with_reducible refine Below.drewS ?_) | (with_reducible refine Below.allocS ?_ _) | (with_reducible refine Below.setS ?_ (by first | omega | (simp; omega)) _))); (first | done | fail)))⟩)
set_option maxHeartbeats 4000000 in
set_option maxRecDepth 100000 in
theorem readBytes_eq (b o n c : Nat) (xs : List Nat) (w : World) (hx : BR w (some ⟨b, o, none⟩) n xs) (hc : n ≤ c) (hm : c ≤ maxLen) (L : Nat) (hL : len2 xs = L) (hf : L ≤ 4096) (ht : L + 2 ≤ n) (hck : c = L + 2) (h0 : 0 < L) (hn : n ≤ 100000) :
    Calls Try.prog 24 #[.slice (some ⟨b, o, none⟩) n c] w (GaveS ((xs.take (L + 2)).drop 2) (xs.drop (L + 2)) 0 w) := by
  have HX := hide hx
  have HL := hide (show num (xs.take 2) = L from hL)
  have HR1 := hide (hx.take_ (m := 2) (by omega))
  have HRD := hide ((hx.take_ (m := L + 2) (by omega)).drop_ (m := 2) (by omega))
  have HR3 := hide (hx.drop_ (m := L + 2) (by omega))
  have HBD := hide (show By ((xs.take (L + 2)).drop 2) from (hx.2.take _).drop _)
  unfold maxLen at hm
  clear hx hL
  subst hck
  obtain rfl : n = L + 2 := by omega
  clear HR3
  have w2 : IntKind.i64.wrap ((L : Int) + 2) = (L : Int) + 2 := IntWalk.i64_in _ (by omega)
  have w3 : IntKind.i64.wrap (2 + (L : Int)) = 2 + (L : Int) := IntWalk.i64_in _ (by omega)
  have p2 : (0 : Int) ≤ (L : Int) + 2 := by omega
  have p3 : (0 : Int) ≤ 2 + (L : Int) := by omega
  have t2 : ((L : Int) + 2).toNat = L + 2 := by omega
  have t3 : (2 + (L : Int)).toNat = L + 2 := by omega
  have i1 : (2 : Int) ≤ (L : Int) + 2 := by omega
  have i2 : (2 : Int) ≤ 2 + (L : Int) := by omega
  have i3 : (L : Int) + 2 ≤ (L : Int) + 2 := by omega
  have i4 : 2 + (L : Int) ≤ (L : Int) + 2 := by omega
  have i5 : (L : Int) + 2 ≤ (L : Int) + 2 := by omega
  have i6 : 2 + (L : Int) ≤ (L : Int) + 2 := by omega
  have i7 : ¬ L + 2 = 2 := by omega
  have KD : Hid (∀ w', Below w.heap.size w w' → BR w' (some ⟨b, o + 2, none⟩) L ((xs.take (L + 2)).drop 2)) := fun w' h => HRD.out.below h
  have KR : Hid (∀ w', Below w.heap.size w w' → BR w' (some ⟨b, o, none⟩) 0 (xs.drop (L + 2))) := fun w' h => by rw [List.drop_eq_nil_of_le (by rw [HX.out.len]; exact Nat.le_refl _)]; exact BR.nil_
  have j1 : ¬ L = 0 := by omega
  go_enter Try.func24, Try.ntmps24
  go_wp2_with fail
  (with_reducible refine (number_any _ 2 _ _ _ HR1.out (by omega) L HL.out).mono ?_)
  rintro e w2 ⟨rfl, rfl⟩
  go_wp2_with fail
  go_region_held3 (fun _ => True)
    (exact True.intro)
    (first
      | (go_at_call 32; (with_reducible refine (clone_any ⟨b, o + 2, none⟩ L _ _ _ (KD.out _ (by ((repeat (first | (with_reducible assumption) | (with_reducible exact Below.refl _ _) | (with_reducible refine Below.drewS ?_) | (with_reducible refine Below.allocS ?_ _) | (with_reducible refine Below.setS ?_ (by first | omega | (simp; omega)) _))); (first | done | fail)))) (by omega)).mono ?_); rintro e wa ⟨A1, c1, rfl, ha, hb1⟩; have hr1 := ha.br HBD.out; have E1 : Below w.heap.size w wa := Below.next (by ((repeat (first | (with_reducible assumption) | (with_reducible exact Below.refl _ _) | (with_reducible refine Below.drewS ?_) | (with_reducible refine Below.allocS ?_ _) | (with_reducible refine Below.setS ?_ (by first | omega | (simp; omega)) _))); (first | done | fail))) hb1; try (have G2 := BR.below hr2 (Below.next (by ((repeat (first | (with_reducible assumption) | (with_reducible exact Below.refl _ _) | (with_reducible refine Below.drewS ?_) | (with_reducible refine Below.allocS ?_ _) | (with_reducible refine Below.setS ?_ (by first | omega | (simp; omega)) _))); (first | done | fail))) hb1)))
      | (go_at_call 32; (with_reducible refine (clone_any ⟨b, o, none⟩ _ _ _ _ (KR.out _ (by ((repeat (first | (with_reducible assumption) | (with_reducible exact Below.refl _ _) | (with_reducible refine Below.drewS ?_) | (with_reducible refine Below.allocS ?_ _) | (with_reducible refine Below.setS ?_ (by first | omega | (simp; omega)) _))); (first | done | fail)))) (by omega)).mono ?_); rintro e wb ⟨A2, c2, rfl, hb, hb2⟩; have hr2 := hb.br (HX.out.2.drop (L + 2)); have E2 : Below w.heap.size w wb := Below.next (by ((repeat (first | (with_reducible assumption) | (with_reducible exact Below.refl _ _) | (with_reducible refine Below.drewS ?_) | (with_reducible refine Below.allocS ?_ _) | (with_reducible refine Below.setS ?_ (by first | omega | (simp; omega)) _))); (first | done | fail))) hb2; try (have G1 := BR.below hr1 (Below.next (by ((repeat (first | (with_reducible assumption) | (with_reducible exact Below.refl _ _) | (with_reducible refine Below.drewS ?_) | (with_reducible refine Below.allocS ?_ _) | (with_reducible refine Below.setS ?_ (by first | omega | (simp; omega)) _))); (first | done | fail))) hb2))))
  all_goals
    go_wp2_with fail
    refine bodyPost_ret (v := .tuple #[.slice A1 L c1, .slice A2 0 c2, .int .i64 0]) (by simp [results, Try.results24, go_sem]) rfl ?_
    exact ⟨A1, _, c1, A2, _, c2, rfl, by first | exact G1 | exact hr1, by first | exact G2 | exact hr2, (by ((repeat (first | (with_reducible assumption) | (with_reducible exact Below.refl _ _) | (with_reducible refine Below.drewS ?_) | (with_reducible refine Below.allocS ?_ _) | (with_reducible refine Below.setS ?_ (by first | omega | (simp; omega)) _))); (first | done | fail)))⟩
set_option maxHeartbeats 4000000 in
set_option maxRecDepth 100000 in
theorem readBytes_gt (b o n c : Nat) (xs : List Nat) (w : World) (hx : BR w (some ⟨b, o, none⟩) n xs) (hc : n ≤ c) (hm : c ≤ maxLen) (L : Nat) (hL : len2 xs = L) (hf : L ≤ 4096) (ht : L + 2 ≤ n) (hck : L + 2 < c) (hn : n ≤ 100000) :
    Calls Try.prog 24 #[.slice (some ⟨b, o, none⟩) n c] w (GaveS ((xs.take (L + 2)).drop 2) (xs.drop (L + 2)) 0 w) := by
  have HX := hide hx
  have HL := hide (show num (xs.take 2) = L from hL)
  have HR1 := hide (hx.take_ (m := 2) (by omega))
  have HRD := hide ((hx.take_ (m := L + 2) (by omega)).drop_ (m := 2) (by omega))
  have HR3 := hide (hx.drop_ (m := L + 2) (by omega))
  have HBD := hide (show By ((xs.take (L + 2)).drop 2) from (hx.2.take _).drop _)
  unfold maxLen at hm
  clear hx hL
  have w2 : IntKind.i64.wrap ((L : Int) + 2) = (L : Int) + 2 := IntWalk.i64_in _ (by omega)
  have w3 : IntKind.i64.wrap (2 + (L : Int)) = 2 + (L : Int) := IntWalk.i64_in _ (by omega)
  have p2 : (0 : Int) ≤ (L : Int) + 2 := by omega
  have p3 : (0 : Int) ≤ 2 + (L : Int) := by omega
  have t2 : ((L : Int) + 2).toNat = L + 2 := by omega
  have t3 : (2 + (L : Int)).toNat = L + 2 := by omega
  have i1 : (2 : Int) ≤ (L : Int) + 2 := by omega
  have i2 : (2 : Int) ≤ 2 + (L : Int) := by omega
  have i3 : (L : Int) + 2 ≤ (n : Int) := by omega
  have i4 : 2 + (L : Int) ≤ (n : Int) := by omega
  have i5 : (L : Int) + 2 ≤ (c : Int) := by omega
  have i6 : 2 + (L : Int) ≤ (c : Int) := by omega
  have i7 : ¬ c = 2 := by omega
  have KD : Hid (∀ w', Below w.heap.size w w' → BR w' (some ⟨b, o + 2, none⟩) L ((xs.take (L + 2)).drop 2)) := fun w' h => HRD.out.below h
  have KR : Hid (∀ w', Below w.heap.size w w' → BR w' (some ⟨b, o + (L + 2), none⟩) (n - (L + 2)) (xs.drop (L + 2))) := fun w' h => HR3.out.below h
  have i8 : ¬ c = L + 2 := by omega
  have i9 : (n : Int) ≤ (c : Int) := by omega
  go_enter Try.func24, Try.ntmps24
  go_wp2_with fail
  (with_reducible refine (number_any _ 2 _ _ _ HR1.out (by omega) L HL.out).mono ?_)
  rintro e w2 ⟨rfl, rfl⟩
  go_wp2_with fail
  go_region_held3 (fun _ => True)
    (exact True.intro)
    (first
      | (go_at_call 32; (with_reducible refine (clone_any ⟨b, o + 2, none⟩ L _ _ _ (KD.out _ (by ((repeat (first | (with_reducible assumption) | (with_reducible exact Below.refl _ _) | (with_reducible refine Below.drewS ?_) | (with_reducible refine Below.allocS ?_ _) | (with_reducible refine Below.setS ?_ (by first | omega | (simp; omega)) _))); (first | done | fail)))) (by omega)).mono ?_); rintro e wa ⟨A1, c1, rfl, ha, hb1⟩; have hr1 := ha.br HBD.out; have E1 : Below w.heap.size w wa := Below.next (by ((repeat (first | (with_reducible assumption) | (with_reducible exact Below.refl _ _) | (with_reducible refine Below.drewS ?_) | (with_reducible refine Below.allocS ?_ _) | (with_reducible refine Below.setS ?_ (by first | omega | (simp; omega)) _))); (first | done | fail))) hb1; try (have G2 := BR.below hr2 (Below.next (by ((repeat (first | (with_reducible assumption) | (with_reducible exact Below.refl _ _) | (with_reducible refine Below.drewS ?_) | (with_reducible refine Below.allocS ?_ _) | (with_reducible refine Below.setS ?_ (by first | omega | (simp; omega)) _))); (first | done | fail))) hb1)))
      | (go_at_call 32; (with_reducible refine (clone_any ⟨b, o + (L + 2), none⟩ _ _ _ _ (KR.out _ (by ((repeat (first | (with_reducible assumption) | (with_reducible exact Below.refl _ _) | (with_reducible refine Below.drewS ?_) | (with_reducible refine Below.allocS ?_ _) | (with_reducible refine Below.setS ?_ (by first | omega | (simp; omega)) _))); (first | done | fail)))) (by omega)).mono ?_); rintro e wb ⟨A2, c2, rfl, hb, hb2⟩; have hr2 := hb.br (HX.out.2.drop (L + 2)); have E2 : Below w.heap.size w wb := Below.next (by ((repeat (first | (with_reducible assumption) | (with_reducible exact Below.refl _ _) | (with_reducible refine Below.drewS ?_) | (with_reducible refine Below.allocS ?_ _) | (with_reducible refine Below.setS ?_ (by first | omega | (simp; omega)) _))); (first | done | fail))) hb2; try (have G1 := BR.below hr1 (Below.next (by ((repeat (first | (with_reducible assumption) | (with_reducible exact Below.refl _ _) | (with_reducible refine Below.drewS ?_) | (with_reducible refine Below.allocS ?_ _) | (with_reducible refine Below.setS ?_ (by first | omega | (simp; omega)) _))); (first | done | fail))) hb2))))
  all_goals
    go_wp2_with fail
    refine bodyPost_ret (v := .tuple #[.slice A1 L c1, .slice A2 (n - (L + 2)) c2, .int .i64 0]) (by simp [results, Try.results24, go_sem]) rfl ?_
    exact ⟨A1, _, c1, A2, _, c2, rfl, by first | exact G1 | exact hr1, by first | exact G2 | exact hr2, (by ((repeat (first | (with_reducible assumption) | (with_reducible exact Below.refl _ _) | (with_reducible refine Below.drewS ?_) | (with_reducible refine Below.allocS ?_ _) | (with_reducible refine Below.setS ?_ (by first | omega | (simp; omega)) _))); (first | done | fail)))⟩
theorem readBytes_any (A : Option Addr) (n c : Nat) (xs : List Nat) (w : World) (hx : BR w A n xs) (hc : n ≤ c) (hm : c ≤ maxLen) (hn : n ≤ 100000) (S R : List Nat) (E : Nat) (hS : bS xs = S) (hR : bR xs = R) (hE : rbE xs = E) :
    Calls Try.prog 24 #[.slice A n c] w (GaveS S R E w) := by
  subst hS hR hE
  have hl := hx.len
  by_cases h2 : n < 2
  · have e1 : rbE xs = 4 := by unfold rbE; rw [if_pos (by omega)]
    rw [(bs_no e1 (by omega)).1, (bs_no e1 (by omega)).2, e1]
    exact readBytes_short A n c w h2
  obtain ⟨b, o, x, rfl, -⟩ := hx.at_ (j := 0) (by omega)
  by_cases h4 : 4096 < len2 xs
  · have e1 : rbE xs = 6 := by unfold rbE; rw [if_neg (by omega), if_pos h4]
    rw [(bs_no e1 (by omega)).1, (bs_no e1 (by omega)).2, e1]
    exact readBytes_full b o n c xs w hx hc hm (by omega) _ rfl h4
  by_cases h5 : n < len2 xs + 2
  · have e1 : rbE xs = 4 := by unfold rbE; rw [if_neg (by omega), if_neg h4, if_pos (by omega)]
    rw [(bs_no e1 (by omega)).1, (bs_no e1 (by omega)).2, e1]
    exact readBytes_torn b o n c xs w hx hc hm (by omega) _ rfl (by omega) h5
  · have e1 : rbE xs = 0 := by unfold rbE; rw [if_neg (by omega), if_neg h4, if_neg (by omega)]
    have e2 : bS xs = (xs.take (len2 xs + 2)).drop 2 := by unfold bS; rw [if_pos e1]; rfl
    have e3 : bR xs = xs.drop (len2 xs + 2) := by unfold bR; rw [if_pos e1]; rfl
    rw [e1, e2, e3]
    rcases Nat.lt_or_ge (len2 xs + 2) c with hck | hck
    · exact readBytes_gt b o n c xs w hx hc hm _ rfl (by omega) (by omega) hck hn
    · rcases Nat.eq_zero_or_pos (len2 xs) with h0 | h0
      · exact readBytes_zero b o n c xs w hx hc hm _ rfl (by omega) (by omega) (by omega) h0 hn
      · exact readBytes_eq b o n c xs w hx hc hm _ rfl (by omega) (by omega) (by omega) h0 hn
set_option maxHeartbeats 1000000 in
theorem rreadBytes_short (A : Option Addr) (n c : Nat) (w : World) (hn : n < 2) :
    Calls Try.prog 25 #[.slice A n c] w (GaveS [] [] 4 w) := by
  go_enter Try.func25, Try.ntmps25
  go_wp2_with fail
  exact bodyPost_ret (v := .tuple #[.slice none 0 0, .slice none 0 0, .int .i64 4]) (by simp [results, Try.results25, go_sem]) rfl (gaveS_no (E := 4) (Below.refl _ _))
set_option maxHeartbeats 1000000 in
theorem rreadBytes_full (b o n c : Nat) (xs : List Nat) (w : World) (hx : BR w (some ⟨b, o, none⟩) n xs) (hc : n ≤ c) (hm : c ≤ maxLen) (h2 : 2 ≤ n) (L : Nat) (hL : len2 xs = L) (hf : 4096 < L) :
    Calls Try.prog 25 #[.slice (some ⟨b, o, none⟩) n c] w (GaveS [] [] 6 w) := by
  have HR1 := hide (hx.take_ (m := 2) (by omega))
  have hLb : L < 65536 := by rw [← hL]; exact len2_lt hx.2
  have HL := hide (show num (xs.take 2) = L from hL)
  unfold maxLen at hm
  clear hx hL
  go_enter Try.func25, Try.ntmps25
  go_wp2_with fail
  (with_reducible refine (rnumber_any _ 2 _ _ _ HR1.out (by omega) L HL.out).mono ?_)
  rintro e w2 ⟨rfl, rfl⟩
  go_wp2_with fail
  exact bodyPost_ret (v := .tuple #[.slice none 0 0, .slice none 0 0, .int .i64 6]) (by simp [results, Try.results25, go_sem]) rfl (gaveS_no (E := 6) (Below.refl _ _))
set_option maxHeartbeats 1000000 in
theorem rreadBytes_torn (b o n c : Nat) (xs : List Nat) (w : World) (hx : BR w (some ⟨b, o, none⟩) n xs) (hc : n ≤ c) (hm : c ≤ maxLen) (h2 : 2 ≤ n) (L : Nat) (hL : len2 xs = L) (hf : L ≤ 4096) (ht : n < L + 2) :
    Calls Try.prog 25 #[.slice (some ⟨b, o, none⟩) n c] w (GaveS [] [] 4 w) := by
  have HR1 := hide (hx.take_ (m := 2) (by omega))
  have HL := hide (show num (xs.take 2) = L from hL)
  unfold maxLen at hm
  clear hx hL
  go_enter Try.func25, Try.ntmps25
  go_wp2_with fail
  (with_reducible refine (rnumber_any _ 2 _ _ _ HR1.out (by omega) L HL.out).mono ?_)
  rintro e w2 ⟨rfl, rfl⟩
  go_wp2_with fail
  exact bodyPost_ret (v := .tuple #[.slice none 0 0, .slice none 0 0, .int .i64 4]) (by simp [results, Try.results25, go_sem]) rfl (gaveS_no (E := 4) (Below.refl _ _))
set_option maxHeartbeats 4000000 in
set_option maxRecDepth 100000 in
theorem rreadBytes_zero (b o n c : Nat) (xs : List Nat) (w : World) (hx : BR w (some ⟨b, o, none⟩) n xs) (hc : n ≤ c) (hm : c ≤ maxLen) (L : Nat) (hL : len2 xs = L) (hf : L ≤ 4096) (ht : L + 2 ≤ n) (hck : c = L + 2) (h0 : L = 0) (hn : n ≤ 100000) :
    Calls Try.prog 25 #[.slice (some ⟨b, o, none⟩) n c] w (GaveS ((xs.take (L + 2)).drop 2) (xs.drop (L + 2)) 0 w) := by
  have HX := hide hx
  have HL := hide (show num (xs.take 2) = L from hL)
  have HR1 := hide (hx.take_ (m := 2) (by omega))
  have HRD := hide ((hx.take_ (m := L + 2) (by omega)).drop_ (m := 2) (by omega))
  have HR3 := hide (hx.drop_ (m := L + 2) (by omega))
  have HBD := hide (show By ((xs.take (L + 2)).drop 2) from (hx.2.take _).drop _)
  unfold maxLen at hm
  clear hx hL
  subst h0
  subst hck
  obtain rfl : n = 2 := by omega
  have HE1 := hide (show (xs.take (0 + 2)).drop 2 = [] from List.drop_eq_nil_of_le (by rw [List.length_take]; omega))
  have HE2 := hide (show xs.drop (0 + 2) = [] from List.drop_eq_nil_of_le (by rw [HX.out.len]; exact Nat.le_refl _))
  clear HR3 HRD HBD hf ht hn hm hc
  have w0 : IntKind.i64.wrap (0 + 2) = 2 := rfl
  have w1 : IntKind.i64.wrap (((0 : Nat) : Int) + 2) = 2 := rfl
  have w2 : IntKind.i64.wrap 2 = 2 := rfl
  have KZ : Hid (∀ w', Below w.heap.size w w' → BR w' (some ⟨b, o, none⟩) 0 []) := fun w' h => BR.nil_
  go_enter Try.func25, Try.ntmps25
  go_wp2_with fail
  (with_reducible refine (rnumber_any _ 2 _ _ _ HR1.out (by omega) 0 HL.out).mono ?_)
  rintro e w2 ⟨rfl, rfl⟩
  go_wp2_with fail
  go_region_held3 (fun _ => True)
    (exact True.intro)
    (first
      | (refine step_append_e (by rfl) _ _ (by rfl) _ (by rfl) (some ⟨b, o, none⟩) 0 _ [] (by rfl) (KZ.out _ (by ((repeat (first | (with_reducible exact Below.refl _ _) | (with_reducible refine Below.drewS ?_) | (with_reducible refine Below.allocS ?_ _))); (first | done | fail)))) (by omega) ?_; intro A1 c1 wa hr1 hb1; have E1 : Below w.heap.size w wa := Below.next (by ((repeat (first | (with_reducible assumption) | (with_reducible exact Below.refl _ _) | (with_reducible refine Below.drewS ?_) | (with_reducible refine Below.allocS ?_ _) | (with_reducible refine Below.setS ?_ (by first | omega | (simp; omega)) _))); (first | done | fail))) hb1)
      | (refine step_append_e (by rfl) _ _ (by rfl) _ (by rfl) (some ⟨b, o, none⟩) 0 _ [] (by rfl) (KZ.out _ (by ((repeat (first | (with_reducible assumption) | (with_reducible exact Below.refl _ _) | (with_reducible refine Below.drewS ?_) | (with_reducible refine Below.allocS ?_ _) | (with_reducible refine Below.setS ?_ (by first | omega | (simp; omega)) _))); (first | done | fail)))) (by omega) ?_; intro A2 c2 wb hr2 hb2; have E2 : Below w.heap.size w wb := Below.next (by ((repeat (first | (with_reducible assumption) | (with_reducible exact Below.refl _ _) | (with_reducible refine Below.drewS ?_) | (with_reducible refine Below.allocS ?_ _) | (with_reducible refine Below.setS ?_ (by first | omega | (simp; omega)) _))); (first | done | fail))) hb2))
  all_goals
    go_wp2_with fail
    rw [HE1.out, HE2.out]
    first
      | (refine bodyPost_ret (v := .tuple #[.slice A1 0 c1, .slice A2 0 c2, .int .i64 0]) (by simp [results, Try.results25, go_sem]; done) rfl ?_; exact ⟨_, _, _, _, _, _, rfl, BR.nil_, BR.nil_, (by ((repeat (first | (with_reducible assumption) | (with_reducible exact Below.refl _ _) | (with_reducible refine Below.drewS ?_) | (with_reducible refine Below.allocS ?_ _) | (with_reducible refine Below.setS ?_ (by first | omega | (simp; omega)) _))); (first | done | fail)))⟩)
      | (refine bodyPost_ret (v := .tuple #[.slice A2 0 c2, .slice A1 0 c1, .int .i64 0]) (by simp [results, Try.results25, go_sem]; done) rfl ?_; exact ⟨_, _, _, _, _, _, rfl, BR.nil_, BR.nil_, (by ((repeat (first | (with_reducible assumption) | (with_reducible exact Below.refl _ _) | (with_reducible refine Below.drewS ?_) | (with_reducible refine Below.allocS ?_ _) | (with_reducible refine Below.setS ?_ (by first | omega | (simp; omega)) _))); (first | done | fail)))⟩)
set_option maxHeartbeats 4000000 in
set_option maxRecDepth 100000 in
theorem rreadBytes_eq (b o n c : Nat) (xs : List Nat) (w : World) (hx : BR w (some ⟨b, o, none⟩) n xs) (hc : n ≤ c) (hm : c ≤ maxLen) (L : Nat) (hL : len2 xs = L) (hf : L ≤ 4096) (ht : L + 2 ≤ n) (hck : c = L + 2) (h0 : 0 < L) (hn : n ≤ 100000) :
    Calls Try.prog 25 #[.slice (some ⟨b, o, none⟩) n c] w (GaveS ((xs.take (L + 2)).drop 2) (xs.drop (L + 2)) 0 w) := by
  have HX := hide hx
  have HL := hide (show num (xs.take 2) = L from hL)
  have HR1 := hide (hx.take_ (m := 2) (by omega))
  have HRD := hide ((hx.take_ (m := L + 2) (by omega)).drop_ (m := 2) (by omega))
  have HR3 := hide (hx.drop_ (m := L + 2) (by omega))
  have HBD := hide (show By ((xs.take (L + 2)).drop 2) from (hx.2.take _).drop _)
  unfold maxLen at hm
  clear hx hL
  subst hck
  obtain rfl : n = L + 2 := by omega
  clear HR3
  have w2 : IntKind.i64.wrap ((L : Int) + 2) = (L : Int) + 2 := IntWalk.i64_in _ (by omega)
  have w3 : IntKind.i64.wrap (2 + (L : Int)) = 2 + (L : Int) := IntWalk.i64_in _ (by omega)
  have p2 : (0 : Int) ≤ (L : Int) + 2 := by omega
  have p3 : (0 : Int) ≤ 2 + (L : Int) := by omega
  have t2 : ((L : Int) + 2).toNat = L + 2 := by omega
  have t3 : (2 + (L : Int)).toNat = L + 2 := by omega
  have i1 : (2 : Int) ≤ (L : Int) + 2 := by omega
  have i2 : (2 : Int) ≤ 2 + (L : Int) := by omega
  have i3 : (L : Int) + 2 ≤ (L : Int) + 2 := by omega
  have i4 : 2 + (L : Int) ≤ (L : Int) + 2 := by omega
  have i5 : (L : Int) + 2 ≤ (L : Int) + 2 := by omega
  have i6 : 2 + (L : Int) ≤ (L : Int) + 2 := by omega
  have i7 : ¬ L + 2 = 2 := by omega
  have KD : Hid (∀ w', Below w.heap.size w w' → BR w' (some ⟨b, o + 2, none⟩) L ((xs.take (L + 2)).drop 2)) := fun w' h => HRD.out.below h
  have KR : Hid (∀ w', Below w.heap.size w w' → BR w' (some ⟨b, o, none⟩) 0 (xs.drop (L + 2))) := fun w' h => by rw [List.drop_eq_nil_of_le (by rw [HX.out.len]; exact Nat.le_refl _)]; exact BR.nil_
  have j1 : ¬ L = 0 := by omega
  go_enter Try.func25, Try.ntmps25
  go_wp2_with fail
  (with_reducible refine (rnumber_any _ 2 _ _ _ HR1.out (by omega) L HL.out).mono ?_)
  rintro e w2 ⟨rfl, rfl⟩
  go_wp2_with fail
  go_region_held3 (fun _ => True)
    (exact True.intro)
    (first
      | (refine step_append_e (by rfl) _ _ (by rfl) _ (by rfl) (some ⟨b, o + 2, none⟩) L _ ((xs.take (L + 2)).drop 2) (by rfl) (KD.out _ (by ((repeat (first | (with_reducible assumption) | (with_reducible exact Below.refl _ _) | (with_reducible refine Below.drewS ?_) | (with_reducible refine Below.allocS ?_ _) | (with_reducible refine Below.setS ?_ (by first | omega | (simp; omega)) _))); (first | done | fail)))) (by omega) ?_; intro A1 c1 wa hr1 hb1; have E1 : Below w.heap.size w wa := Below.next (by ((repeat (first | (with_reducible assumption) | (with_reducible exact Below.refl _ _) | (with_reducible refine Below.drewS ?_) | (with_reducible refine Below.allocS ?_ _) | (with_reducible refine Below.setS ?_ (by first | omega | (simp; omega)) _))); (first | done | fail))) hb1; try (have G2 := BR.below hr2 (Below.next (by ((repeat (first | (with_reducible assumption) | (with_reducible exact Below.refl _ _) | (with_reducible refine Below.drewS ?_) | (with_reducible refine Below.allocS ?_ _) | (with_reducible refine Below.setS ?_ (by first | omega | (simp; omega)) _))); (first | done | fail))) hb1)))
      | (refine step_append_e (by rfl) _ _ (by rfl) _ (by rfl) (some ⟨b, o, none⟩) 0 _ (xs.drop (L + 2)) (by rfl) (KR.out _ (by ((repeat (first | (with_reducible assumption) | (with_reducible exact Below.refl _ _) | (with_reducible refine Below.drewS ?_) | (with_reducible refine Below.allocS ?_ _) | (with_reducible refine Below.setS ?_ (by first | omega | (simp; omega)) _))); (first | done | fail)))) (by omega) ?_; intro A2 c2 wb hr2 hb2; have E2 : Below w.heap.size w wb := Below.next (by ((repeat (first | (with_reducible assumption) | (with_reducible exact Below.refl _ _) | (with_reducible refine Below.drewS ?_) | (with_reducible refine Below.allocS ?_ _) | (with_reducible refine Below.setS ?_ (by first | omega | (simp; omega)) _))); (first | done | fail))) hb2; try (have G1 := BR.below hr1 (Below.next (by ((repeat (first | (with_reducible assumption) | (with_reducible exact Below.refl _ _) | (with_reducible refine Below.drewS ?_) | (with_reducible refine Below.allocS ?_ _) | (with_reducible refine Below.setS ?_ (by first | omega | (simp; omega)) _))); (first | done | fail))) hb2))))
  all_goals
    go_wp2_with fail
    refine bodyPost_ret (v := .tuple #[.slice A1 L c1, .slice A2 0 c2, .int .i64 0]) (by simp [results, Try.results25, go_sem]) rfl ?_
    exact ⟨A1, _, c1, A2, _, c2, rfl, by first | exact G1 | exact hr1, by first | exact G2 | exact hr2, (by ((repeat (first | (with_reducible assumption) | (with_reducible exact Below.refl _ _) | (with_reducible refine Below.drewS ?_) | (with_reducible refine Below.allocS ?_ _) | (with_reducible refine Below.setS ?_ (by first | omega | (simp; omega)) _))); (first | done | fail)))⟩
set_option maxHeartbeats 4000000 in
set_option maxRecDepth 100000 in
theorem rreadBytes_gt (b o n c : Nat) (xs : List Nat) (w : World) (hx : BR w (some ⟨b, o, none⟩) n xs) (hc : n ≤ c) (hm : c ≤ maxLen) (L : Nat) (hL : len2 xs = L) (hf : L ≤ 4096) (ht : L + 2 ≤ n) (hck : L + 2 < c) (hn : n ≤ 100000) :
    Calls Try.prog 25 #[.slice (some ⟨b, o, none⟩) n c] w (GaveS ((xs.take (L + 2)).drop 2) (xs.drop (L + 2)) 0 w) := by
  have HX := hide hx
  have HL := hide (show num (xs.take 2) = L from hL)
  have HR1 := hide (hx.take_ (m := 2) (by omega))
  have HRD := hide ((hx.take_ (m := L + 2) (by omega)).drop_ (m := 2) (by omega))
  have HR3 := hide (hx.drop_ (m := L + 2) (by omega))
  have HBD := hide (show By ((xs.take (L + 2)).drop 2) from (hx.2.take _).drop _)
  unfold maxLen at hm
  clear hx hL
  have w2 : IntKind.i64.wrap ((L : Int) + 2) = (L : Int) + 2 := IntWalk.i64_in _ (by omega)
  have w3 : IntKind.i64.wrap (2 + (L : Int)) = 2 + (L : Int) := IntWalk.i64_in _ (by omega)
  have p2 : (0 : Int) ≤ (L : Int) + 2 := by omega
  have p3 : (0 : Int) ≤ 2 + (L : Int) := by omega
  have t2 : ((L : Int) + 2).toNat = L + 2 := by omega
  have t3 : (2 + (L : Int)).toNat = L + 2 := by omega
  have i1 : (2 : Int) ≤ (L : Int) + 2 := by omega
  have i2 : (2 : Int) ≤ 2 + (L : Int) := by omega
  have i3 : (L : Int) + 2 ≤ (n : Int) := by omega
  have i4 : 2 + (L : Int) ≤ (n : Int) := by omega
  have i5 : (L : Int) + 2 ≤ (c : Int) := by omega
  have i6 : 2 + (L : Int) ≤ (c : Int) := by omega
  have i7 : ¬ c = 2 := by omega
  have KD : Hid (∀ w', Below w.heap.size w w' → BR w' (some ⟨b, o + 2, none⟩) L ((xs.take (L + 2)).drop 2)) := fun w' h => HRD.out.below h
  have KR : Hid (∀ w', Below w.heap.size w w' → BR w' (some ⟨b, o + (L + 2), none⟩) (n - (L + 2)) (xs.drop (L + 2))) := fun w' h => HR3.out.below h
  have i8 : ¬ c = L + 2 := by omega
  have i9 : (n : Int) ≤ (c : Int) := by omega
  go_enter Try.func25, Try.ntmps25
  go_wp2_with fail
  (with_reducible refine (rnumber_any _ 2 _ _ _ HR1.out (by omega) L HL.out).mono ?_)
  rintro e w2 ⟨rfl, rfl⟩
  go_wp2_with fail
  go_region_held3 (fun _ => True)
    (exact True.intro)
    (first
      | (refine step_append_e (by rfl) _ _ (by rfl) _ (by rfl) (some ⟨b, o + 2, none⟩) L _ ((xs.take (L + 2)).drop 2) (by rfl) (KD.out _ (by ((repeat (first | (with_reducible assumption) | (with_reducible exact Below.refl _ _) | (with_reducible refine Below.drewS ?_) | (with_reducible refine Below.allocS ?_ _) | (with_reducible refine Below.setS ?_ (by first | omega | (simp; omega)) _))); (first | done | fail)))) (by omega) ?_; intro A1 c1 wa hr1 hb1; have E1 : Below w.heap.size w wa := Below.next (by ((repeat (first | (with_reducible assumption) | (with_reducible exact Below.refl _ _) | (with_reducible refine Below.drewS ?_) | (with_reducible refine Below.allocS ?_ _) | (with_reducible refine Below.setS ?_ (by first | omega | (simp; omega)) _))); (first | done | fail))) hb1; try (have G2 := BR.below hr2 (Below.next (by ((repeat (first | (with_reducible assumption) | (with_reducible exact Below.refl _ _) | (with_reducible refine Below.drewS ?_) | (with_reducible refine Below.allocS ?_ _) | (with_reducible refine Below.setS ?_ (by first | omega | (simp; omega)) _))); (first | done | fail))) hb1)))
      | (refine step_append_e (by rfl) _ _ (by rfl) _ (by rfl) (some ⟨b, o + (L + 2), none⟩) (n - (L + 2)) _ (xs.drop (L + 2)) (by rfl) (KR.out _ (by ((repeat (first | (with_reducible assumption) | (with_reducible exact Below.refl _ _) | (with_reducible refine Below.drewS ?_) | (with_reducible refine Below.allocS ?_ _) | (with_reducible refine Below.setS ?_ (by first | omega | (simp; omega)) _))); (first | done | fail)))) (by omega) ?_; intro A2 c2 wb hr2 hb2; have E2 : Below w.heap.size w wb := Below.next (by ((repeat (first | (with_reducible assumption) | (with_reducible exact Below.refl _ _) | (with_reducible refine Below.drewS ?_) | (with_reducible refine Below.allocS ?_ _) | (with_reducible refine Below.setS ?_ (by first | omega | (simp; omega)) _))); (first | done | fail))) hb2; try (have G1 := BR.below hr1 (Below.next (by ((repeat (first | (with_reducible assumption) | (with_reducible exact Below.refl _ _) | (with_reducible refine Below.drewS ?_) | (with_reducible refine Below.allocS ?_ _) | (with_reducible refine Below.setS ?_ (by first | omega | (simp; omega)) _))); (first | done | fail))) hb2))))
  all_goals
    go_wp2_with fail
    refine bodyPost_ret (v := .tuple #[.slice A1 L c1, .slice A2 (n - (L + 2)) c2, .int .i64 0]) (by simp [results, Try.results25, go_sem]) rfl ?_
    exact ⟨A1, _, c1, A2, _, c2, rfl, by first | exact G1 | exact hr1, by first | exact G2 | exact hr2, (by ((repeat (first | (with_reducible assumption) | (with_reducible exact Below.refl _ _) | (with_reducible refine Below.drewS ?_) | (with_reducible refine Below.allocS ?_ _) | (with_reducible refine Below.setS ?_ (by first | omega | (simp; omega)) _))); (first | done | fail)))⟩
theorem rreadBytes_any (A : Option Addr) (n c : Nat) (xs : List Nat) (w : World) (hx : BR w A n xs) (hc : n ≤ c) (hm : c ≤ maxLen) (hn : n ≤ 100000) (S R : List Nat) (E : Nat) (hS : bS xs = S) (hR : bR xs = R) (hE : rbE xs = E) :
    Calls Try.prog 25 #[.slice A n c] w (GaveS S R E w) := by
  subst hS hR hE
  have hl := hx.len
  by_cases h2 : n < 2
  · have e1 : rbE xs = 4 := by unfold rbE; rw [if_pos (by omega)]
    rw [(bs_no e1 (by omega)).1, (bs_no e1 (by omega)).2, e1]
    exact rreadBytes_short A n c w h2
  obtain ⟨b, o, x, rfl, -⟩ := hx.at_ (j := 0) (by omega)
  by_cases h4 : 4096 < len2 xs
  · have e1 : rbE xs = 6 := by unfold rbE; rw [if_neg (by omega), if_pos h4]
    rw [(bs_no e1 (by omega)).1, (bs_no e1 (by omega)).2, e1]
    exact rreadBytes_full b o n c xs w hx hc hm (by omega) _ rfl h4
  by_cases h5 : n < len2 xs + 2
  · have e1 : rbE xs = 4 := by unfold rbE; rw [if_neg (by omega), if_neg h4, if_pos (by omega)]
    rw [(bs_no e1 (by omega)).1, (bs_no e1 (by omega)).2, e1]
    exact rreadBytes_torn b o n c xs w hx hc hm (by omega) _ rfl (by omega) h5
  · have e1 : rbE xs = 0 := by unfold rbE; rw [if_neg (by omega), if_neg h4, if_neg (by omega)]
    have e2 : bS xs = (xs.take (len2 xs + 2)).drop 2 := by unfold bS; rw [if_pos e1]; rfl
    have e3 : bR xs = xs.drop (len2 xs + 2) := by unfold bR; rw [if_pos e1]; rfl
    rw [e1, e2, e3]
    rcases Nat.lt_or_ge (len2 xs + 2) c with hck | hck
    · exact rreadBytes_gt b o n c xs w hx hc hm _ rfl (by omega) (by omega) hck hn
    · rcases Nat.eq_zero_or_pos (len2 xs) with h0 | h0
      · exact rreadBytes_zero b o n c xs w hx hc hm _ rfl (by omega) (by omega) (by omega) h0 hn
      · exact rreadBytes_eq b o n c xs w hx hc hm _ rfl (by omega) (by omega) (by omega) h0 hn
end Go.Proofs.Ytledmceoeambiaa
