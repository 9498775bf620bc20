/- ReadInt, of the program and of the reference. -/
import Derived.Test.YtledmceoeambiaaFInt
namespace Go.Proofs.Ytledmceoeambiaa
open Go Go.RowKit FM

/-- what ReadInt gives -/
def GaveI (r : Int) (R : List Nat) (E : Nat) (w : World) (e : Ending) (w' : World) : Prop :=
  ∃ A m c, e = .returned (.tuple #[.int .i64 r, .slice A m c, .int .i64 (E : Int)]) ∧ BR w' A m R ∧ Below w.heap.size w w'
set_option maxHeartbeats 1000000 in
theorem readInt_short (A : Option Addr) (n c : Nat) (w : World) (hn : n < 8) :
    Calls Try.prog 19 #[.slice A n c] w (GaveI 0 [] 4 w) := by
  go_enter Try.func19, Try.ntmps19
  go_wp2_with fail
  exact bodyPost_ret (v := .tuple #[.int .i64 0, .slice none 0 0, .int .i64 4]) (by simp [results, Try.results19, go_sem]) rfl ⟨none, 0, 0, rfl, BR.nil_, Below.refl _ _⟩
set_option maxHeartbeats 4000000 in
set_option maxRecDepth 100000 in
theorem readInt_eq (b o n c : Nat) (xs : List Nat) (w : World) (hx : BR w (some ⟨b, o, none⟩) n xs) (hc : n ≤ c) (hm : c ≤ maxLen) (h8 : 8 ≤ n) (hck : c = 8) (hn : n ≤ 100000) (v : Nat) (hv : num (xs.take 8) = v) (r : Int) (hr : IntKind.i64.wrap (v : Int) = r) :
    Calls Try.prog 19 #[.slice (some ⟨b, o, none⟩) n c] w (GaveI r (xs.drop 8) 0 w) := by
  have HX := hide hx
  have HV := hide hv
  have HR1 := hide (hx.take_ (m := 8) (by omega))
  have HR3 := hide (hx.drop_ (m := 8) (by omega))
  unfold maxLen at hm
  clear hx hv
  subst hck
  obtain rfl : n = 8 := by omega
  clear HR3
  have KN : Hid (∀ w', Below w.heap.size w w' → BR w' (some ⟨b, o, none⟩) 8 (xs.take 8)) := fun w' h => HR1.out.below h
  have KR : Hid (∀ w', Below w.heap.size w w' → BR w' (some ⟨b, o, none⟩) 0 (xs.drop 8)) := fun w' h => by rw [List.drop_eq_nil_of_le (by rw [HX.out.len]; exact Nat.le_refl _)]; exact BR.nil_
  go_enter Try.func19, Try.ntmps19
  go_wp2_with fail
  go_region_held3 (fun _ => True)
    (exact True.intro)
    (first
      | (go_at_call 31; (with_reducible refine (number_any _ 8 _ _ _ (KN.out _ (by ((repeat (first | (with_reducible assumption) | (with_reducible exact Below.refl _ _) | (with_reducible refine Below.drewS ?_) | (with_reducible refine Below.allocS ?_ _) | (with_reducible refine Below.setS ?_ (by first | omega | (simp; omega)) _))); (first | done | fail)))) (by omega) v HV.out).mono ?_); rintro e wn ⟨rfl, rfl⟩)
      | (go_at_call 32; (with_reducible refine (clone_any ⟨b, o, none⟩ _ _ _ _ (KR.out _ (by ((repeat (first | (with_reducible assumption) | (with_reducible exact Below.refl _ _) | (with_reducible refine Below.drewS ?_) | (with_reducible refine Below.allocS ?_ _) | (with_reducible refine Below.setS ?_ (by first | omega | (simp; omega)) _))); (first | done | fail)))) (by omega)).mono ?_); rintro e wb ⟨A2, c2, rfl, hb, hb2⟩; have hr2 := hb.br (HX.out.2.drop 8); have E2 : Below w.heap.size w wb := Below.next (by ((repeat (first | (with_reducible assumption) | (with_reducible exact Below.refl _ _) | (with_reducible refine Below.drewS ?_) | (with_reducible refine Below.allocS ?_ _) | (with_reducible refine Below.setS ?_ (by first | omega | (simp; omega)) _))); (first | done | fail))) hb2))
  all_goals
    go_wp2_with fail
    refine bodyPost_ret (v := .tuple #[.int .i64 r, .slice A2 0 c2, .int .i64 0]) (by simp [results, Try.results19, go_sem]) rfl ?_
    exact ⟨A2, _, c2, rfl, hr2, (by ((repeat (first | (with_reducible assumption) | (with_reducible exact Below.refl _ _) | (with_reducible refine Below.drewS ?_) | (with_reducible refine Below.allocS ?_ _) | (with_reducible refine Below.setS ?_ (by first | omega | (simp; omega)) _))); (first | done | fail)))⟩
set_option maxHeartbeats 4000000 in
set_option maxRecDepth 100000 in
theorem readInt_gt (b o n c : Nat) (xs : List Nat) (w : World) (hx : BR w (some ⟨b, o, none⟩) n xs) (hc : n ≤ c) (hm : c ≤ maxLen) (h8 : 8 ≤ n) (hck : 8 < c) (hn : n ≤ 100000) (v : Nat) (hv : num (xs.take 8) = v) (r : Int) (hr : IntKind.i64.wrap (v : Int) = r) :
    Calls Try.prog 19 #[.slice (some ⟨b, o, none⟩) n c] w (GaveI r (xs.drop 8) 0 w) := by
  have HX := hide hx
  have HV := hide hv
  have HR1 := hide (hx.take_ (m := 8) (by omega))
  have HR3 := hide (hx.drop_ (m := 8) (by omega))
  unfold maxLen at hm
  clear hx hv
  have i1 : (8 : Int) ≤ (n : Int) := by omega
  have i2 : (8 : Int) ≤ (c : Int) := by omega
  have i3 : (n : Int) ≤ (c : Int) := by omega
  have i4 : ¬ c = 8 := by omega
  have KN : Hid (∀ w', Below w.heap.size w w' → BR w' (some ⟨b, o, none⟩) 8 (xs.take 8)) := fun w' h => HR1.out.below h
  have KR : Hid (∀ w', Below w.heap.size w w' → BR w' (some ⟨b, o + 8, none⟩) (n - 8) (xs.drop 8)) := fun w' h => HR3.out.below h
  go_enter Try.func19, Try.ntmps19
  go_wp2_with fail
  go_region_held3 (fun _ => True)
    (exact True.intro)
    (first
      | (go_at_call 31; (with_reducible refine (number_any _ 8 _ _ _ (KN.out _ (by ((repeat (first | (with_reducible assumption) | (with_reducible exact Below.refl _ _) | (with_reducible refine Below.drewS ?_) | (with_reducible refine Below.allocS ?_ _) | (with_reducible refine Below.setS ?_ (by first | omega | (simp; omega)) _))); (first | done | fail)))) (by omega) v HV.out).mono ?_); rintro e wn ⟨rfl, rfl⟩)
      | (go_at_call 32; (with_reducible refine (clone_any ⟨b, o + 8, none⟩ _ _ _ _ (KR.out _ (by ((repeat (first | (with_reducible assumption) | (with_reducible exact Below.refl _ _) | (with_reducible refine Below.drewS ?_) | (with_reducible refine Below.allocS ?_ _) | (with_reducible refine Below.setS ?_ (by first | omega | (simp; omega)) _))); (first | done | fail)))) (by omega)).mono ?_); rintro e wb ⟨A2, c2, rfl, hb, hb2⟩; have hr2 := hb.br (HX.out.2.drop 8); have E2 : Below w.heap.size w wb := Below.next (by ((repeat (first | (with_reducible assumption) | (with_reducible exact Below.refl _ _) | (with_reducible refine Below.drewS ?_) | (with_reducible refine Below.allocS ?_ _) | (with_reducible refine Below.setS ?_ (by first | omega | (simp; omega)) _))); (first | done | fail))) hb2))
  all_goals
    go_wp2_with fail
    refine bodyPost_ret (v := .tuple #[.int .i64 r, .slice A2 (n - 8) c2, .int .i64 0]) (by simp [results, Try.results19, go_sem]) rfl ?_
    exact ⟨A2, _, c2, rfl, hr2, (by ((repeat (first | (with_reducible assumption) | (with_reducible exact Below.refl _ _) | (with_reducible refine Below.drewS ?_) | (with_reducible refine Below.allocS ?_ _) | (with_reducible refine Below.setS ?_ (by first | omega | (simp; omega)) _))); (first | done | fail)))⟩
theorem readInt_any (A : Option Addr) (n c : Nat) (xs : List Nat) (w : World) (hx : BR w A n xs) (hc : n ≤ c) (hm : c ≤ maxLen) (hn : n ≤ 100000) (r : Int) (R : List Nat) (E : Nat) (hr : IntKind.i64.wrap (riN xs : Int) = r) (hR : riR xs = R) (hE : riE xs = E) :
    Calls Try.prog 19 #[.slice A n c] w (GaveI r R E w) := by
  subst hR hE
  have hl := hx.len
  by_cases h8 : n < 8
  · have e1 : riE xs = 4 := by unfold riE; rw [if_pos (by omega)]
    have e2 : riR xs = [] := by unfold riR; rw [List.drop_eq_nil_of_le (by omega)]
    have e3 : riN xs = 0 := by unfold riN; rw [if_pos (by omega)]
    rw [e3] at hr
    obtain rfl : 0 = r := by rw [← hr]; rfl
    rw [e1, e2]
    exact readInt_short A n c w h8
  · have e1 : riE xs = 0 := by unfold riE; rw [if_neg (by omega)]
    have e3 : riN xs = num (xs.take 8) := by unfold riN; rw [if_neg (by omega)]
    rw [e3] at hr
    rw [e1]
    obtain ⟨b, o, x, rfl, -⟩ := hx.at_ (j := 0) (by omega)
    rcases Nat.lt_or_ge 8 c with hck | hck
    · exact readInt_gt b o n c xs w hx hc hm (by omega) hck hn _ rfl r hr
    · exact readInt_eq b o n c xs w hx hc hm (by omega) (by omega) hn _ rfl r hr
set_option maxHeartbeats 1000000 in
theorem rreadInt_short (A : Option Addr) (n c : Nat) (w : World) (hn : n < 8) :
    Calls Try.prog 20 #[.slice A n c] w (GaveI 0 [] 4 w) := by
  go_enter Try.func20, Try.ntmps20
  go_wp2_with fail
  exact bodyPost_ret (v := .tuple #[.int .i64 0, .slice none 0 0, .int .i64 4]) (by simp [results, Try.results20, go_sem]) rfl ⟨none, 0, 0, rfl, BR.nil_, Below.refl _ _⟩
set_option maxHeartbeats 4000000 in
set_option maxRecDepth 100000 in
theorem rreadInt_eq (b o n c : Nat) (xs : List Nat) (w : World) (hx : BR w (some ⟨b, o, none⟩) n xs) (hc : n ≤ c) (hm : c ≤ maxLen) (h8 : 8 ≤ n) (hck : c = 8) (hn : n ≤ 100000) (v : Nat) (hv : num (xs.take 8) = v) (r : Int) (hr : IntKind.i64.wrap (v : Int) = r) :
    Calls Try.prog 20 #[.slice (some ⟨b, o, none⟩) n c] w (GaveI r (xs.drop 8) 0 w) := by
  have HX := hide hx
  have HV := hide hv
  have HR1 := hide (hx.take_ (m := 8) (by omega))
  have HR3 := hide (hx.drop_ (m := 8) (by omega))
  unfold maxLen at hm
  clear hx hv
  subst hck
  obtain rfl : n = 8 := by omega
  clear HR3
  have KN : Hid (∀ w', Below w.heap.size w w' → BR w' (some ⟨b, o, none⟩) 8 (xs.take 8)) := fun w' h => HR1.out.below h
  have KR : Hid (∀ w', Below w.heap.size w w' → BR w' (some ⟨b, o, none⟩) 0 (xs.drop 8)) := fun w' h => by rw [List.drop_eq_nil_of_le (by rw [HX.out.len]; exact Nat.le_refl _)]; exact BR.nil_
  go_enter Try.func20, Try.ntmps20
  go_wp2_with fail
  go_region_held3 (fun _ => True)
    (exact True.intro)
    (first
      | (go_at_call 33; (with_reducible refine (rnumber_any _ 8 _ _ _ (KN.out _ (by ((repeat (first | (with_reducible assumption) | (with_reducible exact Below.refl _ _) | (with_reducible refine Below.drewS ?_) | (with_reducible refine Below.allocS ?_ _) | (with_reducible refine Below.setS ?_ (by first | omega | (simp; omega)) _))); (first | done | fail)))) (by omega) v HV.out).mono ?_); rintro e wn ⟨rfl, rfl⟩)
      | (refine step_append_e (by rfl) _ _ (by rfl) _ (by rfl) (some ⟨b, o, none⟩) 0 _ (xs.drop 8) (by rfl) (KR.out _ (by ((repeat (first | (with_reducible assumption) | (with_reducible exact Below.refl _ _) | (with_reducible refine Below.drewS ?_) | (with_reducible refine Below.allocS ?_ _) | (with_reducible refine Below.setS ?_ (by first | omega | (simp; omega)) _))); (first | done | fail)))) (by omega) ?_; intro A2 c2 wb hr2 hb2; have E2 : Below w.heap.size w wb := Below.next (by ((repeat (first | (with_reducible assumption) | (with_reducible exact Below.refl _ _) | (with_reducible refine Below.drewS ?_) | (with_reducible refine Below.allocS ?_ _) | (with_reducible refine Below.setS ?_ (by first | omega | (simp; omega)) _))); (first | done | fail))) hb2))
  all_goals
    go_wp2_with fail
    refine bodyPost_ret (v := .tuple #[.int .i64 r, .slice A2 0 c2, .int .i64 0]) (by simp [results, Try.results20, go_sem]) rfl ?_
    exact ⟨A2, _, c2, rfl, hr2, (by ((repeat (first | (with_reducible assumption) | (with_reducible exact Below.refl _ _) | (with_reducible refine Below.drewS ?_) | (with_reducible refine Below.allocS ?_ _) | (with_reducible refine Below.setS ?_ (by first | omega | (simp; omega)) _))); (first | done | fail)))⟩
set_option maxHeartbeats 4000000 in
set_option maxRecDepth 100000 in
theorem rreadInt_gt (b o n c : Nat) (xs : List Nat) (w : World) (hx : BR w (some ⟨b, o, none⟩) n xs) (hc : n ≤ c) (hm : c ≤ maxLen) (h8 : 8 ≤ n) (hck : 8 < c) (hn : n ≤ 100000) (v : Nat) (hv : num (xs.take 8) = v) (r : Int) (hr : IntKind.i64.wrap (v : Int) = r) :
    Calls Try.prog 20 #[.slice (some ⟨b, o, none⟩) n c] w (GaveI r (xs.drop 8) 0 w) := by
  have HX := hide hx
  have HV := hide hv
  have HR1 := hide (hx.take_ (m := 8) (by omega))
  have HR3 := hide (hx.drop_ (m := 8) (by omega))
  unfold maxLen at hm
  clear hx hv
  have i1 : (8 : Int) ≤ (n : Int) := by omega
  have i2 : (8 : Int) ≤ (c : Int) := by omega
  have i3 : (n : Int) ≤ (c : Int) := by omega
  have i4 : ¬ c = 8 := by omega
  have KN : Hid (∀ w', Below w.heap.size w w' → BR w' (some ⟨b, o, none⟩) 8 (xs.take 8)) := fun w' h => HR1.out.below h
  have KR : Hid (∀ w', Below w.heap.size w w' → BR w' (some ⟨b, o + 8, none⟩) (n - 8) (xs.drop 8)) := fun w' h => HR3.out.below h
  go_enter Try.func20, Try.ntmps20
  go_wp2_with fail
  go_region_held3 (fun _ => True)
    (exact True.intro)
    (first
      | (go_at_call 33; (with_reducible refine (rnumber_any _ 8 _ _ _ (KN.out _ (by ((repeat (first | (with_reducible assumption) | (with_reducible exact Below.refl _ _) | (with_reducible refine Below.drewS ?_) | (with_reducible refine Below.allocS ?_ _) | (with_reducible refine Below.setS ?_ (by first | omega | (simp; omega)) _))); (first | done | fail)))) (by omega) v HV.out).mono ?_); rintro e wn ⟨rfl, rfl⟩)
      | (refine step_append_e (by rfl) _ _ (by rfl) _ (by rfl) (some ⟨b, o + 8, none⟩) (n - 8) _ (xs.drop 8) (by rfl) (KR.out _ (by ((repeat (first | (with_reducible assumption) | (with_reducible exact Below.refl _ _) | (with_reducible refine Below.drewS ?_) | (with_reducible refine Below.allocS ?_ _) | (with_reducible refine Below.setS ?_ (by first | omega | (simp; omega)) _))); (first | done | fail)))) (by omega) ?_; intro A2 c2 wb hr2 hb2; have E2 : Below w.heap.size w wb := Below.next (by ((repeat (first | (with_reducible assumption) | (with_reducible exact Below.refl _ _) | (with_reducible refine Below.drewS ?_) | (with_reducible refine Below.allocS ?_ _) | (with_reducible refine Below.setS ?_ (by first | omega | (simp; omega)) _))); (first | done | fail))) hb2))
  all_goals
    go_wp2_with fail
    refine bodyPost_ret (v := .tuple #[.int .i64 r, .slice A2 (n - 8) c2, .int .i64 0]) (by simp [results, Try.results20, go_sem]) rfl ?_
    exact ⟨A2, _, c2, rfl, hr2, (by ((repeat (first | (with_reducible assumption) | (with_reducible exact Below.refl _ _) | (with_reducible refine Below.drewS ?_) | (with_reducible refine Below.allocS ?_ _) | (with_reducible refine Below.setS ?_ (by first | omega | (simp; omega)) _))); (first | done | fail)))⟩
theorem rreadInt_any (A : Option Addr) (n c : Nat) (xs : List Nat) (w : World) (hx : BR w A n xs) (hc : n ≤ c) (hm : c ≤ maxLen) (hn : n ≤ 100000) (r : Int) (R : List Nat) (E : Nat) (hr : IntKind.i64.wrap (riN xs : Int) = r) (hR : riR xs = R) (hE : riE xs = E) :
    Calls Try.prog 20 #[.slice A n c] w (GaveI r R E w) := by
  subst hR hE
  have hl := hx.len
  by_cases h8 : n < 8
  · have e1 : riE xs = 4 := by unfold riE; rw [if_pos (by omega)]
    have e2 : riR xs = [] := by unfold riR; rw [List.drop_eq_nil_of_le (by omega)]
    have e3 : riN xs = 0 := by unfold riN; rw [if_pos (by omega)]
    rw [e3] at hr
    obtain rfl : 0 = r := by rw [← hr]; rfl
    rw [e1, e2]
    exact rreadInt_short A n c w h8
  · have e1 : riE xs = 0 := by unfold riE; rw [if_neg (by omega)]
    have e3 : riN xs = num (xs.take 8) := by unfold riN; rw [if_neg (by omega)]
    rw [e3] at hr
    rw [e1]
    obtain ⟨b, o, x, rfl, -⟩ := hx.at_ (j := 0) (by omega)
    rcases Nat.lt_or_ge 8 c with hck | hck
    · exact rreadInt_gt b o n c xs w hx hc hm (by omega) hck hn _ rfl r hr
    · exact rreadInt_eq b o n c xs w hx hc hm (by omega) (by omega) hn _ rfl r hr
end Go.Proofs.Ytledmceoeambiaa
