/- The program's journal: Open. -/
import Derived.Test.YtjmpnpflmdpdkaaJIg
import Derived.Lib.SlBytesConst
namespace Go.Proofs.Ytjmpnpflmdpdkaa
open Go Go.RowKit FM

theorem equal_any (A : Option Addr) (n c : Nat) (xs : List Nat) (A' : Option Addr) (m d : Nat) (ys : List Nat) (w : World) (hx : BR w A n xs) (hy : BR w A' m ys) (r : Bool) (hr : decide (xs = ys) = r) :
    Calls Try.prog 45 #[.slice A n c, .slice A' m d] w fun e w' => e = .returned (.bool r) ∧ w = w' := by
  have c1 := run_text w A n c xs hx
  have c2 := run_text w A' m d ys hy
  have HD := hide ((bs_dec hx.2 hy.2).trans hr)
  clear hx hy hr
  generalize bs xs = S at *
  generalize bs ys = T at *
  go_enter Try.func45, Try.ntmps45
  go_wp2_with fail
  go_ret
  exact ⟨ret_bool HD.out, rfl⟩
theorem prefix_any (A : Option Addr) (n c : Nat) (xs : List Nat) (A' : Option Addr) (d : Nat) (ys : List Nat) (w : World) (hx : BR w A n xs) (hn : 5 ≤ n) (hc : n ≤ c) (hm : c ≤ maxLen) (hy : BR w A' 5 ys) (r : Bool) (hr : decide (xs.take 5 = ys) = r) :
    Calls Try.prog 34 #[.slice A n c, .slice A' 5 d] w fun e w' => e = .returned (.bool r) ∧ w = w' := by
  have HX := hide (hx.take_ hn)
  have HY := hide hy
  have HR := hide hr
  unfold maxLen at hm
  have i1 : (5 : Int) ≤ (n : Int) := by omega
  have i2 : (5 : Int) ≤ (c : Int) := by omega
  have i3 : 5 ≤ c := by omega
  clear hx hy hr
  go_enter Try.func34, Try.ntmps34
  go_wp2_with fail
  refine (equal_any A 5 c (xs.take 5) A' 5 d ys _ HX.out HY.out r HR.out).mono ?_
  rintro e w' ⟨rfl, rfl⟩
  go_wp2_with fail
  go_ret
  exact ⟨rfl, rfl⟩
/-- what Open gives -/
def OpR (J : World → Nat → (Nat → Prop) → Nat → List Ent → Prop) (xs : List Nat) (w : World) (e : Ending) (w' : World) : Prop :=
  Below w.heap.size w w' ∧ ((oE xs ≠ 0 ∧ e = .returned (.tuple #[.pointer none, .int .i64 0, .int .i64 (oE xs : Int)])) ∨
    (oE xs = 0 ∧ ∃ p es r, e = .returned (.tuple #[.pointer (some ⟨p, 0, none⟩), .int .i64 (r.length : Int), .int .i64 0]) ∧ Reads (xs.drop 5) es r ∧ J w' w.heap.size (Plus Non w w') p es))
theorem oE_6 {xs : List Nat} (h : 65536 < xs.length) : oE xs = 6 := by unfold oE; rw [if_pos h]
theorem oE_4 {xs : List Nat} (h : xs.length < 5) : oE xs = 4 := by unfold oE; rw [if_neg (by omega), if_pos h]
theorem oE_3 {xs : List Nat} (h1 : ¬ 65536 < xs.length) (h2 : ¬ xs.length < 5) (h : xs.take 5 ≠ coin) : oE xs = 3 := by unfold oE; rw [if_neg h1, if_neg h2, if_pos h]
theorem oE_0 {xs : List Nat} (h1 : ¬ 65536 < xs.length) (h2 : ¬ xs.length < 5) (h : xs.take 5 = coin) : oE xs = 0 := by unfold oE; rw [if_neg h1, if_neg h2, if_neg (fun e => e h)]
set_option maxHeartbeats 1000000 in
theorem jopen_no (A : Option Addr) (n c : Nat) (xs : List Nat) (w : World) (hx : BR w A n xs) (h : oE xs = 6 ∨ oE xs = 4) :
    Calls Try.prog 19 #[.slice A n c] w (OpR JN xs w) := by
  have hl := hx.len
  by_cases h1 : 65536 < n
  · have e := oE_6 (xs := xs) (by omega)
    clear hx hl h
    go_enter Try.func19, Try.ntmps19
    go_wp2_with fail
    refine bodyPost_ret (v := .tuple #[.pointer none, .int .i64 0, .int .i64 6]) (by simp [results, Try.results19, go_sem]) rfl ?_
    exact ⟨Below.refl _ _, .inl ⟨by omega, by rw [e]; rfl⟩⟩
  · have h2 : n < 5 := by
      by_cases h2 : n < 5
      · exact h2
      · exfalso
        unfold oE at h
        rw [if_neg (by omega), if_neg (by omega)] at h
        split at h <;> omega
    have e := oE_4 (xs := xs) (by omega)
    clear hx hl h
    go_enter Try.func19, Try.ntmps19
    go_wp2_with fail
    refine bodyPost_ret (v := .tuple #[.pointer none, .int .i64 0, .int .i64 4]) (by simp [results, Try.results19, go_sem]) rfl ?_
    exact ⟨Below.refl _ _, .inl ⟨by omega, by rw [e]; rfl⟩⟩
theorem rest_br {w : World} {b o n c k : Nat} {xs : List Nat} (h : BR w (some ⟨b, o, none⟩) n xs) (hk : k ≤ n) (hc : n ≤ c) : BR w (if c = k then some ⟨b, o, none⟩ else some ⟨b, o + k, none⟩) (n - k) (xs.drop k) := by
  have hd := h.drop_ hk
  split
  · obtain rfl : n = k := by omega
    refine ⟨⟨hd.1.1, fun h0 => by omega⟩, hd.2⟩
  · exact hd
set_option maxHeartbeats 2000000 in
theorem jopen_form (A : Option Addr) (n c : Nat) (xs : List Nat) (w : World) (hx : BR w A n xs) (hc : n ≤ c) (hm : c ≤ maxLen) (h1 : ¬ 65536 < n) (h2 : 5 ≤ n) (h : xs.take 5 ≠ coin) :
    Calls Try.prog 19 #[.slice A n c] w (OpR JN xs w) := by
  have HE := hide (oE_3 (xs := xs) (by rw [hx.len]; omega) (by rw [hx.len]; omega) h)
  have HX := hide hx
  have HD := hide (show decide (xs.take 5 = coin) = false from decide_eq_false h)
  have hm2 := hm
  unfold maxLen at hm2
  have i1 : ¬ n < 5 := by omega
  have i2 : (5 : Int) ≤ (n : Int) := by omega
  have kc := fun (w : World) (C : Array Value) (n c : Nat) => Lib.run_convert_bytes_const (P := Try.prog) w 31 5 C n c Try.underlying31 Try.underlying5
  clear hx h
  go_enter Try.func19, Try.ntmps19
  go_wp2_with fail
  have hl := litC coin (rfl : w.alloc (.cells #[.int .u8 67, .int .u8 79, .int .u8 73, .int .u8 78, .int .u8 49] 5 (5, 6)) = _) rfl rfl coin_by
  have HL := hide hl.2.1
  have HB := hide hl.1
  clear hl
  generalize hW : World.alloc w _ = W at *
  (with_reducible refine (prefix_any A n c xs _ _ coin _ (HX.out.below HB.out) h2 hc hm HL.out false HD.out).mono ?_)
  rintro e w' ⟨rfl, rfl⟩
  go_wp2_with fail
  refine bodyPost_ret (v := .tuple #[.pointer none, .int .i64 0, .int .i64 3]) (by simp [results, Try.results19, go_sem]) rfl ?_
  exact ⟨HB.out, .inl ⟨by rw [HE.out]; omega, by rw [HE.out]; rfl⟩⟩
def sln : Value → Nat
  | .slice _ n _ => n
  | _ => 0
theorem coin_fr {xs : List Nat} {n : Nat} {es : List Ent} {r : List Nat} (hl : xs.length = n) (h5 : 5 ≤ n) (h : xs.drop 5 = fr es ++ r) : (jb es).length + r.length = n := by
  have e := congrArg List.length h
  rw [List.length_append, List.length_drop] at e
  rw [jb_len]
  omega
theorem jn_add {w w1 w2 : World} {p : Nat} {es : List Ent} (h1 : JN w2 w.heap.size (Plus (Plus Non w w1) w1 w2) p es) (hb : Below w.heap.size w w1) (ht : Turn (Plus Non w w1) w1 w2) : JN w2 w.heap.size (Plus Non w w2) p es ∧ Below w.heap.size w w2 := by
  have s1 := hb.size
  have s2 := ht.size
  refine ⟨h1.mono (fun k hk => ?_) (fun k hk => ?_), ht.onto hb (fun k hk => ?_)⟩
  · rcases hk with (hk | hk) | hk
    · exact hk.elim
    · exact .inr (by omega)
    · exact .inr (by omega)
  · rcases hk with hk | hk
    · exact hk.elim
    · exact hk
  · rcases hk with hk | hk
    · exact hk.elim
    · exact hk.1
theorem jn_carry {w w1 w2 : World} {p : Nat} {es : List Ent} (h : JN w1 w.heap.size (Plus Non w w1) p es) (hb : Below w.heap.size w w1) (h2 : Below w1.heap.size w1 w2) : JN w2 w.heap.size (Plus Non w w2) p es ∧ Below w.heap.size w w2 := by
  have s1 := hb.size
  have s2 := h2.size
  refine ⟨(h.below h2).mono (fun k hk => ?_) (fun k hk => ?_), hb.trans (h2.mono s1)⟩
  · rcases hk with hk | hk
    · exact hk.elim
    · exact .inr (by omega)
  · rcases hk with hk | hk
    · exact hk.elim
    · exact hk
theorem jn_first {w W w1 : World} {p : Nat} {es : List Ent} (hb : Below w.heap.size w W) (h : JN w1 W.heap.size (Plus Non W w1) p es) (h2 : Below W.heap.size W w1) : JN w1 w.heap.size (Plus Non w w1) p es ∧ Below w.heap.size w w1 := by
  have s1 := hb.size
  refine ⟨(h.low s1).mono (fun k hk => ?_) (fun k hk => ?_), hb.trans (h2.mono s1)⟩
  · rcases hk with hk | hk
    · exact hk.elim
    · exact .inr (by omega)
  · rcases hk with hk | hk
    · exact hk.elim
    · exact hk
set_option maxHeartbeats 8000000 in
theorem jopen_eq (b o n c : Nat) (xs : List Nat) (w : World) (hx : BR w (some ⟨b, o, none⟩) n xs) (hc : n ≤ c) (hm : c ≤ maxLen) (h1 : n ≤ 65536) (h2 : 5 ≤ n) (h : xs.take 5 = coin) (hc5 : c = 5) :
    Calls Try.prog 19 #[.slice (some ⟨b, o, none⟩) n c] w (OpR JN xs w) := by
  subst hc5
  obtain rfl : n = 5 := by omega
  have HE := hide (oE_0 (xs := xs) (by rw [hx.len]; omega) (by rw [hx.len]; omega) h)
  have HX := hide hx
  have HXL := hide hx.len
  have HD := hide (show decide (xs.take 5 = coin) = true from decide_eq_true h)
  have HRST := hide (show BR w (some ⟨b, o, none⟩) 0 (xs.drop 5) from by
    have := rest_br hx h2 hc
    simpa using this)
  have hm2 := hm
  unfold maxLen at hm2
  have i1 : ¬ 5 < 5 := by omega
  have i2 : (5 : Int) ≤ (5 : Int) := by omega
  have i3 : ¬ 65536 < 5 := by omega
  have i4 : (5 : Int) ≤ (5 : Int) := by omega
  have kc := fun (w : World) (C : Array Value) (n c : Nat) => Lib.run_convert_bytes_const (P := Try.prog) w 31 5 C n c Try.underlying31 Try.underlying5
  clear hx h
  go_enter Try.func19, Try.ntmps19
  go_wp2_with fail
  have hl := litC coin (rfl : w.alloc (.cells #[.int .u8 67, .int .u8 79, .int .u8 73, .int .u8 78, .int .u8 49] 5 (5, 6)) = _) rfl rfl coin_by
  have HL := hide hl.2.1
  have HB := hide hl.1
  clear hl
  generalize hW : World.alloc w _ = W at *
  (with_reducible refine (prefix_any _ 5 5 xs _ _ coin _ (HX.out.below HB.out) h2 hc hm HL.out true HD.out).mono ?_)
  rintro e w' ⟨rfl, rfl⟩
  clear kc HL HD
  go_wp2_with fail
  (with_reducible refine (new_any _).mono ?_)
  rintro e w1 ⟨p, rfl, hj, hb⟩
  obtain ⟨hj1, hb1⟩ := jn_first HB.out hj hb
  have HJ1 := hide hj1
  have HB1 := hide hb1
  clear hj hb hj1 hb1 HB hW
  go_wp2_with fail
  (with_reducible refine (size_any (some ⟨b, o, none⟩) 0 0 (xs.drop 5) _ (HRST.out.below HB1.out) (by omega) (by unfold maxLen; omega) _ rfl).mono ?_)
  rintro e w2 ⟨rfl, hb2⟩
  obtain ⟨hj2, hbb⟩ := jn_carry HJ1.out HB1.out hb2
  have HJ2 := hide hj2
  have HB2 := hide hbb
  clear HJ1 HB1 hb2 hj2 hbb
  go_wp2_with fail
  go_loopw [6, 7] (fun v6 v7 wr => ∃ (Al : Option Addr) (m c' : Nat) (es : List Ent) (r : List Nat), v6 = .slice Al m c' ∧ v7 = .int .i64 (szF r : Int) ∧ BR w Al m r ∧ m ≤ c' ∧ c' ≤ 5 ∧ Hid (xs.drop 5 = fr es ++ r ∧ OkE es) ∧ JN wr w.heap.size (Plus Non w wr) p es ∧ Below w.heap.size w wr) (fun v6 _ _ => sln v6)
  case atStart => exact ⟨(some ⟨b, o, none⟩), 0, 0, [], xs.drop 5, rfl, rfl, HRST.out, by omega, by omega, hide ⟨rfl, OkE.nil⟩, HJ2.out, HB2.out⟩
  case round =>
    clear HJ2 HB2 HRST
    obtain ⟨Al, m, c', es, r, rfl, rfl, hr, hmc, hcc, HF, hj, hb⟩ := hrel
    have HJ := hide hj
    have HB := hide hb
    have HR := hide hr
    have hrl := hr.len
    have hsl := szF_le (xs := r)
    have HS := hide (szF_pos (xs := r))
    have HS0 := hide (szF_zero (xs := r))
    have HN := hide (coin_fr HXL.out h2 HF.out.1)
    clear hj hb hr
    generalize hz : szF r = z at *
    by_cases hz0 : z = 0
    · have HO := hide (HS0.out hz0)
      subst hz0
      subst hrl
      clear HS HS0
      go_wp2_with fail
      refine bodyPost_ret (v := .tuple #[.pointer (some ⟨p, 0, none⟩), .int .i64 (r.length : Int), .int .i64 0]) (by simp [results, Try.results19, go_sem]) rfl ?_
      exact ⟨HB.out, .inr ⟨HE.out, p, es, r, rfl, ⟨HF.out.1, HF.out.2, HO.out⟩, HJ.out⟩⟩
    · have hle2 : z ≤ m := by omega
      obtain ⟨b1, o1, x1, rfl, -, -, -⟩ := HR.out.at_ (j := 0) (by omega)
      have HZ := hide (HS.out (by omega))
      have HRB := hide (HR.out.2)
      have HM := hide (reads_more HF.out.1 HF.out.2 HRB.out HZ.out.1)
      have HFR := hide (show BR w (some ⟨b1, o1, none⟩) z (frame (opK r) (opD r)) from by
        have e1 := HR.out.take_ hle2
        have e2 : r.take z = frame (opK r) (opD r) := by
          conv => lhs; rw [HM.out.2.2.1]
          exact List.take_left' (by rw [frame_len, HZ.out.2.2.1, HZ.out.2.1])
        rw [e2] at e1
        exact e1)
      have HRR := hide (show BR w (if c' = z then some ⟨b1, o1, none⟩ else some ⟨b1, o1 + z, none⟩) (m - z) (opR r) from by
        have := rest_br HR.out hle2 hmc
        rw [HZ.out.2.2.2]; exact this)
      have HF2 := hide (show xs.drop 5 = fr (es ++ [(opK r, opD r)]) ++ opR r ∧ OkE (es ++ [(opK r, opD r)]) from ⟨HM.out.1, HM.out.2.1⟩)
      have hd8 : (opD r).length ≤ 8192 := HM.out.2.2.2.2.1
      have hjl : (jb es).length + (opD r).length + 9 ≤ 65536 := by
        have e1 := HM.out.2.2.2.1
        have e2 := HN.out
        omega
      have HKK := hide HM.out.2.2.2.2.2.1
      have HDD := hide HM.out.2.2.2.2.2.2
      have hwz : w.heap.size ≤ wr.heap.size := HB.out.size
      have z1 : (0 : Int) < (z : Int) := by omega
      have z2 : (0 : Int) ≤ (z : Int) := by omega
      have z3 : (z : Int) ≤ (m : Int) := by omega
      have z4 : (z : Int) ≤ (c' : Int) := by omega
      clear HS HS0 HM HZ HR HF hz
      by_cases hcz : c' = z
      · subst hcz
        obtain rfl : c' = m := by omega
        have HRA := hide (show BR w (some ⟨b1, o1, none⟩) 0 (opR r) from by have := HRR.out; rw [if_pos rfl, Nat.sub_self] at this; exact this)
        clear HRR
        go_wp2_with fail
        (with_reducible refine (add_any p w.heap.size (Plus Non w wr) es _ HJ.out hwz _ _ _ (opK r) (opD r) (HFR.out.below HB.out) HKK.out HDD.out hd8 hjl).mono ?_)
        rintro e w3 ⟨rfl, hj3, ht3⟩
        obtain ⟨hj4, hb4⟩ := jn_add hj3 HB.out ht3
        have HJ4 := hide hj4
        have HB4 := hide hb4
        clear hj3 ht3 hj4 hb4 HJ HB
        go_wp2_with fail
        (with_reducible refine (size_any _ 0 0 (opR r) _ (HRA.out.below HB4.out) (by omega) (by unfold maxLen; omega) _ rfl).mono ?_)
        rintro e w5 ⟨rfl, hb5⟩
        obtain ⟨hj6, hb6⟩ := jn_carry HJ4.out HB4.out hb5
        have HJ6 := hide hj6
        have HB6 := hide hb6
        clear HJ4 HB4 hb5 hj6 hb6
        go_wp2_with fail
        go_roundw
        case measure => simp [sln]; omega
        case rel => exact ⟨_, _, _, es ++ [(opK r, opD r)], opR r, rfl, rfl, HRA.out, by omega, by omega, HF2, HJ6.out, HB6.out⟩
      · have HRA := hide (show BR w (some ⟨b1, o1 + z, none⟩) (m - z) (opR r) from by have := HRR.out; rw [if_neg hcz] at this; exact this)
        clear HRR
        go_wp2_with fail
        (with_reducible refine (add_any p w.heap.size (Plus Non w wr) es _ HJ.out hwz _ _ _ (opK r) (opD r) (HFR.out.below HB.out) HKK.out HDD.out hd8 hjl).mono ?_)
        rintro e w3 ⟨rfl, hj3, ht3⟩
        obtain ⟨hj4, hb4⟩ := jn_add hj3 HB.out ht3
        have HJ4 := hide hj4
        have HB4 := hide hb4
        clear hj3 ht3 hj4 hb4 HJ HB
        go_wp2_with fail
        (with_reducible refine (size_any _ (m - z) (c' - z) (opR r) _ (HRA.out.below HB4.out) (by omega) (by unfold maxLen; omega) _ rfl).mono ?_)
        rintro e w5 ⟨rfl, hb5⟩
        obtain ⟨hj6, hb6⟩ := jn_carry HJ4.out HB4.out hb5
        have HJ6 := hide hj6
        have HB6 := hide hb6
        clear HJ4 HB4 hb5 hj6 hb6
        go_wp2_with fail
        go_roundw
        case measure => simp [sln]; omega
        case rel => exact ⟨_, _, _, es ++ [(opK r, opD r)], opR r, rfl, rfl, HRA.out, by omega, by omega, HF2, HJ6.out, HB6.out⟩
set_option maxHeartbeats 8000000 in
theorem jopen_gt (b o n c : Nat) (xs : List Nat) (w : World) (hx : BR w (some ⟨b, o, none⟩) n xs) (hc : n ≤ c) (hm : c ≤ maxLen) (h1 : n ≤ 65536) (h2 : 5 ≤ n) (h : xs.take 5 = coin) (hc5 : 5 < c) :
    Calls Try.prog 19 #[.slice (some ⟨b, o, none⟩) n c] w (OpR JN xs w) := by
  have hc6 : ¬ c = 5 := by omega
  have HE := hide (oE_0 (xs := xs) (by rw [hx.len]; omega) (by rw [hx.len]; omega) h)
  have HX := hide hx
  have HXL := hide hx.len
  have HD := hide (show decide (xs.take 5 = coin) = true from decide_eq_true h)
  have HRST := hide (show BR w (some ⟨b, o + 5, none⟩) (n - 5) (xs.drop 5) from by
    have := rest_br hx h2 hc
    simpa [hc6] using this)
  have hm2 := hm
  unfold maxLen at hm2
  have i1 : ¬ n < 5 := by omega
  have i2 : (5 : Int) ≤ (n : Int) := by omega
  have i3 : ¬ 65536 < n := by omega
  have i4 : (5 : Int) ≤ (c : Int) := by omega
  have kc := fun (w : World) (C : Array Value) (n c : Nat) => Lib.run_convert_bytes_const (P := Try.prog) w 31 5 C n c Try.underlying31 Try.underlying5
  clear hx h
  go_enter Try.func19, Try.ntmps19
  go_wp2_with fail
  have hl := litC coin (rfl : w.alloc (.cells #[.int .u8 67, .int .u8 79, .int .u8 73, .int .u8 78, .int .u8 49] 5 (5, 6)) = _) rfl rfl coin_by
  have HL := hide hl.2.1
  have HB := hide hl.1
  clear hl
  generalize hW : World.alloc w _ = W at *
  (with_reducible refine (prefix_any _ n c xs _ _ coin _ (HX.out.below HB.out) h2 hc hm HL.out true HD.out).mono ?_)
  rintro e w' ⟨rfl, rfl⟩
  clear kc HL HD
  go_wp2_with fail
  (with_reducible refine (new_any _).mono ?_)
  rintro e w1 ⟨p, rfl, hj, hb⟩
  obtain ⟨hj1, hb1⟩ := jn_first HB.out hj hb
  have HJ1 := hide hj1
  have HB1 := hide hb1
  clear hj hb hj1 hb1 HB hW
  go_wp2_with fail
  (with_reducible refine (size_any (some ⟨b, o + 5, none⟩) (n - 5) (c - 5) (xs.drop 5) _ (HRST.out.below HB1.out) (by omega) (by unfold maxLen; omega) _ rfl).mono ?_)
  rintro e w2 ⟨rfl, hb2⟩
  obtain ⟨hj2, hbb⟩ := jn_carry HJ1.out HB1.out hb2
  have HJ2 := hide hj2
  have HB2 := hide hbb
  clear HJ1 HB1 hb2 hj2 hbb
  go_wp2_with fail
  go_loopw [6, 7] (fun v6 v7 wr => ∃ (Al : Option Addr) (m c' : Nat) (es : List Ent) (r : List Nat), v6 = .slice Al m c' ∧ v7 = .int .i64 (szF r : Int) ∧ BR w Al m r ∧ m ≤ c' ∧ c' ≤ c ∧ Hid (xs.drop 5 = fr es ++ r ∧ OkE es) ∧ JN wr w.heap.size (Plus Non w wr) p es ∧ Below w.heap.size w wr) (fun v6 _ _ => sln v6)
  case atStart => exact ⟨(some ⟨b, o + 5, none⟩), (n - 5), (c - 5), [], xs.drop 5, rfl, rfl, HRST.out, by omega, by omega, hide ⟨rfl, OkE.nil⟩, HJ2.out, HB2.out⟩
  case round =>
    clear HJ2 HB2 HRST
    obtain ⟨Al, m, c', es, r, rfl, rfl, hr, hmc, hcc, HF, hj, hb⟩ := hrel
    have HJ := hide hj
    have HB := hide hb
    have HR := hide hr
    have hrl := hr.len
    have hsl := szF_le (xs := r)
    have HS := hide (szF_pos (xs := r))
    have HS0 := hide (szF_zero (xs := r))
    have HN := hide (coin_fr HXL.out h2 HF.out.1)
    clear hj hb hr
    generalize hz : szF r = z at *
    by_cases hz0 : z = 0
    · have HO := hide (HS0.out hz0)
      subst hz0
      subst hrl
      clear HS HS0
      go_wp2_with fail
      refine bodyPost_ret (v := .tuple #[.pointer (some ⟨p, 0, none⟩), .int .i64 (r.length : Int), .int .i64 0]) (by simp [results, Try.results19, go_sem]) rfl ?_
      exact ⟨HB.out, .inr ⟨HE.out, p, es, r, rfl, ⟨HF.out.1, HF.out.2, HO.out⟩, HJ.out⟩⟩
    · have hle2 : z ≤ m := by omega
      obtain ⟨b1, o1, x1, rfl, -, -, -⟩ := HR.out.at_ (j := 0) (by omega)
      have HZ := hide (HS.out (by omega))
      have HRB := hide (HR.out.2)
      have HM := hide (reads_more HF.out.1 HF.out.2 HRB.out HZ.out.1)
      have HFR := hide (show BR w (some ⟨b1, o1, none⟩) z (frame (opK r) (opD r)) from by
        have e1 := HR.out.take_ hle2
        have e2 : r.take z = frame (opK r) (opD r) := by
          conv => lhs; rw [HM.out.2.2.1]
          exact List.take_left' (by rw [frame_len, HZ.out.2.2.1, HZ.out.2.1])
        rw [e2] at e1
        exact e1)
      have HRR := hide (show BR w (if c' = z then some ⟨b1, o1, none⟩ else some ⟨b1, o1 + z, none⟩) (m - z) (opR r) from by
        have := rest_br HR.out hle2 hmc
        rw [HZ.out.2.2.2]; exact this)
      have HF2 := hide (show xs.drop 5 = fr (es ++ [(opK r, opD r)]) ++ opR r ∧ OkE (es ++ [(opK r, opD r)]) from ⟨HM.out.1, HM.out.2.1⟩)
      have hd8 : (opD r).length ≤ 8192 := HM.out.2.2.2.2.1
      have hjl : (jb es).length + (opD r).length + 9 ≤ 65536 := by
        have e1 := HM.out.2.2.2.1
        have e2 := HN.out
        omega
      have HKK := hide HM.out.2.2.2.2.2.1
      have HDD := hide HM.out.2.2.2.2.2.2
      have hwz : w.heap.size ≤ wr.heap.size := HB.out.size
      have z1 : (0 : Int) < (z : Int) := by omega
      have z2 : (0 : Int) ≤ (z : Int) := by omega
      have z3 : (z : Int) ≤ (m : Int) := by omega
      have z4 : (z : Int) ≤ (c' : Int) := by omega
      clear HS HS0 HM HZ HR HF hz
      by_cases hcz : c' = z
      · subst hcz
        obtain rfl : c' = m := by omega
        have HRA := hide (show BR w (some ⟨b1, o1, none⟩) 0 (opR r) from by have := HRR.out; rw [if_pos rfl, Nat.sub_self] at this; exact this)
        clear HRR
        go_wp2_with fail
        (with_reducible refine (add_any p w.heap.size (Plus Non w wr) es _ HJ.out hwz _ _ _ (opK r) (opD r) (HFR.out.below HB.out) HKK.out HDD.out hd8 hjl).mono ?_)
        rintro e w3 ⟨rfl, hj3, ht3⟩
        obtain ⟨hj4, hb4⟩ := jn_add hj3 HB.out ht3
        have HJ4 := hide hj4
        have HB4 := hide hb4
        clear hj3 ht3 hj4 hb4 HJ HB
        go_wp2_with fail
        (with_reducible refine (size_any _ 0 0 (opR r) _ (HRA.out.below HB4.out) (by omega) (by unfold maxLen; omega) _ rfl).mono ?_)
        rintro e w5 ⟨rfl, hb5⟩
        obtain ⟨hj6, hb6⟩ := jn_carry HJ4.out HB4.out hb5
        have HJ6 := hide hj6
        have HB6 := hide hb6
        clear HJ4 HB4 hb5 hj6 hb6
        go_wp2_with fail
        go_roundw
        case measure => simp [sln]; omega
        case rel => exact ⟨_, _, _, es ++ [(opK r, opD r)], opR r, rfl, rfl, HRA.out, by omega, by omega, HF2, HJ6.out, HB6.out⟩
      · have HRA := hide (show BR w (some ⟨b1, o1 + z, none⟩) (m - z) (opR r) from by have := HRR.out; rw [if_neg hcz] at this; exact this)
        clear HRR
        go_wp2_with fail
        (with_reducible refine (add_any p w.heap.size (Plus Non w wr) es _ HJ.out hwz _ _ _ (opK r) (opD r) (HFR.out.below HB.out) HKK.out HDD.out hd8 hjl).mono ?_)
        rintro e w3 ⟨rfl, hj3, ht3⟩
        obtain ⟨hj4, hb4⟩ := jn_add hj3 HB.out ht3
        have HJ4 := hide hj4
        have HB4 := hide hb4
        clear hj3 ht3 hj4 hb4 HJ HB
        go_wp2_with fail
        (with_reducible refine (size_any _ (m - z) (c' - z) (opR r) _ (HRA.out.below HB4.out) (by omega) (by unfold maxLen; omega) _ rfl).mono ?_)
        rintro e w5 ⟨rfl, hb5⟩
        obtain ⟨hj6, hb6⟩ := jn_carry HJ4.out HB4.out hb5
        have HJ6 := hide hj6
        have HB6 := hide hb6
        clear HJ4 HB4 hb5 hj6 hb6
        go_wp2_with fail
        go_roundw
        case measure => simp [sln]; omega
        case rel => exact ⟨_, _, _, es ++ [(opK r, opD r)], opR r, rfl, rfl, HRA.out, by omega, by omega, HF2, HJ6.out, HB6.out⟩
theorem jopen_any (A : Option Addr) (n c : Nat) (xs : List Nat) (w : World) (hx : BR w A n xs) (hc : n ≤ c) (hm : c ≤ maxLen) :
    Calls Try.prog 19 #[.slice A n c] w (OpR JN xs w) := by
  have hl := hx.len
  by_cases h1 : 65536 < n
  · exact jopen_no A n c xs w hx (.inl (oE_6 (by omega)))
  by_cases h2 : n < 5
  · exact jopen_no A n c xs w hx (.inr (oE_4 (by omega)))
  by_cases h3 : xs.take 5 = coin
  · obtain ⟨b, o, x, rfl, -, -, -⟩ := hx.at_ (j := 0) (by omega)
    by_cases h5 : c = 5
    · exact jopen_eq b o n c xs w hx hc hm (by omega) (by omega) h3 h5
    · exact jopen_gt b o n c xs w hx hc hm (by omega) (by omega) h3 (by omega)
  · exact jopen_form A n c xs w hx hc hm h1 (by omega) h3
end Go.Proofs.Ytjmpnpflmdpdkaa
