/- The reference's Order. -/
import Derived.Test.YtgmdfaamheblmaaPRef
namespace Go.Proofs.Ytgmdfaamheblmaa
open Go Go.RowKit PM

/-- the reference's test, k arcs looked at -/
def freeB (bs : List (Nat × Nat)) (s : List Nat) (v k : Nat) : Bool := !dn s v && (bs.take k).all fun p => !(p.2 == v) || dn s p.1
theorem freeB_zero (bs s v) : freeB bs s v 0 = !dn s v := by unfold freeB; simp
theorem freeB_next {bs : List (Nat × Nat)} {s : List Nat} {v k p q : Nat} (h : bs[k]? = some (p, q)) : freeB bs s v (k + 1) = (freeB bs s v k && (!(q == v) || dn s p)) := by
  unfold freeB
  rw [take_nextA h, List.all_append, Bool.and_assoc]
  simp
theorem freeB_end {n : Nat} {bs : List (Nat × Nat)} (hd : Dig n bs) (s : List Nat) (v : Nat) {k : Nat} (hk : bs.length ≤ k) : freeB bs s v k = rdyB n (adj bs) s v := by
  unfold freeB rdyB
  rw [List.take_of_length_le hk]
  show (!dn s v && _) = (!dn s v && _)
  congr 1
  rw [Bool.eq_iff_iff, List.all_eq_true, List.all_eq_true]
  constructor
  · intro h p hp
    rcases ht : adj bs p v with _ | _
    · rfl
    · have := h (p, v) (adj_iff.1 ht)
      simp only [beq_self_eq_true, Bool.not_true, Bool.false_or] at this
      show (!true || dn s p) = true
      rw [this]; rfl
  · intro h p hp
    obtain ⟨a, b⟩ := p
    by_cases e : b = v
    · subst e
      have hab := hd.fits _ hp
      have := h a (List.mem_range.2 hab.1)
      rw [show adj bs a b = true from adj_iff.2 hp] at this
      simp only at this ⊢
      rw [show dn s a = true from by simpa [dn] using this]
      simp
    · have : (b == v) = false := beq_eq_false_iff_ne.2 e
      simp only [this]; rfl
/-- a place as the reference keeps it -/
def nxI (n r : Nat) : Int := if r < n then (r : Int) else -1
theorem leastF_yes {n : Nat} {p : Nat → Bool} {f i : Nat} (hp : p i = true) : leastF n p (f + 1) i = i := by unfold leastF; rw [if_pos hp]
theorem leastF_not {n : Nat} {p : Nat → Bool} {f i : Nat} (hp : p i = false) : leastF n p (f + 1) i = leastF n p f (i + 1) := by
  conv => lhs; unfold leastF
  rw [if_neg (by rw [hp]; decide)]
set_option maxHeartbeats 2000000 in
theorem ror_v (n : Int) (A : Option Addr) (m c : Nat) (l : List (Int × Int)) (w : World) (hx : YL w A m l) (hv : vB n l = false) :
    Calls Try.prog 26 #[.int .i64 n, .slice A m c] w (GivesL [] 1 w) := by
  have HX := hide hx
  have HV := hide hv
  clear hx hv
  go_enter Try.func26, Try.ntmps26
  go_wp2_with fail
  refine (rvalid_any n A m c l _ HX.out false HV.out).mono ?_
  rintro e w1 ⟨rfl, B⟩
  go_wp2_with fail
  refine bodyPost_ret (v := .tuple #[.slice none 0 0, .int .i64 1]) (by simp [results, Try.results26, go_sem]) rfl ?_
  exact GivesL.nil B
set_option maxHeartbeats 16000000 in
theorem ror_y (n : Nat) (A : Option Addr) (m c : Nat) (bs : List (Nat × Nat)) (w : World) (hx : YL w A m (bs.map zA)) (hd : Dig n bs) (d : List Nat) (hdd : ord n (adj bs) = d) (xs : List Nat) (er : Int) (hr : (d.length < n ∧ xs = [] ∧ er = 11) ∨ (d.length = n ∧ xs = d ∧ er = 0)) :
    Calls Try.prog 26 #[.int .i64 (n : Int), .slice A m c] w (GivesL xs er w) := by
  have HX := hide hx
  have HV := hide (vB_of hd)
  have HD := hide hd
  have HDD := hide hdd
  have HR := hide hr
  have hn := hd.le
  have hml : m ≤ 576 := by have := hd.len576; have := hx.1; simp at this; omega
  have HBL := hide (show bs.length ≤ m from by have := hx.1; simp at this; omega)
  clear hx hd hdd hr
  go_enter Try.func26, Try.ntmps26
  go_wp2_with fail
  refine (rvalid_any n A m c _ _ HX.out true HV.out).mono ?_
  rintro e w1 ⟨rfl, B⟩
  go_wp2_with fail
  obtain ⟨G, hG⟩ : ∃ G, w1.heap.size = G := ⟨_, rfl⟩
  have HG := hide (show w.heap.size ≤ G from by rw [← hG]; exact B.size)
  have HG1 := hide (Nat.le_of_eq hG.symm)
  clear hG
  go_loopw [6] (fun v6 wr => ∃ (s : List Nat) (q : Nat) (As : Option Addr) (cs : Nat), v6 = .slice As q cs ∧ IR wr G As q cs s ∧ Beg n (adj bs) s ∧ q ≤ n ∧ Hid (ordF n (adj bs) (n - q) s = d) ∧ Below w.heap.size w wr ∧ G ≤ wr.heap.size) (fun v6 _ => n - slen v6)
  case atStart => exact ⟨[], 0, none, 0, rfl, IR.nil_, Beg.nil, Nat.zero_le _, HDD, B, HG1.out⟩
  case round =>
    clear B HG1
    obtain ⟨s, q, As, cs, rfl, hr, hbeg, hqn, HO, B, hGw⟩ := hrel
    have hlen : s.length = q := hr.len
    by_cases hlt : q < n
    · have h1 : (q : Int) < (n : Int) := by omega
      have HRL := hide hr.rl
      have HBG := hide hbeg
      go_wp2_with fail
      go_loopw [7, 8] (fun v7 v8 wr' => ∃ (z : Nat), z ≤ n ∧ v8 = .int .i64 ((z : Int) - 1) ∧ v7 = .int .i64 (nxI n (leastF n (rdyB n (adj bs) s) (n - z) z)) ∧ wr' = wr) (fun _ v8 _ => (RowKit.intOf v8 + 1).toNat)
      case atStart => exact ⟨n, Nat.le_refl _, rfl, by rw [Nat.sub_self]; show _ = Value.int .i64 (nxI n n); unfold nxI; rw [if_neg (by omega)], rfl⟩
      case round =>
        obtain ⟨z, hz, rfl, rfl, rfl⟩ := hrel
        rcases Nat.eq_zero_or_pos z with hz0 | hz0
        · subst hz0
          obtain ⟨x, hxx⟩ : ∃ x, nxt n (adj bs) s = x := ⟨_, rfl⟩
          have HE := hide (show leastF n (rdyB n (adj bs) s) (n - 0) 0 = x from hxx)
          rw [HE.out]
          have d0 : decide ((0 : Int) ≤ ((0 : Nat) : Int) - 1) = false := by decide
          by_cases hxn : x < n
          · have hr2 : rdyB n (adj bs) s x = true := by
              rcases nxt_spec n (adj bs) s with ⟨h1, _⟩ | ⟨_, h2⟩
              · omega
              · rwa [hxx] at h2
            have HBG2 := hide (hbeg.snoc hxn hr2)
            have HO2 := hide (show ordF n (adj bs) (n - (q + 1)) (s ++ [x]) = d from by
              have h1 := HO.out
              rw [show n - q = (n - (q + 1)) + 1 by omega] at h1
              unfold ordF at h1
              rwa [hxx, if_pos hxn] at h1)
            have e1 : nxI n x = (x : Int) := if_pos hxn
            rw [e1]
            have d1 : decide ((x : Int) < 0) = false := decide_eq_false (by omega)
            have HBF := hide hGw
            have F : Below wr.heap.size wr (wr.alloc (.cells #[.int .i64 (x : Int)] 3)) := (Below.refl _ _).alloc (Nat.le_refl _) _
            clear hxx hr2 e1 HE
            go_wp2_with (at_builtin; refine wpList_append_ir rfl _ _ 33 rfl 8 Try.underlying33 int_info G _ q cs s rfl (hr.below F) wr.heap.size 0 1 x rfl (Box.new wr #[.int .i64 (x : Int)] 3).cell (by omega) (q + 1) rfl (by omega) (by have := HBF.out; simp; omega) ?_; intro A9 c9 w9 hr9 hG9)
            have B9 := (B.trans (F.mono B.size)).trans (hG9.1.mono HG.out)
            have hs9 : G ≤ w9.heap.size := Nat.le_trans HBF.out (Nat.le_trans F.size hG9.2.1)
            go_roundw
            case measure => simp [slen]; omega
            case rel => exact ⟨s ++ [x], q + 1, A9, c9, rfl, hr9, HBG2.out, by omega, HO2, B9, hs9⟩
          · have hsd : s = d := by
              have h1 := HO.out
              rw [show n - q = (n - (q + 1)) + 1 by omega] at h1
              unfold ordF at h1
              rwa [hxx, if_neg hxn] at h1
            obtain ⟨rfl, rfl⟩ : xs = [] ∧ er = 11 := by
              rcases HR.out with ⟨_, h⟩ | ⟨h, _⟩
              · exact h
              · rw [← hsd] at h; omega
            have e1 : nxI n x = -1 := if_neg hxn
            rw [e1]
            clear hxx HE e1 hsd hxn HO HDD
            go_wp2_with fail
            refine bodyPost_ret (v := .tuple #[.slice none 0 0, .int .i64 11]) (by simp [results, Try.results26, go_sem]) rfl ?_
            exact GivesL.nil B
        · obtain ⟨v, rfl⟩ : ∃ v, z = v + 1 := ⟨z - 1, by omega⟩
          have ez : ((v + 1 : Nat) : Int) - 1 = (v : Int) := by omega
          rw [ez]
          obtain ⟨L, hL⟩ : ∃ L, nxI n (leastF n (rdyB n (adj bs) s) (n - (v + 1)) (v + 1)) = L := ⟨_, rfl⟩
          have HL := hide hL
          rw [hL]
          have i1 : (0 : Int) ≤ (v : Int) := by omega
          obtain ⟨r0, hr0⟩ : ∃ r, dn s v = r := ⟨_, rfl⟩
          have HR0 := hide hr0
          clear hL hr0 ez
          go_wp2_with fail
          refine (hasL_any As q cs s v _ HRL.out (by omega) r0 HR0.out).mono ?_
          rintro e w3 ⟨rfl, rfl⟩
          go_wp2_with fail
          go_loopw [9, 10] (fun v9 v10 wr'' => ∃ (k : Nat), k ≤ m ∧ v10 = .int .i64 ((k : Nat) : Int) ∧ v9 = .bool (freeB bs s v k) ∧ wr'' = wr) (fun _ v10 _ => m - (RowKit.intOf v10).toNat)
          case atStart => exact ⟨0, Nat.zero_le _, rfl, by rw [freeB_zero, HR0.out], rfl⟩
          case round =>
            obtain ⟨k, hk, rfl, rfl, rfl⟩ := hrel
            by_cases hlt3 : k < m
            · obtain ⟨b, o, y, rfl, hbl, hy, k0, k1⟩ := (HX.out.keep B).at_ hlt3
              obtain ⟨⟨p, t⟩, hp, rfl⟩ := zA_at hy
              simp only [zA] at k0 k1
              have HN := hide (freeB_next (s := s) (v := v) hp)
              have j1 : (0 : Int) ≤ (k : Int) := by omega
              have j2 : (k : Int) < (m : Int) := by omega
              obtain ⟨f, hf⟩ : ∃ f, freeB bs s v k = f := ⟨_, rfl⟩
              rw [hf]
              have HF := hide hf
              clear hy hp hf
              cases f with
              | false =>
                have HN2 := hide (show freeB bs s v (k + 1) = false from by rw [HN.out, HF.out]; rfl)
                go_wp2_with fail
                go_roundw
                case measure => simp [RowKit.intOf]; omega
                case rel => exact ⟨k + 1, by omega, by go_num, by rw [HN2.out], (by first | rfl | trivial)⟩
              | true =>
                by_cases htv : t = v
                · subst htv
                  obtain ⟨r2, hr2⟩ : ∃ r, dn s p = r := ⟨_, rfl⟩
                  have HR2 := hide hr2
                  have HN2 := hide (show freeB bs s t (k + 1) = r2 from by rw [HN.out, HF.out, hr2, beq_self_eq_true]; rfl)
                  clear hr2
                  go_wp2_with fail
                  refine (hasL_any As q cs s p _ HRL.out (by omega) r2 HR2.out).mono ?_
                  rintro e w3 ⟨rfl, rfl⟩
                  go_wp2_with fail
                  go_roundw
                  case measure => simp [RowKit.intOf]; omega
                  case rel => exact ⟨k + 1, by omega, by go_num, by rw [HN2.out], (by first | rfl | trivial)⟩
                · have e1 : ((t : Int) == (v : Int)) = false := beq_eq_false_iff_ne.2 (by omega)
                  have e2 : (t == v) = false := beq_eq_false_iff_ne.2 htv
                  have e3 : ¬ (t : Int) = (v : Int) := by omega
                  have HN2 := hide (show freeB bs s v (k + 1) = true from by rw [HN.out, HF.out, beq_eq_false_iff_ne.2 htv]; rfl)
                  clear htv
                  go_wp2_with fail
                  go_roundw
                  case measure => simp [RowKit.intOf]; omega
                  case rel => exact ⟨k + 1, by omega, by go_num, by rw [HN2.out], (by first | rfl | trivial)⟩
            · obtain rfl : k = m := by omega
              obtain ⟨f, hf⟩ : ∃ f, rdyB n (adj bs) s v = f := ⟨_, rfl⟩
              have HF := hide hf
              rw [freeB_end HD.out s v HBL.out, hf]
              have hnv : n - v = (n - (v + 1)) + 1 := by omega
              have d4 : decide ((k : Int) < (k : Int)) = false := decide_eq_false (by omega)
              cases f with
              | true =>
                have HN3 := hide (show nxI n (leastF n (rdyB n (adj bs) s) (n - v) v) = (v : Int) from by
                  rw [hnv, leastF_yes HF.out]; exact if_pos (by omega))
                clear hf hnv
                go_wp2_with fail
                go_roundw
                case measure => simp [RowKit.intOf]; (first | done | omega)
                case rel => exact ⟨v, by omega, rfl, by rw [HN3.out], (by first | rfl | trivial)⟩
              | false =>
                have HN3 := hide (show nxI n (leastF n (rdyB n (adj bs) s) (n - v) v) = L from by
                  rw [hnv, leastF_not HF.out]; exact HL.out)
                clear hf hnv
                go_wp2_with fail
                go_roundw
                case measure => simp [RowKit.intOf]; (first | done | omega)
                case rel => exact ⟨v, by omega, rfl, by rw [HN3.out], (by first | rfl | trivial)⟩
    · obtain rfl : q = n := by omega
      have hsd : s = d := by
        have h1 := HO.out
        rw [Nat.sub_self] at h1; exact h1
      obtain ⟨rfl, rfl⟩ : xs = s ∧ er = 0 := by
        rcases HR.out with ⟨h, _⟩ | ⟨_, h⟩
        · rw [← hsd] at h; omega
        · rw [hsd]; exact h
      subst hlen
      have d4 : decide ((xs.length : Int) < (xs.length : Int)) = false := decide_eq_false (by omega)
      clear hsd HO HR HDD hlt
      go_wp2_with fail
      refine bodyPost_ret (v := .tuple #[.slice As xs.length cs, .int .i64 0]) (by simp [results, Try.results26, go_sem]) rfl ?_
      exact ⟨⟨As, cs, rfl, hr.rl, hr.le.1, hr.le.2⟩, B⟩
theorem rorder_any (n : Int) (A : Option Addr) (m c : Nat) (l : List (Int × Int)) (w : World) (hx : YL w A m l) (xs : List Nat) (er : Int) (hr : resO n l = (xs, er)) :
    Calls Try.prog 26 #[.int .i64 n, .slice A m c] w (GivesL xs er w) := by
  unfold resO at hr
  rcases hv : vB n l with _ | _
  · rw [hv, if_neg (by decide)] at hr
    cases hr
    exact ror_v n A m c l w hx hv
  · rw [hv, if_pos rfl] at hr
    obtain ⟨N, bs, rfl, rfl, hd⟩ := vB_true hv
    rw [nA_zA, Int.toNat_natCast] at hr
    refine ror_y N A m c bs w hx hd _ rfl xs er ?_
    have := (ord_beg N (adj bs)).len
    by_cases h : (ord N (adj bs)).length < N
    · rw [if_pos h] at hr
      cases hr
      exact .inl ⟨h, rfl, rfl⟩
    · rw [if_neg h] at hr
      cases hr
      exact .inr ⟨by omega, rfl, rfl⟩
end Go.Proofs.Ytgmdfaamheblmaa
