/- CountingInverse: the walk -/
import Derived.Test.YtjmiaodjapclbaaDoorCLaw
import Derived.Test.YtjmiaodjapclbaaDoorCMod
import Derived.Test.YtjmiaodjapclbaaDoorCUnranks
import Derived.Test.YtjmiaodjapclbaaDoorIRow
import Derived.Deep.RegionHeld3
namespace Go.Proofs.YtjmiaodjapclbaaDoor
open Go Go.RowKit

theorem asc_up : ∀ (l : List Nat) (v e e' : Nat), asc_ v e l → e ≤ e' → asc_ v e' l
  | [], _, _, _, _, _ => trivial
  | s :: l, v, e, e', h, he => by
    obtain ⟨h1, h2, h3⟩ := h
    exact ⟨h1, by omega, asc_up l (s + 1) e e' h3 he⟩
theorem asc_snoc : ∀ (l : List Nat) (v e : Nat), asc_ v e l → v ≤ e → asc_ v (e + 1) (l ++ [e])
  | [], v, e, _, hv => ⟨hv, by omega, trivial⟩
  | s :: l, v, e, h, hv => by
    obtain ⟨h1, h2, h3⟩ := h
    exact ⟨h1, by omega, asc_snoc l (s + 1) e h3 (by omega)⟩
theorem aft_last : ∀ (l : List Nat) (n v : Nat), asc_ v n l → aft n l = 0 → ∀ (i x : Nat), l[i]? = some x → x + l.length = n + i
  | [], _, _, _, _, i, x, h => by simp at h
  | s :: l, n, v, ha, h0, i, x, h => by
    obtain ⟨h1, h2, h3⟩ := ha
    have e : cho (n - 1 - s) (l.length + 1) + aft n l = 0 := h0
    have h4 := asc_len l (s + 1) n h3 (by omega)
    have h5 : ¬ l.length + 1 ≤ n - 1 - s := fun h => by have := cho_pos h; omega
    cases i with
    | zero =>
      simp at h
      subst h
      rw [List.length_cons]; omega
    | succ i =>
      have := aft_last l n (s + 1) h3 (by omega) i x (by simpa using h)
      rw [List.length_cons]; omega
theorem rk_last {n : Nat} {l : List Nat} (ha : asc_ 0 n l) (h : rk n 0 l + 1 = cho n l.length) : ∀ (i x : Nat), l[i]? = some x → x + l.length = n + i := by
  have h1 := rk_aft n 0 l (by rw [Nat.zero_add]; exact ha)
  rw [Nat.zero_add] at h1
  exact aft_last l n 0 ha (by omega)
theorem cho_le2 : ∀ n k, cho n k ≤ 2 ^ n
  | n, 0 => by rw [cho_one]; exact Nat.one_le_two_pow
  | 0, k + 1 => Nat.zero_le _
  | n + 1, k + 1 => by
    have h1 := cho_le2 n k
    have h2 := cho_le2 n (k + 1)
    show cho n k + cho n (k + 1) ≤ 2 ^ n * 2
    omega
theorem lexl_drop {a b : List Nat} {x y : Nat} {i : Nat} (h : lexl (a.drop i) (b.drop i)) (h1 : a[i]? = some x) (h2 : b[i]? = some y) : x < y ∨ x = y ∧ lexl (a.drop (i + 1)) (b.drop (i + 1)) := by
  rw [drop_at h1, drop_at h2] at h
  exact h
theorem lexl_nil {a b : List Nat} {i : Nat} (h : lexl (a.drop i) (b.drop i)) : i < a.length := by
  rcases Nat.lt_or_ge i a.length with h1 | h1
  · exact h1
  · rw [List.drop_of_length_le h1] at h
    cases b.drop i <;> exact h.elim

set_option maxHeartbeats 16000000 in
set_option maxRecDepth 100000 in
theorem cinv_ok (i : Int) (n : Nat) (A : Option Addr) (m c : Nat) (ys : List Nat) (w : World) (HA : Hid (∀ w, Tab w → Calls Tryd.prog 12 #[] w fun e w' => e = .returned (.bool true) ∧ Below w.heap.size w w')) (hT : Tab w) (hr : RL w .u8 A m ys) (hmc : m ≤ maxLen) (hn : n ≤ 64) (hi : i % 65 = (n : Int)) : Calls Tryd.prog 11 #[.int .i64 i, .slice A m c] w fun e w' => e = .returned (.bool true) ∧ Below w.heap.size w w' := by
  have HT := hide hT
  clear hT
  unfold maxLen at hmc
  have HI := hide hi
  have HR := hide hr
  have HBm : Below w.heap.size w w := Below.refl _ _
  clear hi hr
  obtain ⟨lim, hl⟩ : ∃ lim, IntKind.i64.wrap (8 * (m : Int)) = lim := ⟨_, rfl⟩
  have HL := hide (show ∀ k : Nat, k < 64 → (k : Int) < lim → k / 8 < m from by
    intro k hk h
    rcases Nat.lt_or_ge m 8 with h8 | h8
    · have : IntKind.i64.wrap (8 * (m : Int)) = 8 * (m : Int) := IntWalk.i64_in _ (by omega)
      rw [this] at hl
      omega
    · omega)
  go_enter Tryd.func11, Tryd.ntmps11
  go_wp2_with fail
  have hbA := HBm
  with_reducible refine (HA.out _ HT.out).mono ?_
  rintro e w1 ⟨rfl, hb⟩
  have hbA := hbA.trans (hb.mono hbA.size)
  clear hb
  go_wp2_with fail
  with_reducible refine (mod_any i 65 (by omega) (by omega) (n : Int) HI.out _).mono ?_
  rintro e wx ⟨rfl, rfl⟩
  go_wp2_with fail
  have hx : IR w1 w1.heap.size none 0 0 [] := IR.nil_
  have HSW := hide hbA.size
  have HZ0 := hide (Nat.le_refl w1.heap.size)
  generalize hBB : w1.heap.size = B at hx HSW
  have HZ2 := hide (Nat.le_of_eq hBB.symm)
  clear hBB HZ0
  go_loopw [5, 6] (fun v5 v6 wr => ∃ (s : List Nat) (A5 : Option Addr) (q c5 k : Nat), k ≤ n ∧ v6 = .int .i64 ((k : Nat) : Int) ∧ v5 = .slice A5 q c5 ∧ IR wr B A5 q c5 s ∧ Hid (asc_ 0 k s) ∧ B ≤ wr.heap.size ∧ Below w.heap.size w wr) (fun _ v6 _ => n - (intOf v6).toNat)
  case atStart => exact ⟨[], _, 0, _, 0, Nat.zero_le _, rfl, rfl, hx, hide trivial, HZ2.out, hbA⟩
  case round =>
    clear hx hbA
    obtain ⟨s, A5, q, c5, k, hk, rfl, rfl, hx, HS, hB, hbA⟩ := hrel
    by_cases hkn : k < n
    · by_cases hkl : (k : Int) < lim
      · have dl : decide ((k : Int) < lim) = true := decide_eq_true hkl
        obtain ⟨e, he⟩ : ∃ e, k / 8 = e := ⟨_, rfl⟩
        obtain ⟨f, hf⟩ : ∃ f, k % 8 = f := ⟨_, rfl⟩
        have hem : e < m := by rw [← he]; exact HL.out k (by omega) hkl
        have hie : (k : Int) / 8 = (e : Int) := by omega
        have hif : (k : Int) % 8 = (f : Int) := by omega
        have hf8 : f ≤ 7 := by omega
        have i1 : (0 : Int) ≤ (e : Int) := by omega
        have i2 : (e : Int) < (m : Int) := by omega
        obtain ⟨b, o, y, rfl, hy, k0⟩ := (HR.out.below hbA).at_ hem
        clear he hf hy
        obtain ⟨z, hz⟩ : ∃ z, bits BinOp.and IntKind.u8 ((y : Int) / 2 ^ f) 1 = z := ⟨_, rfl⟩
        by_cases hz0 : z = 0
        · have e1 : (z == 0) = true := beq_iff_eq.2 hz0
          have e2 : (z != 0) = false := by rw [bne, e1]; rfl
          have HS2 := hide (show asc_ 0 (k + 1) s from asc_up s 0 k (k + 1) HS.out (by omega))
          clear hz0 HS
          go_wp2_with fail
          all_goals
            go_roundw
            case rel => exact ⟨s, A5, q, c5, k + 1, by omega, by go_num, rfl, hx, HS2, hB, hbA⟩
            case measure => simp [intOf]; omega
        · have e1 : (z == 0) = false := beq_eq_false_iff_ne.2 hz0
          have e2 : (z != 0) = true := by rw [bne, e1]; rfl
          have HS2 := hide (show asc_ 0 (k + 1) (s ++ [k]) from asc_snoc s 0 k HS.out (by omega))
          have hqk : q ≤ 64 := by
            have := asc_len s 0 k HS.out (by omega)
            rw [hx.len] at this
            omega
          have F : Below wr.heap.size wr (wr.alloc (.cells #[.int .i64 (k : Int)] 3)) := (Below.refl _ _).alloc (Nat.le_refl _) _
          have hbF := hbA.trans (F.mono hbA.size)
          have HBF := hide (Nat.le_trans hB F.size)
          clear hz0 HS hbA
          go_wp2_with (at_builtin; refine wpList_append_ir rfl _ _ 32 rfl 8 Tryd.underlying32 int_info B _ q c5 s rfl (hx.below F) wr.heap.size 0 1 k rfl (Box.new wr #[.int .i64 (k : Int)] 3).cell (by omega) (q + 1) rfl (by omega) HBF.out ?_; intro A9 c9 w9 hr9 hG9)
          all_goals
            have hbA := hbF.trans (hG9.1.mono HSW.out)
            have hB9 := Nat.le_trans HBF.out hG9.2.1
            have HR9 := hide hr9
            clear hr9 hG9 F hbF hx
            go_roundw
            case measure => simp [intOf]; omega
            case rel => exact ⟨s ++ [k], A9, q + 1, c9, k + 1, by omega, by go_num, rfl, HR9.out, HS2, hB9, hbA⟩
      · have dl : decide ((k : Int) < lim) = false := decide_eq_false hkl
        have HA1 := hide (asc_up s 0 k n HS.out hk)
        have hqn := asc_len s 0 n HA1.out (by omega)
        rw [Nat.zero_add, hx.len] at hqn
        obtain ⟨T, hT⟩ : ∃ T, rk n 0 s = T := ⟨_, rfl⟩
        have HTT := hide hT
        have hur := un_rk n 0 s (by rw [Nat.zero_add]; exact HA1.out)
        rw [hx.len, hT] at hur
        have HU1 := hide hur
        have HLT := hide hx.len
        have HT20 := hide (show T + 1 < B9 ^ 20 from by
          have h1 := hur.2
          have h2 := cho_le2 n q
          have h3 : 2 ^ n ≤ 2 ^ 64 := Nat.pow_le_pow_right (by decide) hn
          have h4 : 2 ^ 64 < B9 ^ 20 := by decide +kernel
          omega)
        have hxs := hx.rl
        have hqm := Nat.le_trans hx.le.1 hx.le.2
        have HQM := hide hqm
        clear hT hur hx HS hqm hB
        go_wp2_with fail
        with_reducible refine (crank_ok n A5 q c5 s _ hxs hn HA1.out T HTT.out).mono ?_
        intro e w2 h
        obtain ⟨A1, n1, c1, rfl, x1, hb2⟩ := GivesNE.cn h
        clear h
        have hbA := hbA.trans (hb2.mono hbA.size)
        have hxs := hxs.below hb2
        clear hb2
        go_wp2_with fail
        generalize hW : w2.alloc _ = W2
        obtain ⟨hb, b7, -⟩ := boxesA1 hW
        clear hW
        have hbA := hbA.trans (hb.mono hbA.size)
        have hxs := hxs.below hb
        have x1 := x1.below hb
        clear hb
        generalize w2.heap.size = g7 at *
        have HX1 := hide (show T < B9 ^ 20 from by have := HT20.out; omega)
        with_reducible refine (cunr_ok n q hn hqn A1 n1 c1 T _ (x1.nt HX1.out) HU1.out.2 s HU1.out.1).mono ?_
        rintro e w3 ⟨A2, m2, c2, rfl, hx2, hm2, hc2, hb3⟩
        obtain rfl : m2 = q := hx2.len.symm.trans HLT.out
        have hbA := hbA.trans (hb3.mono hbA.size)
        have hxs := hxs.below hb3
        have x1 := x1.below hb3
        have b7 := b7.below' hb3
        clear hb3 hm2 hc2
        go_wp2_with fail
        with_reducible refine (ints_eq A2 m2 c2 _ A5 c5 _ hx2.il hxs.il HQM.out).mono ?_
        rintro e w4 ⟨rfl, hb4⟩
        have hbA := hbA.trans (hb4.mono hbA.size)
        have hxs := hxs.below hb4
        have x1 := x1.below hb4
        have b7 := b7.below' hb4
        clear hb4 hx2
        go_wp2_with fail
        have KT : Hid (∀ w', Below w4.heap.size w4 w' → w'.cell? ⟨g7, 0, none⟩ = some (.slice A1 n1 c1)) := fun w' h => (b7.below' h).cell
        have KX : Hid (∀ w', Below w4.heap.size w4 w' → Cn w' A1 n1 c1 T) := fun w' h => x1.below h
        have P0 : Below w4.heap.size w4 w4.drew := (Below.refl _ _).drew
        clear b7 x1
        by_cases hne : T + 1 < cho n m2
        · have HNE := hide hne
          obtain ⟨U, hU⟩ : ∃ U, un n 0 m2 (T + 1) = U := ⟨_, rfl⟩
          have HUU := hide hU
          have hru := rk_un n 0 m2 (T + 1) hne
          rw [hU, Nat.zero_add] at hru
          have HLU := hide hru.1
          have HSU := hide (show setB (n : Int) 0 (ints U) = true from asc_setB n U 0 hru.2.1)
          have HLX := hide (show lexl (s.drop 0) (U.drop 0) from by
            have h1 := un_later n 0 m2 T (T + 1) (by omega) hne
            rw [HU1.out.1, hU] at h1
            rw [List.drop_zero, List.drop_zero]
            exact h1)
          clear hne hU hru
          go_region_held3 (fun w' => w'.cell? ⟨g7, 0, none⟩ = some (.slice A1 n1 c1))
            (first | exact KT.out _ E63 | exact KT.out _ E62 | exact KT.out _ E61 | exact KT.out _ P0 | exact KT.out _ (Below.refl _ _))
            (first
              | (go_at_call 36; (with_reducible refine (of_one _).mono ?_); rintro e w61 ⟨A61, n61, c61, rfl, r61, l61, m61, hb61⟩; have E61 : Below w4.heap.size w4 w61 := P0.trans (hb61.mono P0.size); have h61 : Cn w61 A61 n61 c61 1 := ⟨r61, l61, m61⟩; have h61 := h61.nt (L := 20) (by decide +kernel))
              | (go_at_call 33; (with_reducible refine (add_n (L := 20) ((KX.out _ E61).nt HX1.out) h61 (by omega) (T + 1) rfl).mono ?_); rintro e w62 ⟨A62, n62, c62, rfl, r62, l62, m62, hb62⟩; have E62 : Below w4.heap.size w4 w62 := E61.trans (hb62.mono E61.size); have h62 : Cn w62 A62 n62 c62 (T + 1) := ⟨r62, l62, m62⟩; have h62 := h62.nt HT20.out)
              | (go_at_call 28; (with_reducible refine (cunr_ok n m2 hn hqn A62 n62 c62 (T + 1) _ h62 HNE.out U HUU.out).mono ?_); rintro e w63 ⟨A63, m63, c63, rfl, hx63, hm63, hc63, hb63⟩; have E63 : Below w4.heap.size w4 w63 := E62.trans (hb63.mono E62.size)))
          obtain rfl : m63 = m2 := hx63.len.symm.trans HLU.out
          have hbA := hbA.trans (E63.mono hbA.size)
          have hxs := hxs.below E63
          clear E61 E62 E63 P0 KT KX h61 h62 r61 l61 m61 r62 l62 m62 hb61 hb62 hb63 hm63 hc63
          go_wp2_with fail
          with_reducible refine (asc_any n _ A63 m63 c63 _ _ hx63.il (by omega) (by omega) HQM.out true HSU.out).mono ?_
          rintro e w5 ⟨rfl, hb5⟩
          have hbA := hbA.trans (hb5.mono hbA.size)
          have hxs := hxs.below hb5
          have hx63 := hx63.below hb5
          clear hb5
          go_wp2_with fail
          have HQN := hide hqn
          go_loopw [14] (fun v14 wr => ∃ j z : Nat, j ≤ m63 ∧ v14 = .int .i64 ((j : Nat) : Int) ∧ wr = w5.drewN z ∧ Hid (lexl (s.drop j) (U.drop j))) (fun v14 _ => m63 - (intOf v14).toNat)
          case atStart => exact ⟨0, 0, Nat.zero_le _, rfl, rfl, HLX⟩
          case round =>
            obtain ⟨j, z, hj, rfl, rfl, HJ⟩ := hrel
            have hlt : j < m63 := by have := lexl_nil HJ.out; rw [HLT.out] at this; exact this
            obtain ⟨b1, o1, x, rfl, hx1, k1⟩ := (hxs.drewN z).at_ hlt
            obtain ⟨b2, o2, y, rfl, hy1, k2⟩ := (hx63.drewN z).at_ hlt
            have HB : Hid (Below w5.heap.size w5 (w5.drewN z)) := below_drewN (Below.refl _ _) z
            have HQ : Hid (∀ q, (w5.drewN z).drewN q = w5.drewN (z + q)) := fun q => World.drewN_drewN _ _ _
            have hld := lexl_drop HJ.out hx1 hy1
            have i1 : (0 : Int) ≤ (j : Int) := by omega
            have i2 : (j : Int) < (m63 : Int) := by omega
            clear hx1 hy1
            generalize w5.drewN z = W5 at *
            by_cases hxy : x = y
            · subst hxy
              have HN := hide (hld.resolve_left (by omega)).2
              clear hld
              go_wp2_with fail
              go_quiet (fail)
              go_wp2_with fail
              go_roundw
              case rel => exact ⟨j + 1, _, by omega, by go_num, HQ.out _, HN⟩
              case measure => simp [intOf]; omega
            · have hlt2 : x < y := by omega
              have e1 : ((y : Int) == (x : Int)) = false := beq_eq_false_iff_ne.2 (by omega)
              have e2 : decide ((x : Int) < (y : Int)) = true := by simp; omega
              have e3 : (y == x) = false := beq_eq_false_iff_ne.2 (by omega)
              have e4 : ¬ y = x := by omega
              clear hld hxy
              go_wp2_with fail
              go_quiet (fail)
              go_wp2_with fail
              go_quiet (fail)
              go_wp2_with fail
              go_ret
              exact ⟨rfl, hbA.trans ((below_drewN (below_drewN HB.out _) _).mono hbA.size)⟩
        · have HNE := hide (show cho n m2 ≤ T + 1 from by omega)
          have HLA := hide (show ∀ (i x : Nat), s[i]? = some x → x + m2 = n + i from by
            have h1 := rk_last HA1.out (by rw [HTT.out, HLT.out]; have := HU1.out.2; omega)
            rw [HLT.out] at h1
            exact h1)
          clear hne
          go_region_held3 (fun w' => w'.cell? ⟨g7, 0, none⟩ = some (.slice A1 n1 c1))
            (first | exact KT.out _ E63 | exact KT.out _ E62 | exact KT.out _ E61 | exact KT.out _ P0 | exact KT.out _ (Below.refl _ _))
            (first
              | (go_at_call 36; (with_reducible refine (of_one _).mono ?_); rintro e w61 ⟨A61, n61, c61, rfl, r61, l61, m61, hb61⟩; have E61 : Below w4.heap.size w4 w61 := P0.trans (hb61.mono P0.size); have h61 : Cn w61 A61 n61 c61 1 := ⟨r61, l61, m61⟩; have h61 := h61.nt (L := 20) (by decide +kernel))
              | (go_at_call 33; (with_reducible refine (add_n (L := 20) ((KX.out _ E61).nt HX1.out) h61 (by omega) (T + 1) rfl).mono ?_); rintro e w62 ⟨A62, n62, c62, rfl, r62, l62, m62, hb62⟩; have E62 : Below w4.heap.size w4 w62 := E61.trans (hb62.mono E61.size); have h62 : Cn w62 A62 n62 c62 (T + 1) := ⟨r62, l62, m62⟩; have h62 := h62.nt HT20.out)
              | (go_at_call 28; (with_reducible refine (cunr_none n m2 hn hqn A62 n62 c62 (T + 1) _ h62 HNE.out).mono ?_); rintro e w63 ⟨rfl, hb63⟩; have E63 : Below w4.heap.size w4 w63 := E62.trans (hb63.mono E62.size)))
          have hbA := hbA.trans (E63.mono hbA.size)
          have hxs := hxs.below E63
          clear E61 E62 E63 P0 KT KX h61 h62 r61 l61 m61 r62 l62 m62 hb61 hb62 hb63
          go_wp2_with fail
          go_loop [13] (fun v13 => ∃ j : Nat, j ≤ m2 ∧ v13 = .int .i64 ((j : Nat) : Int)) (fun v13 => m2 - (intOf v13).toNat)
          case atStart => exact ⟨0, Nat.zero_le _, rfl⟩
          case round =>
            obtain ⟨j, hj, rfl⟩ := hrel
            by_cases hlt : j < m2
            · obtain ⟨b1, o1, x, rfl, hx1, k1⟩ := hxs.at_ hlt
              have hxe := HLA.out j x hx1
              have he : (n : Int) - (m2 : Int) + (j : Int) = (x : Int) := by omega
              have i1 : (0 : Int) ≤ (j : Int) := by omega
              have i2 : (j : Int) < (m2 : Int) := by omega
              clear hx1 hxe
              go_wp2_with fail
              go_round
              case rel => exact ⟨j + 1, by omega, by go_num⟩
              case measure => simp [intOf]; omega
            · obtain rfl : j = m2 := by omega
              go_wp2_with fail
              go_ret
              exact ⟨rfl, hbA⟩
    · have hkn2 : ¬ k < n := hkn
      have HA1 := hide (asc_up s 0 k n HS.out hk)
      have hqn := asc_len s 0 n HA1.out (by omega)
      rw [Nat.zero_add, hx.len] at hqn
      obtain ⟨T, hT⟩ : ∃ T, rk n 0 s = T := ⟨_, rfl⟩
      have HTT := hide hT
      have hur := un_rk n 0 s (by rw [Nat.zero_add]; exact HA1.out)
      rw [hx.len, hT] at hur
      have HU1 := hide hur
      have HLT := hide hx.len
      have HT20 := hide (show T + 1 < B9 ^ 20 from by
        have h1 := hur.2
        have h2 := cho_le2 n q
        have h3 : 2 ^ n ≤ 2 ^ 64 := Nat.pow_le_pow_right (by decide) hn
        have h4 : 2 ^ 64 < B9 ^ 20 := by decide +kernel
        omega)
      have hxs := hx.rl
      have hqm := Nat.le_trans hx.le.1 hx.le.2
      have HQM := hide hqm
      clear hT hur hx HS hqm hB
      go_wp2_with fail
      with_reducible refine (crank_ok n A5 q c5 s _ hxs hn HA1.out T HTT.out).mono ?_
      intro e w2 h
      obtain ⟨A1, n1, c1, rfl, x1, hb2⟩ := GivesNE.cn h
      clear h
      have hbA := hbA.trans (hb2.mono hbA.size)
      have hxs := hxs.below hb2
      clear hb2
      go_wp2_with fail
      generalize hW : w2.alloc _ = W2
      obtain ⟨hb, b7, -⟩ := boxesA1 hW
      clear hW
      have hbA := hbA.trans (hb.mono hbA.size)
      have hxs := hxs.below hb
      have x1 := x1.below hb
      clear hb
      generalize w2.heap.size = g7 at *
      have HX1 := hide (show T < B9 ^ 20 from by have := HT20.out; omega)
      with_reducible refine (cunr_ok n q hn hqn A1 n1 c1 T _ (x1.nt HX1.out) HU1.out.2 s HU1.out.1).mono ?_
      rintro e w3 ⟨A2, m2, c2, rfl, hx2, hm2, hc2, hb3⟩
      obtain rfl : m2 = q := hx2.len.symm.trans HLT.out
      have hbA := hbA.trans (hb3.mono hbA.size)
      have hxs := hxs.below hb3
      have x1 := x1.below hb3
      have b7 := b7.below' hb3
      clear hb3 hm2 hc2
      go_wp2_with fail
      with_reducible refine (ints_eq A2 m2 c2 _ A5 c5 _ hx2.il hxs.il HQM.out).mono ?_
      rintro e w4 ⟨rfl, hb4⟩
      have hbA := hbA.trans (hb4.mono hbA.size)
      have hxs := hxs.below hb4
      have x1 := x1.below hb4
      have b7 := b7.below' hb4
      clear hb4 hx2
      go_wp2_with fail
      have KT : Hid (∀ w', Below w4.heap.size w4 w' → w'.cell? ⟨g7, 0, none⟩ = some (.slice A1 n1 c1)) := fun w' h => (b7.below' h).cell
      have KX : Hid (∀ w', Below w4.heap.size w4 w' → Cn w' A1 n1 c1 T) := fun w' h => x1.below h
      have P0 : Below w4.heap.size w4 w4.drew := (Below.refl _ _).drew
      clear b7 x1
      by_cases hne : T + 1 < cho n m2
      · have HNE := hide hne
        obtain ⟨U, hU⟩ : ∃ U, un n 0 m2 (T + 1) = U := ⟨_, rfl⟩
        have HUU := hide hU
        have hru := rk_un n 0 m2 (T + 1) hne
        rw [hU, Nat.zero_add] at hru
        have HLU := hide hru.1
        have HSU := hide (show setB (n : Int) 0 (ints U) = true from asc_setB n U 0 hru.2.1)
        have HLX := hide (show lexl (s.drop 0) (U.drop 0) from by
          have h1 := un_later n 0 m2 T (T + 1) (by omega) hne
          rw [HU1.out.1, hU] at h1
          rw [List.drop_zero, List.drop_zero]
          exact h1)
        clear hne hU hru
        go_region_held3 (fun w' => w'.cell? ⟨g7, 0, none⟩ = some (.slice A1 n1 c1))
          (first | exact KT.out _ E63 | exact KT.out _ E62 | exact KT.out _ E61 | exact KT.out _ P0 | exact KT.out _ (Below.refl _ _))
          (first
            | (go_at_call 36; (with_reducible refine (of_one _).mono ?_); rintro e w61 ⟨A61, n61, c61, rfl, r61, l61, m61, hb61⟩; have E61 : Below w4.heap.size w4 w61 := P0.trans (hb61.mono P0.size); have h61 : Cn w61 A61 n61 c61 1 := ⟨r61, l61, m61⟩; have h61 := h61.nt (L := 20) (by decide +kernel))
            | (go_at_call 33; (with_reducible refine (add_n (L := 20) ((KX.out _ E61).nt HX1.out) h61 (by omega) (T + 1) rfl).mono ?_); rintro e w62 ⟨A62, n62, c62, rfl, r62, l62, m62, hb62⟩; have E62 : Below w4.heap.size w4 w62 := E61.trans (hb62.mono E61.size); have h62 : Cn w62 A62 n62 c62 (T + 1) := ⟨r62, l62, m62⟩; have h62 := h62.nt HT20.out)
            | (go_at_call 28; (with_reducible refine (cunr_ok n m2 hn hqn A62 n62 c62 (T + 1) _ h62 HNE.out U HUU.out).mono ?_); rintro e w63 ⟨A63, m63, c63, rfl, hx63, hm63, hc63, hb63⟩; have E63 : Below w4.heap.size w4 w63 := E62.trans (hb63.mono E62.size)))
        obtain rfl : m63 = m2 := hx63.len.symm.trans HLU.out
        have hbA := hbA.trans (E63.mono hbA.size)
        have hxs := hxs.below E63
        clear E61 E62 E63 P0 KT KX h61 h62 r61 l61 m61 r62 l62 m62 hb61 hb62 hb63 hm63 hc63
        go_wp2_with fail
        with_reducible refine (asc_any n _ A63 m63 c63 _ _ hx63.il (by omega) (by omega) HQM.out true HSU.out).mono ?_
        rintro e w5 ⟨rfl, hb5⟩
        have hbA := hbA.trans (hb5.mono hbA.size)
        have hxs := hxs.below hb5
        have hx63 := hx63.below hb5
        clear hb5
        go_wp2_with fail
        have HQN := hide hqn
        go_loopw [14] (fun v14 wr => ∃ j z : Nat, j ≤ m63 ∧ v14 = .int .i64 ((j : Nat) : Int) ∧ wr = w5.drewN z ∧ Hid (lexl (s.drop j) (U.drop j))) (fun v14 _ => m63 - (intOf v14).toNat)
        case atStart => exact ⟨0, 0, Nat.zero_le _, rfl, rfl, HLX⟩
        case round =>
          obtain ⟨j, z, hj, rfl, rfl, HJ⟩ := hrel
          have hlt : j < m63 := by have := lexl_nil HJ.out; rw [HLT.out] at this; exact this
          obtain ⟨b1, o1, x, rfl, hx1, k1⟩ := (hxs.drewN z).at_ hlt
          obtain ⟨b2, o2, y, rfl, hy1, k2⟩ := (hx63.drewN z).at_ hlt
          have HB : Hid (Below w5.heap.size w5 (w5.drewN z)) := below_drewN (Below.refl _ _) z
          have HQ : Hid (∀ q, (w5.drewN z).drewN q = w5.drewN (z + q)) := fun q => World.drewN_drewN _ _ _
          have hld := lexl_drop HJ.out hx1 hy1
          have i1 : (0 : Int) ≤ (j : Int) := by omega
          have i2 : (j : Int) < (m63 : Int) := by omega
          clear hx1 hy1
          generalize w5.drewN z = W5 at *
          by_cases hxy : x = y
          · subst hxy
            have HN := hide (hld.resolve_left (by omega)).2
            clear hld
            go_wp2_with fail
            go_quiet (fail)
            go_wp2_with fail
            go_roundw
            case rel => exact ⟨j + 1, _, by omega, by go_num, HQ.out _, HN⟩
            case measure => simp [intOf]; omega
          · have hlt2 : x < y := by omega
            have e1 : ((y : Int) == (x : Int)) = false := beq_eq_false_iff_ne.2 (by omega)
            have e2 : decide ((x : Int) < (y : Int)) = true := by simp; omega
            have e3 : (y == x) = false := beq_eq_false_iff_ne.2 (by omega)
            have e4 : ¬ y = x := by omega
            clear hld hxy
            go_wp2_with fail
            go_quiet (fail)
            go_wp2_with fail
            go_quiet (fail)
            go_wp2_with fail
            go_ret
            exact ⟨rfl, hbA.trans ((below_drewN (below_drewN HB.out _) _).mono hbA.size)⟩
      · have HNE := hide (show cho n m2 ≤ T + 1 from by omega)
        have HLA := hide (show ∀ (i x : Nat), s[i]? = some x → x + m2 = n + i from by
          have h1 := rk_last HA1.out (by rw [HTT.out, HLT.out]; have := HU1.out.2; omega)
          rw [HLT.out] at h1
          exact h1)
        clear hne
        go_region_held3 (fun w' => w'.cell? ⟨g7, 0, none⟩ = some (.slice A1 n1 c1))
          (first | exact KT.out _ E63 | exact KT.out _ E62 | exact KT.out _ E61 | exact KT.out _ P0 | exact KT.out _ (Below.refl _ _))
          (first
            | (go_at_call 36; (with_reducible refine (of_one _).mono ?_); rintro e w61 ⟨A61, n61, c61, rfl, r61, l61, m61, hb61⟩; have E61 : Below w4.heap.size w4 w61 := P0.trans (hb61.mono P0.size); have h61 : Cn w61 A61 n61 c61 1 := ⟨r61, l61, m61⟩; have h61 := h61.nt (L := 20) (by decide +kernel))
            | (go_at_call 33; (with_reducible refine (add_n (L := 20) ((KX.out _ E61).nt HX1.out) h61 (by omega) (T + 1) rfl).mono ?_); rintro e w62 ⟨A62, n62, c62, rfl, r62, l62, m62, hb62⟩; have E62 : Below w4.heap.size w4 w62 := E61.trans (hb62.mono E61.size); have h62 : Cn w62 A62 n62 c62 (T + 1) := ⟨r62, l62, m62⟩; have h62 := h62.nt HT20.out)
            | (go_at_call 28; (with_reducible refine (cunr_none n m2 hn hqn A62 n62 c62 (T + 1) _ h62 HNE.out).mono ?_); rintro e w63 ⟨rfl, hb63⟩; have E63 : Below w4.heap.size w4 w63 := E62.trans (hb63.mono E62.size)))
        have hbA := hbA.trans (E63.mono hbA.size)
        have hxs := hxs.below E63
        clear E61 E62 E63 P0 KT KX h61 h62 r61 l61 m61 r62 l62 m62 hb61 hb62 hb63
        go_wp2_with fail
        go_loop [13] (fun v13 => ∃ j : Nat, j ≤ m2 ∧ v13 = .int .i64 ((j : Nat) : Int)) (fun v13 => m2 - (intOf v13).toNat)
        case atStart => exact ⟨0, Nat.zero_le _, rfl⟩
        case round =>
          obtain ⟨j, hj, rfl⟩ := hrel
          by_cases hlt : j < m2
          · obtain ⟨b1, o1, x, rfl, hx1, k1⟩ := hxs.at_ hlt
            have hxe := HLA.out j x hx1
            have he : (n : Int) - (m2 : Int) + (j : Int) = (x : Int) := by omega
            have i1 : (0 : Int) ≤ (j : Int) := by omega
            have i2 : (j : Int) < (m2 : Int) := by omega
            clear hx1 hxe
            go_wp2_with fail
            go_round
            case rel => exact ⟨j + 1, by omega, by go_num⟩
            case measure => simp [intOf]; omega
          · obtain rfl : j = m2 := by omega
            go_wp2_with fail
            go_ret
            exact ⟨rfl, hbA⟩
end Go.Proofs.YtjmiaodjapclbaaDoor
